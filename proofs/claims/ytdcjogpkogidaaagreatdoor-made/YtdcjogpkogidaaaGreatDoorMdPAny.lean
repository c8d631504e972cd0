/- Get of the program, whatever the path. -/
import Derived.Test.YtdcjogpkogidaaaGreatDoorMdGPure
import Derived.Test.YtdcjogpkogidaaaGreatDoorMdMRec
import Derived.Test.YtdcjogpkogidaaaGreatDoorMdMCho
section
namespace Go.Proofs.YtdcjogpkogidaaaGreatDoor
open Go.RowKit

def zz : Bs := [122, 122]
/-- No field and no case is named zz. -/
def N2 : Nat → PT → Prop
  | 0, _ => True
  | k + 1, t => (9 ≤ t.kind → ∀ n ∈ t.names, n.data.toList ≠ zz) ∧ ∀ u ∈ t.subs, N2 k u

theorem sub_mem {t : PT} {i : Nat} (h : i < t.subs.length) : t.sub i ∈ t.subs := by
  unfold PT.sub
  rw [List.getElem?_eq_getElem h]
  exact List.getElem_mem h
theorem step_sub {k : Nat} {t : PT} {v : PV} (hW : WFT (k + 1) t) (hV : Valid (k + 1) t v) : ∀ u ∈ v.parts, ∃ t' ∈ t.subs, Valid k t' u := by
  obtain ⟨hof, h⟩ := hV
  split at h
  · rw [h.2.1]; simp
  split at h
  · rw [h.2.1]; simp
  split at h
  · rw [h.2.1]; simp
  split at h
  · rw [h.2.1]; simp
  split at h
  · rw [h.2.1]; simp
  split at h
  · rename_i h7
    have hs := hW.2.2.2.2.1 (.inl h7)
    exact fun u hu => ⟨_, sub_mem (i := 0) (by omega), h.2.2.2 u hu⟩
  split at h
  · rename_i h8
    have hs := hW.2.2.2.2.1 (.inr h8)
    exact fun u hu => ⟨_, sub_mem (i := 0) (by omega), h.2.2.2 u hu⟩
  split at h
  · intro u hu
    obtain ⟨i, hi⟩ := List.mem_iff_getElem?.1 hu
    have hil := (List.getElem?_eq_some_iff.1 hi).1
    exact ⟨_, sub_mem (i := i) (by omega), h.2.2.2 i u hi⟩
  · obtain ⟨_, j, x, hj, hjl, hpp, hx⟩ := h
    rw [hpp]
    intro u hu
    simp at hu
    subst hu
    exact ⟨_, sub_mem hjl, hx⟩
theorem decN_digit : ∀ (f n : Nat), ∀ b ∈ decN f n, b.toNat ≤ 57 := by
  intro f
  induction f with
  | zero => intro n b hb; simp [decN] at hb
  | succ f ih =>
    intro n b hb
    simp only [decN] at hb
    rcases List.mem_append.1 hb with h | h
    · split at h
      · simp at h
      · exact ih _ b h
    · simp only [List.mem_singleton] at h
      subst h
      rw [toNat_ofNat (by omega)]
      omega
theorem no_zz {k : Nat} {t : PT} {v : PV} (hW : WFT (k + 1) t) (h2 : N2 (k + 1) t) (hV : Valid (k + 1) t v) : behindP v zz = none := by
  rcases hb : behindP v zz with _ | u
  · rfl
  · exfalso
    obtain ⟨j, _, hj, h3⟩ := behindI_at _ _ hb
    rw [Nat.zero_add] at hj
    have hk := (hV.stepOk hW).1 j hj
    have hnm : ∀ i, 9 ≤ t.kind → t.name i = zz → False := fun i h9 e => by
      unfold PT.name at e
      rcases hn : t.names[i]? with _ | n
      · rw [hn] at e; simp [zz] at e
      · rw [hn, Option.getD_some] at e
        exact h2.1 h9 n (List.mem_of_getElem? hn) e
    rw [hV.1] at h3 hk
    unfold stepOf at h3
    split at h3
    · have := decN_digit 20 j 122 (by rw [h3]; simp [zz])
      simp at this
    · split at h3
      · simp [zz] at h3
      · rcases hk with h | h | ⟨h, _⟩ | ⟨h, _⟩
        · contradiction
        · contradiction
        · rw [if_pos h] at h3; exact hnm _ (by omega) h3
        · rw [if_neg (by omega)] at h3; exact hnm _ (by omega) h3
theorem behindI_find {v x : PV} {st : Bs} : ∀ (l : List PV) (i j : Nat), l[j]? = some x → stepOf v.of v.num (i + j) = st → (∀ m, m < l.length → stepOf v.of v.num (i + m) = st → m = j) → behindI v st i l = some x := by
  intro l
  induction l with
  | nil => intro i j h; simp at h
  | cons y l ih =>
    intro i j h1 h2 h3
    unfold behindI
    cases j with
    | zero => rw [if_pos (show stepOf v.of v.num i = st from h2)]; simpa using h1
    | succ j =>
      rw [if_neg (fun e => by have := h3 0 (by simp) e; omega)]
      refine ih (i + 1) j (by simpa using h1) (by rw [show i + 1 + j = i + (j + 1) by omega]; exact h2) (fun m hm e => ?_)
      have := h3 (m + 1) (by simp; omega) (by rw [show i + (m + 1) = i + 1 + m by omega]; exact e)
      omega
theorem ways_gone : ∀ (k : Nat) (t : PT) (v : PV) (q : List Bs), WFT k t → NE k t → N2 k t → Valid k t v → ∀ a ∈ waysL k q v, ∃ (l : List Bs) (u : PV) (t' : PT), a.1 = q ++ l ∧ goneP v l = some u ∧ a.2 = wText (k - l.length) u ∧ l.length < k ∧ WFT (k - l.length) t' ∧ NE (k - l.length) t' ∧ N2 (k - l.length) t' ∧ Valid (k - l.length) t' u := by
  intro k
  induction k with
  | zero => intro t v q _ _ _ h; exact h.elim
  | succ k ih =>
    intro t v q hW hN h2 hV a ha
    unfold waysL at ha
    rcases List.mem_cons.1 ha with rfl | ha
    · exact ⟨[], v, t, by simp, rfl, rfl, by simp, hW, hN, h2, hV⟩
    · obtain ⟨j, x, _, hj, hx, hax⟩ := kids_mem _ _ ha
      rw [Nat.sub_zero] at hx
      rw [Nat.zero_add] at hj
      have hxm := List.mem_of_getElem? hx
      obtain ⟨t', ht', hV'⟩ := step_sub hW hV x hxm
      obtain ⟨_, hinj, _⟩ := step_all hW hN hV
      obtain ⟨l, u, t'', e1, e2, e3, e4, e5⟩ := ih t' x _ (hW.2.2.1 t' ht') (hN.2 t' ht') (h2.2 t' ht') hV' a hax
      have hb : behindP v (stepOf v.of v.num j) = some x := behindI_find v.parts 0 j hx (by rw [Nat.zero_add]) (fun m hm e => hinj m j hm hj (by rw [Nat.zero_add] at e; exact e))
      have hk : k + 1 - (stepOf v.of v.num j :: l).length = k - l.length := by simp
      refine ⟨stepOf v.of v.num j :: l, u, t'', by rw [e1]; simp, ?_, by rw [hk]; exact e3, by simp; omega, by rw [hk]; exact e5⟩
      simp only [goneP]
      rw [hb]
      exact e2

theorem ba_ne {l : Bs} (h : l ≠ []) : ba l ≠ ⟨#[]⟩ := fun e => h (by
  have := congrArg (fun x : ByteArray => x.data.toList) e
  simpa [ba] using this)

/-- What each path leads to. -/
theorem made_get {t : PT} {v : PV} (hW : WFT 12 t) (hN : NE 12 t) (h2 : N2 12 t) (hV : Valid 12 t v) : ∀ a ∈ waysOf 12 [] v, getV v (ba a.1) = (ba a.2, 0, 0) ∧ (getV v (ba (a.1 ++ 47 :: zz))).2.1 = 7 := by
  intro a ha
  obtain ⟨w1, w2⟩ := ways_list 12 t v [] hW hN hV (by simp)
  have w1' : waysOf 12 [] v = _ := w1
  rw [w1'] at ha
  obtain ⟨b, hb, rfl⟩ := List.mem_map.1 ha
  obtain ⟨l, u, t', e1, e2, e3, e4, f1, f2, f3, f4⟩ := ways_gone 12 t v [] hW hN h2 hV b hb
  have hst := w2 b hb
  rw [List.nil_append] at e1
  simp only
  have hbd : ∀ x : Bs, (ba x).data.toList = x := fun x => by simp [ba]
  by_cases hl : l = []
  · subst hl
    simp [goneP] at e2
    subst e2
    rw [e1, e3]
    constructor
    · unfold getV
      rw [if_pos (show ba (joinP []) = ⟨#[]⟩ from rfl)]
      rfl
    · unfold getV
      rw [if_neg (ba_ne (by simp [joinP])), hbd]
      have hs : splitP (joinP [] ++ 47 :: zz) = [[], zz] := by decide
      rw [hs]
      rcases hb : behindP v [] with _ | x
      · simp only [partP, hb]
      · exact (behind_empty hW hN hV hb).elim
  · rw [e1]
    have hns : ∀ x ∈ l, Step x := fun x hx => hst x (by rw [e1]; exact hx)
    have hj : joinP l ≠ [] := joinP_ne hl (fun x hx => (hns x hx).1)
    have hsp : splitP (joinP l) = l := split_join l hl (fun x hx => (hns x hx).2)
    constructor
    · unfold getV
      rw [if_neg (ba_ne hj), hbd, hsp]
      have hp := partP_gone l [] v u 0 e2
      rw [List.append_nil] at hp
      rw [hp]
      simp only [partP]
      rw [e3]
    · unfold getV
      rw [if_neg (ba_ne (by simp)), hbd, ← joinP_snoc zz l hl, split_join (l ++ [zz]) (by simp) (fun x hx => by
        rcases List.mem_append.1 hx with hx | hx
        · exact (hns x hx).2
        · simp at hx; subst hx; decide), partP_gone l [zz] v u 0 e2]
      obtain ⟨k, hk⟩ : ∃ k, 12 - l.length = k + 1 := ⟨12 - l.length - 1, by omega⟩
      rw [hk] at f1 f3 f4
      simp only [partP, no_zz f1 f3 f4]

/-- No name of a type that is made is zz. -/
theorem made_get_all {s data : ByteArray} {v : PV} (hc : checkP s = (0, 0)) (h2 : N2 12 (typeP s)) (hV : Valid 12 (typeP s) v) (hd : data.data.toList = wMsg 12 v) (hs : data.size ≤ 1000) : ∀ a ∈ waysOf 12 [] v, getP s data (ba a.1) = (ba a.2, 0, 0) ∧ (getP s data (ba (a.1 ++ 47 :: zz))).2.1 = 7 := by
  intro a ha
  have hW := typeP_good hc
  have hm := rMsg_whole 12 (typeP s) v [] hW hV
  rw [List.append_nil] at hm
  have e : ∀ p, getP s data p = getV v p := fun p => by
    unfold getP getT
    rw [if_pos (by rw [hc]), if_pos hs, hd, hm]
    rfl
  rw [e, e]
  exact made_get hW (typeP_ne s 12) h2 hV a ha

end Go.Proofs.YtdcjogpkogidaaaGreatDoor
end
section
namespace Go.Proofs.YtdcjogpkogidaaaGreatDoor.Q
open Go.RowKit

theorem MadeT.kind_le {k : Nat} {t : PT} (h : MadeT (k + 1) t) : t.kind ≤ 10 := by
  rcases h with ⟨h, _⟩ | ⟨h, _⟩ | ⟨h, _⟩ <;> omega
theorem several_of {k : Nat} (HV : ValSaid k) : SevSaid k := by
  intro w B B2 mb tv n ways nums sz a t p st h hr
  have hk := MadeT.kind_le (k := k) h.md
  rcases (show t.kind ≤ 3 ∨ t.kind = 4 ∨ t.kind = 5 ∨ t.kind = 6 ∨ t.kind = 7 ∨ t.kind = 8 ∨ t.kind = 9 ∨ t.kind = 10 by omega) with q | q | q | q | q | q | q | q
  · exact sevM_num h hr q
  · exact sevM_bool h hr q
  · exact sevM_text h hr q
  · exact sevM_bytes h hr q
  · exact sevM_list HV h hr q
  · exact sevM_opt HV h hr q
  · exact sevM_rec HV h hr q
  · exact sevM_choice HV h hr q
theorem value_all : ∀ k, ValSaid k := by
  intro k
  induction k with
  | zero => intro w B B2 mb tv n ways nums sz a t p st h; exact h.md.elim
  | succ k ih => exact value_of (several_of ih)

theorem between_eq {f g : PV → Bs} : ∀ (l : List PV), (∀ x ∈ l, f x = g x) → wBetween f l = wBetween g l := by
  intro l
  induction l with
  | nil => intro _; rfl
  | cons v l ih =>
    intro h
    have h1 := h v (by simp)
    have h2 := ih (fun x hx => h x (by simp [hx]))
    cases l with
    | nil => simp only [wBetween, h1]
    | cons y l => simp only [wBetween] at h2 ⊢; rw [h1, h2]
theorem flat_eq {f g : PV → Bs} : ∀ (l : List PV), (∀ x ∈ l, f x = g x) → l.flatMap f = l.flatMap g := by
  intro l
  induction l with
  | nil => intro _; rfl
  | cons v l ih => intro h; simp only [List.flatMap_cons]; rw [h v (by simp), ih (fun x hx => h x (by simp [hx]))]
theorem kids_eq {α : Type} {f g : Nat → PV → List α} : ∀ (l : List PV) (i : Nat), (∀ x ∈ l, ∀ j, f j x = g j x) → kids f i l = kids g i l := by
  intro l
  induction l with
  | nil => intro i _; rfl
  | cons v l ih => intro i h; simp only [kids]; rw [h v (by simp), ih (i + 1) (fun x hx => h x (by simp [hx]))]
theorem opt_eq {f g : PV → Bs} : ∀ (l : List PV), (∀ x ∈ l, f x = g x) → wOpt f l = wOpt g l
  | [], _ => rfl
  | v :: l, h => by simp only [wOpt]; rw [h v (by simp)]
theorem first_eq {f g : PV → Bs} : ∀ (l : List PV), (∀ x ∈ l, f x = g x) → wFirst f l = wFirst g l
  | [], _ => rfl
  | v :: l, h => by simp only [wFirst]; rw [h v (by simp)]

theorem valid_parts {k : Nat} {t : PT} {v : PV} (h : Valid (k + 1) t v) : ∀ x ∈ v.parts, ∃ t', Valid k t' x := by
  obtain ⟨_, h⟩ := h
  split at h
  · rw [h.2.1]; simp
  split at h
  · rw [h.2.1]; simp
  split at h
  · rw [h.2.1]; simp
  split at h
  · rw [h.2.1]; simp
  split at h
  · rw [h.2.1]; simp
  split at h
  · exact fun x hx => ⟨_, h.2.2.2 x hx⟩
  split at h
  · exact fun x hx => ⟨_, h.2.2.2 x hx⟩
  split at h
  · intro x hx
    obtain ⟨i, hi⟩ := List.mem_iff_getElem?.1 hx
    exact ⟨_, h.2.2.2 i x hi⟩
  · obtain ⟨_, j, y, _, _, hp, hy⟩ := h
    rw [hp]
    intro x hx
    simp at hx
    subst hx
    exact ⟨_, hy⟩
theorem valid_up {k m : Nat} (ih : ∀ t v, Valid k t v → Valid m t v) {t : PT} {v : PV} (h : Valid (k + 1) t v) : Valid (m + 1) t v := by
  obtain ⟨h0, h⟩ := h
  refine ⟨h0, ?_⟩
  split at h
  · rw [if_pos (by assumption)]; exact h
  rw [if_neg (by assumption)]
  split at h
  · rw [if_pos (by assumption)]; exact h
  rw [if_neg (by assumption)]
  split at h
  · rw [if_pos (by assumption)]; exact h
  rw [if_neg (by assumption)]
  split at h
  · rw [if_pos (by assumption)]; exact h
  rw [if_neg (by assumption)]
  split at h
  · rw [if_pos (by assumption)]; exact h
  rw [if_neg (by assumption)]
  split at h
  · rw [if_pos (by assumption)]; exact ⟨h.1, h.2.1, h.2.2.1, fun x hx => ih _ _ (h.2.2.2 x hx)⟩
  rw [if_neg (by assumption)]
  split at h
  · rw [if_pos (by assumption)]; exact ⟨h.1, h.2.1, h.2.2.1, fun x hx => ih _ _ (h.2.2.2 x hx)⟩
  rw [if_neg (by assumption)]
  split at h
  · rw [if_pos (by assumption)]; exact ⟨h.1, h.2.1, h.2.2.1, fun i x hx => ih _ _ (h.2.2.2 i x hx)⟩
  rw [if_neg (by assumption)]
  obtain ⟨h1, j, y, h2, h3, h4, h5⟩ := h
  exact ⟨h1, j, y, h2, h3, h4, ih _ _ h5⟩

/-- What is read with little fuel is read with more. -/
theorem fuel_up (d : Nat) : ∀ (k : Nat) (t : PT) (v : PV), Valid k t v → Valid (k + d) t v ∧ wText (k + d) v = wText k v ∧ wMsg (k + d) v = wMsg k v ∧ ∀ p, waysOf (k + d) p v = waysOf k p v := by
  intro k
  induction k with
  | zero => intro t v h; exact h.elim
  | succ k ih =>
    intro t v h
    have hp : ∀ x ∈ v.parts, wText (k + d) x = wText k x ∧ wMsg (k + d) x = wMsg k x ∧ ∀ p, waysOf (k + d) p x = waysOf k p x := fun x hx => by
      obtain ⟨t', h'⟩ := valid_parts h x hx
      exact (ih t' x h').2
    rw [show k + 1 + d = k + d + 1 by omega]
    have e1 : wText (k + d + 1) v = wText (k + 1) v := by
      simp only [wText]
      rw [between_eq (f := wText (k + d)) (g := wText k) v.parts (fun x hx => (hp x hx).1), opt_eq (f := wText (k + d)) (g := wText k) v.parts (fun x hx => (hp x hx).1), first_eq (f := wText (k + d)) (g := wText k) v.parts (fun x hx => (hp x hx).1)]
    refine ⟨valid_up (fun t v h => (ih t v h).1) h, e1, ?_, fun p => ?_⟩
    · simp only [wMsg]
      rw [flat_eq (f := wMsg (k + d)) (g := wMsg k) v.parts (fun x hx => (hp x hx).2.1)]
    · simp only [waysOf, e1]
      rw [kids_eq (g := fun i x => waysOf k (under p (stepOf v.of v.num i)) x) v.parts 0 (fun x hx j => (hp x hx).2.2 _)]

theorem made_n2 : ∀ (j k : Nat) (t : PT), MadeT k t → N2 j t := by
  intro j
  induction j with
  | zero => intro k t _; trivial
  | succ j ih =>
    intro k t h
    cases k with
    | zero => exact h.elim
    | succ k =>
      rcases h with ⟨h7, e⟩ | ⟨h78, u, hu, e⟩ | ⟨h90, l, _, h3, hl, e⟩
      · refine ⟨fun h9 => by omega, fun u hu => ?_⟩
        rw [e] at hu
        exact absurd hu (by simp [PT.word])
      · refine ⟨fun h9 => by omega, fun x hx => ?_⟩
        rw [e] at hx
        have : x = u := by simpa [compoundT] using hx
        rw [this]
        exact ih k u hu
      · refine ⟨fun _ n hn => ?_, fun x hx => ?_⟩
        · rw [e] at hn
          obtain ⟨q, hq, rfl⟩ := List.mem_map.1 (show n ∈ (named 0 l).map (·.1) from hn)
          obtain ⟨i, hi⟩ := List.mem_iff_getElem?.1 hq
          have hil : i < l.length := by have := (List.getElem?_eq_some_iff.1 hi).1; rw [named_len] at this; exact this
          rw [named_at l 0 i _ (List.getElem?_eq_getElem hil)] at hi
          obtain rfl := (Option.some.inj hi).symm
          rw [Nat.zero_add, (nm_fine i (by omega)).2.2.1]
          simp [zz]
        · rw [e] at hx
          have hx' : x ∈ (named 0 l).map (·.2) := hx
          rw [named_subs] at hx'
          exact ih k x (hl x hx')

end Go.Proofs.YtdcjogpkogidaaaGreatDoor.Q
end
section
namespace Go.Proofs.YtdcjogpkogidaaaGreatDoor
open Go.RowKit

theorem getT_empty (t : PT) (data : ByteArray) : getT t data ⟨#[]⟩ = decT t data := by
  unfold getT decT getR decR getV
  split
  · rcases rMsg 12 t data.data.toList with ⟨_ | v, _ | ⟨b, l⟩⟩ <;> rfl
  · rfl
theorem gett_any (w : World) (a : Addr) (t : PT) (data path : ByteArray) (hpt : PowT w) (ht : TR w Zero a t) (hW : WFT 12 t) (hd : data.size ≤ maxLen) (hpl : path.size ≤ maxLen) :
    Calls Tryz.prog 25 #[.pointer (some a), .string data, .string path] w fun e w' => TriPost w (getT t data path) e w' := by
  by_cases h : path = ⟨#[]⟩
  · subst h
    rw [getT_empty]
    exact gett_empty w a t data hpt ht hW hd
  · exact gett_path w a t data path h hpt ht hW hd hpl

set_option maxHeartbeats 8000000 in
set_option maxRecDepth 100000 in
theorem get_any (s data path : ByteArray) (w : World) (hw : Words w) (het : ErrT w) (hpt : PowT w) (hs : s.size ≤ maxLen) (hd : data.size ≤ maxLen) (hpl : path.size ≤ maxLen) :
    Calls Tryz.prog 16 #[.string s, .string data, .string path] w fun e w' => TriPost w (getP s data path) e w' := by
  have HW := hide hw
  have HE := hide het
  have HP := hide hpt
  clear hw het hpt
  go_enter Tryz.func16, Tryz.ntmps16
  go_wp2_with fail
  refine (sparse_any s _ HW HE hs).mono ?_
  rintro e w1 ⟨hF1, a, rfl, hok⟩
  have HF1 := hide hF1
  by_cases hz : (checkP s).1 = 0
  · have hc := checkP_ok hz
    obtain ⟨a', rfl, ht⟩ := hok hc
    have HWF := hide (typeP_good hc)
    have HTR := hide ht
    have HU : Hid (getP s data path = getT (typeP s) data path) := by show _ = _; unfold getP; rw [if_pos hz]
    rw [hc]
    clear hF1 hok hz hc ht
    go_wp2_with fail
    refine (gett_any _ a' (typeP s) data path (HP.out.keep HF1.out (fun h => h)) HTR.out HWF.out hd hpl).mono ?_
    rintro e w2 ⟨hF2, rfl⟩
    have HF2 := hide (HF1.out.trans hF2)
    clear hF2
    go_wp2_with fail
    go_ret3
    rw [HU.out]
    exact ⟨HF2, rfl⟩
  · have HU : Hid (getP s data path = (⟨#[]⟩, (checkP s).1, (checkP s).2)) := by show _ = _; unfold getP; rw [if_neg hz]
    have hzI : (((checkP s).1 : Nat) : Int) ≠ 0 := by omega
    have hzb : ((((checkP s).1 : Nat) : Int) == 0) = false := beq_eq_false_iff_ne.2 hzI
    clear hF1 hok hz
    go_wp2_with fail
    go_ret3
    rw [HU.out]
    exact ⟨HF1, rfl⟩

end Go.Proofs.YtdcjogpkogidaaaGreatDoor
end
