/- Paths: the way that is told is the part that its steps lead to. -/
import Derived.Test.YtdcjogpkogidaaaGreatDoorMdVWf
import Derived.Test.YtdcjogpkogidaaaGreatDoorMdPPart
section
namespace Go.Proofs.YtdcjogpkogidaaaGreatDoor
open Go.RowKit

theorem behindI_mem {v u : PV} {st : Bs} : ∀ (l : List PV) (i : Nat), behindI v st i l = some u → u ∈ l := by
  intro l
  induction l with
  | nil => intro i h; simp [behindI] at h
  | cons x l ih =>
    intro i h
    unfold behindI at h
    split at h
    · simp at h; simp [h]
    · exact List.mem_cons_of_mem _ (ih _ h)
theorem flat_len {f : PV → Bs} {u : PV} : ∀ {l : List PV}, u ∈ l → (f u).length ≤ (l.flatMap f).length := by
  intro l
  induction l with
  | nil => intro h; simp at h
  | cons x l ih =>
    intro h
    rw [List.flatMap_cons, List.length_append]
    rcases List.mem_cons.1 h with rfl | h
    · omega
    · have := ih h; omega
theorem msg_part {k : Nat} {t : PT} {v u : PV} (hV : Valid (k + 1) t v) (hu : u ∈ v.parts) : (wMsg k u).length ≤ (wMsg (k + 1) v).length := by
  have hp : v.parts ≠ [] := fun e => by rw [e] at hu; simp at hu
  obtain ⟨hof, h⟩ := hV
  have hf := flat_len (f := wMsg k) hu
  simp only [wMsg]
  rw [hof]
  split at h
  · exact absurd h.2.1 hp
  split at h
  · exact absurd h.2.1 hp
  split at h
  · exact absurd h.2.1 hp
  split at h
  · exact absurd h.2.1 hp
  split at h
  · exact absurd h.2.1 hp
  rw [if_neg (by assumption), if_neg (by assumption), if_neg (by assumption), if_neg (by omega)]
  split
  · rw [List.length_append]; omega
  split
  · exact hf
  · rw [List.length_cons]; omega
theorem gone_valid : ∀ (l : List Bs) (k : Nat) (t : PT) (v u : PV), WFT k t → Valid k t v → goneP v l = some u → l.length < k ∧ ∃ t', WFT (k - l.length) t' ∧ Valid (k - l.length) t' u ∧ (wMsg (k - l.length) u).length ≤ (wMsg k v).length := by
  intro l
  induction l with
  | nil =>
    intro k t v u hW hV h
    simp [goneP] at h
    subst h
    rcases k with _ | k
    · exact hW.elim
    · exact ⟨by simp, t, hW, hV, Nat.le_refl _⟩
  | cons st l ih =>
    intro k t v u hW hV h
    simp only [goneP] at h
    rcases hb : behindP v st with _ | x
    · rw [hb] at h; simp at h
    · rw [hb] at h
      simp only [Option.bind_some] at h
      rcases k with _ | k
      · exact hW.elim
      have hm : x ∈ v.parts := behindI_mem _ _ hb
      obtain ⟨t', hw', hv'⟩ := (hV.stepOk hW).2.2 x hm
      simp only [Nat.add_sub_cancel] at hw' hv'
      obtain ⟨h1, t2, h2, h3, h4⟩ := ih k t' x u hw' hv' h
      have := msg_part hV hm
      rw [List.length_cons, show k + 1 - (l.length + 1) = k - l.length by omega]
      exact ⟨by omega, t2, h2, h3, by omega⟩
theorem partP_some : ∀ (l : List Bs) (v u : PV) (n m : Nat), partP v l n = (some u, m) → goneP v l = some u := by
  intro l
  induction l with
  | nil => intro v u n m h; simp [partP] at h; simp [goneP, h.1]
  | cons st l ih =>
    intro v u n m h
    simp only [partP] at h
    simp only [goneP]
    rcases hb : behindP v st with _ | x
    · rw [hb] at h; simp at h
    · rw [hb] at h
      simp only [Option.bind_some]
      exact ih x u (n + 1) m h

/-- What a message of a type tells at a path: the part's text, the error, the place. -/
def getV (v : PV) (path : ByteArray) : ByteArray × Nat × Nat :=
  if path = ⟨#[]⟩ then (ba (wText 12 v), 0, 0) else match partP v (splitP path.data.toList) 0 with
    | (some u, _) => (ba (wText (12 - (splitP path.data.toList).length) u), 0, 0)
    | (none, n) => (⟨#[]⟩, 7, n)
def getR (data path : ByteArray) (r : Option PV × Bs) : ByteArray × Nat × Nat :=
  match r with
  | (some v, []) => getV v path
  | (_, r') => (⟨#[]⟩, 6, pos data r')
def getT (t : PT) (data path : ByteArray) : ByteArray × Nat × Nat := if data.size ≤ 1000 then getR data path (rMsg 12 t data.data.toList) else (⟨#[]⟩, 1, 0)
def getP (s data path : ByteArray) : ByteArray × Nat × Nat := if (checkP s).1 = 0 then getT (typeP s) data path else (⟨#[]⟩, (checkP s).1, (checkP s).2)
theorem getR_no {data path : ByteArray} {r : Option PV × Bs} (h : ¬ ∃ v, r = (some v, [])) : getR data path r = (⟨#[]⟩, 6, pos data r.2) := by
  unfold getR
  rcases r with ⟨_ | v, _ | ⟨b, l⟩⟩
  · rfl
  · rfl
  · exact absurd ⟨v, rfl⟩ h
  · rfl

set_option maxHeartbeats 8000000 in
set_option maxRecDepth 100000 in
theorem gett_path (w : World) (a : Addr) (t : PT) (data path : ByteArray) (hne : path ≠ ⟨#[]⟩) (hpt : PowT w) (ht : TR w Zero a t) (hW : WFT 12 t) (hd : data.size ≤ maxLen) (hpl : path.size ≤ 9223372036854775807) :
    Calls Tryz.prog 25 #[.pointer (some a), .string data, .string path] w fun e w' => TriPost w (getT t data path) e w' := by
  have HP := hide hpt
  have HTR := hide ht
  have HWF := hide hW
  have HNE := hide hne
  clear hpt ht hW hne
  go_enter Tryz.func25, Tryz.ntmps25
  by_cases hsz : data.size ≤ 1000
  · have HU2 : Hid (getT t data path = getR data path (rMsg 12 t data.data.toList)) := by show _ = _; unfold getT; rw [if_pos hsz]
    have HSZ := hide hsz
    clear hsz
    go_wp2_with fail
    refine (fromMessage_short _ a t data HTR HWF HSZ).mono ?_
    rcases hq : rMsg 12 t data.data.toList with ⟨q, r⟩
    have HQ := hide hq
    rw [hq] at HU2
    clear hq
    rintro e w2 ⟨hF2, h2⟩
    have HF2 := hide hF2
    rcases h2 with ⟨v, ⟨ca, cn, cb, csv⟩, hr, ⟨o, n, k, hsv⟩, rfl, hvr⟩ | ⟨hno, rfl⟩
    · simp only at hsv
      subst hsv
      simp only [Prod.mk.injEq] at hr
      obtain ⟨rfl, rfl⟩ := hr
      obtain ⟨hval, htx⟩ := rMsg_sound 12 t _ _ _ HWF.out HQ.out
      have hl2 : (wMsg 12 v).length = data.size := by
        have := congrArg List.length htx
        rw [Array.length_toList, List.length_append] at this
        simp at this
        exact this.symm
      have HL2 := hide hl2
      have HV := hide hvr
      have HVal := hide hval
      have HM : Hid (getT t data path = getV v path) := HU2
      clear hF2 hvr hval htx hl2 HQ HU2
      simp only [VC.val]
      go_wp2_with fail
      refine (path_any _ ⟨ca, cn, cb, .slice o n k⟩ v 12 t (HV.out.keep (Fr.alloc _ _ _)) ⟨_, _, _, rfl⟩ HWF.out HVal.out (HP.out.drawn (HF2.out.trans (Fr.alloc _ _ _))) (by omega) path HNE.out hpl).mono ?_
      rintro e w3 ⟨hF3, hcs⟩
      have HF3 := hide (HF2.out.trans ((Fr.alloc _ _ _).trans hF3))
      rcases hcs with ⟨u, ⟨ea, en, eb, esv⟩, k', t', hr, rfl, hvr, ⟨eo, ej, ek, hes⟩, _, _⟩ | ⟨m, hr, rfl⟩
      · simp only at hes
        subst hes
        obtain ⟨hlt, t2, hw2, hv2, hml⟩ := gone_valid _ 12 t v u HWF.out HVal.out (partP_some _ _ _ _ _ hr)
        have hlen := (text_len _ t2 u hw2 hv2).2
        have HG : Hid (getV v path = (ba (wText (12 - (splitP path.data.toList).length) u), 0, 0)) := by show _ = _; unfold getV; rw [if_neg HNE.out, hr]
        have HV3 := hide (hvr.keep hF3)
        have HLn : Hid ((wText (12 - (splitP path.data.toList).length) u).length + 1000 ≤ 140737488355328) := by
          show _ ≤ _
          have h1 := HSZ.out
          have h2 := HL2.out
          have h3 : 500 * (12 - (splitP path.data.toList).length) * (wMsg (12 - (splitP path.data.toList).length) u).length ≤ 6000 * 1000 := Nat.mul_le_mul (by omega) (by omega)
          omega
        have HW2 := hide hw2
        have HV2 := hide hv2
        clear hF3 hvr hr hw2 hv2 hml hlen hlt
        simp only [VC.val]
        go_wp2_with fail
        refine (text_any (k := 12 - (splitP path.data.toList).length) (t := t2) _ ⟨ea, en, eb, .slice eo ej ek⟩ u (HP.out.drawn (HF3.out.trans (Fr.alloc _ _ _))) (HV3.out.keep (Fr.alloc _ _ _)) HW2 HV2 HLn ⟨_, _, _, rfl⟩).mono ?_
        rintro e w4 ⟨hF4, rfl⟩
        have HF4 := hide (HF3.out.trans ((Fr.alloc _ _ _).trans hF4))
        clear hF4
        go_wp2_with fail
        go_ret3
        rw [HM.out, HG.out]
        exact ⟨HF4, rfl⟩
      · have HG : Hid (getV v path = (⟨#[]⟩, 7, m)) := by show _ = _; unfold getV; rw [if_neg HNE.out, hr]
        clear hF3 hr
        unfold zeroV
        go_wp2_with fail
        go_ret3
        rw [HM.out, HG.out]
        exact ⟨HF3.out.trans (Fr.alloc _ _ _), rfl⟩
    · have HN := hide (getR_no (data := data) (path := path) hno)
      clear hF2 hno
      go_wp2_with fail
      go_ret3
      rw [HU2.out, HN.out]
      exact ⟨HF2.out.trans (Fr.alloc _ _ _), rfl⟩
  · have HU2 : Hid (getT t data path = (⟨#[]⟩, 1, 0)) := by show _ = _; unfold getT; rw [if_neg hsz]
    have HSZ : Hid (1000 < data.size) := by show _ < _; omega
    clear hsz
    go_wp2_with fail
    refine (fromMessage_long _ a data hd HSZ).mono ?_
    rintro e w2 ⟨hF2, rfl⟩
    have HF2 := hide hF2
    clear hF2
    go_wp2_with fail
    go_ret3
    rw [HU2.out]
    exact ⟨HF2.out.trans (Fr.alloc _ _ _), rfl⟩

end Go.Proofs.YtdcjogpkogidaaaGreatDoor
end
section
namespace Go.Proofs.YtdcjogpkogidaaaGreatDoor

/-! ### Names are none of them empty -/
def NE : Nat → PT → Prop
  | 0, _ => True
  | k + 1, t => (9 ≤ t.kind → ∀ n ∈ t.names, n.data.toList ≠ []) ∧ ∀ u ∈ t.subs, NE k u
def NEA (t : PT) : Prop := ∀ k, NE k t
theorem NEA.plain {t : PT} (h1 : t.names = []) (h2 : t.subs = []) : NEA t := by
  intro k
  cases k with
  | zero => trivial
  | succ k => exact ⟨fun _ n hn => by rw [h1] at hn; simp at hn, fun u hu => by rw [h2] at hu; simp at hu⟩
theorem NEA.compound (kind : Nat) (l : List (ByteArray × PT)) (h1 : ∀ q ∈ l, NEA q.2) (h2 : 9 ≤ kind → ∀ q ∈ l, q.1.data.toList ≠ []) : NEA (compoundT kind l) := by
  intro k
  cases k with
  | zero => trivial
  | succ k =>
    refine ⟨fun h9 n hn => ?_, fun u hu => ?_⟩
    · simp only [compoundT, List.mem_map] at hn
      obtain ⟨q, hq, rfl⟩ := hn
      exact h2 h9 q hq
    · simp only [compoundT, List.mem_map] at hu
      obtain ⟨q, hq, rfl⟩ := hu
      exact h1 q hq k
theorem nameAt_ne {s : ByteArray} {n : Nat} (h : nameOk s n ≠ false) : (nameAt s n).data.toList ≠ [] := by
  intro he
  have hne : lettersTo s n 6 ≠ n := fun e => h (by simp [nameOk, e])
  have hs : (nameAt s n).size = 0 := by
    show (nameAt s n).data.size = 0
    rw [← Array.length_toList, he]
    rfl
  have hgt : n < lettersTo s n 6 := by
    rw [lettersTo] at hne ⊢
    split at hne
    · rename_i hc
      rw [if_pos hc]
      have key : ∀ (k m : Nat), m ≤ lettersTo s m k := by
        intro k
        induction k with
        | zero => intro m; exact Nat.le_refl _
        | succ k ih =>
          intro m
          rw [lettersTo]
          split
          · have := ih (m + 1); omega
          · exact Nat.le_refl _
      have := key 5 (n + 1)
      omega
    · exact absurd rfl hne
  have hl := lettersTo_all s 6 n n (Nat.le_refl _) hgt
  have hn : n < s.size := by
    rcases Nat.lt_or_ge n s.size with q | q
    · exact q
    · have : byteAt s n = 256 := byteAt_end (Nat.not_lt.2 q)
      omega
  unfold nameAt at hs
  rw [ByteArray.size_extract] at hs
  omega

def Good2 (rd : Nat → Option Nat → Res) : Prop := ∀ n bad, NEA (rd n bad).t
theorem dummy_ne : NEA PT.dummy := NEA.plain rfl rfl
theorem pPart_ne {rd : Nat → Option Nat → Res} (hrd : Good2 rd) (s : ByteArray) (others : List ByteArray) (sign n : Nat) (bad : Option Nat) : NEA (pPart rd s others sign n bad).t := by
  unfold pPart
  split
  · exact dummy_ne
  · split
    · exact hrd _ _
    · exact dummy_ne
theorem pPart_nm {rd : Nat → Option Nat → Res} {s : ByteArray} {others : List ByteArray} {sign n : Nat} {bad : Option Nat} (h : (pPart rd s others sign n bad).ok = true) : (nameAt s n).data.toList ≠ [] := by
  unfold pPart at h
  split at h
  · cases h
  · rename_i hn; exact nameAt_ne hn
theorem pParts_ne {rd : Nat → Option Nat → Res} (hrd : Good2 rd) (s : ByteArray) (kind btw close : Nat) : ∀ (k : Nat) (acc : List (ByteArray × PT)) (n : Nat) (bad : Option Nat), (∀ q ∈ acc, NEA q.2) → (∀ q ∈ acc, q.1.data.toList ≠ []) → NEA (pParts rd s kind btw close k acc n bad).t := by
  intro k
  induction k with
  | zero => intro acc n bad _ _; exact dummy_ne
  | succ k ih =>
    intro acc n bad h1 h2
    simp only [pParts]
    split
    · exact dummy_ne
    · rename_i hok
      have hok' : (pPart rd s (acc.map (·.1)) 58 n bad).ok = true := by cases h : (pPart rd s (acc.map (·.1)) 58 n bad).ok; exact absurd h hok; rfl
      have a1 : ∀ q ∈ acc ++ [(nameAt s n, (pPart rd s (acc.map (·.1)) 58 n bad).t)], NEA q.2 := fun q hq => by
        rcases List.mem_append.1 hq with h | h
        · exact h1 q h
        · simp at h; subst h; exact pPart_ne hrd _ _ _ _ _
      have a2 : ∀ q ∈ acc ++ [(nameAt s n, (pPart rd s (acc.map (·.1)) 58 n bad).t)], q.1.data.toList ≠ [] := fun q hq => by
        rcases List.mem_append.1 hq with h | h
        · exact h2 q h
        · simp only [List.mem_singleton] at h; subst h; exact pPart_nm hok'
      split
      · exact NEA.compound _ _ a1 (fun _ => a2)
      · split
        · exact dummy_ne
        · exact ih _ _ _ a1 a2
theorem pNamed_ne (s : ByteArray) (lines : List (ByteArray × PT)) (hL : ∀ q ∈ lines, NEA q.2) : Good2 (pNamed s lines) := by
  intro n bad
  unfold pNamed
  split
  · exact dummy_ne
  · split
    · exact NEA.plain rfl rfl
    · split
      · rename_i t ht
        obtain ⟨q, hq, e⟩ := lineOf_mem ht
        rw [← e]; exact hL q hq
      · exact dummy_ne
theorem pTyp_ne (s : ByteArray) (lines : List (ByteArray × PT)) (hL : ∀ q ∈ lines, NEA q.2) : ∀ f, Good2 (pTyp s lines f) := by
  intro f
  induction f with
  | zero => intro n bad; exact dummy_ne
  | succ f ih =>
    intro n bad
    have one : ∀ kind, kind < 9 → NEA (compoundT kind [(⟨#[]⟩, (pTyp s lines f (n + 1) bad).t)]) := fun kind hk =>
      NEA.compound _ _ (fun q hq => by simp at hq; subst hq; exact ih _ _) (fun h => by omega)
    simp only [pTyp]
    split
    · split
      · exact dummy_ne
      · split
        · exact one 7 (by omega)
        · exact dummy_ne
    · split
      · split
        · exact dummy_ne
        · exact one 8 (by omega)
      · split
        · exact pParts_ne ih s _ _ _ _ _ _ _ (by simp) (by simp)
        · split
          · exact pParts_ne ih s _ _ _ _ _ _ _ (by simp) (by simp)
          · exact pNamed_ne s lines hL n bad
theorem pDesc_ne (s : ByteArray) : ∀ (k : Nat) (lines : List (ByteArray × PT)) (n : Nat) (bad deep : Option Nat), (∀ q ∈ lines, NEA q.2) → ∀ q ∈ (pDesc s k lines n bad deep).lines, NEA q.2 := by
  intro k
  induction k with
  | zero => intro lines n bad deep h; exact h
  | succ k ih =>
    intro lines n bad deep h
    have a1 : ∀ q ∈ lines ++ [(nameAt s n, (lineR s lines n bad).t)], NEA q.2 := fun q hq => by
      rcases List.mem_append.1 hq with h' | h'
      · exact h q h'
      · simp at h'; subst h'; exact pPart_ne (pTyp_ne s lines h _) _ _ _ _ _
    simp only [pDesc]
    split
    · exact h
    · split
      · exact a1
      · split
        · exact h
        · exact ih _ _ _ _ a1
theorem typeP_ne (s : ByteArray) : NEA (typeP s) := by
  unfold typeP
  rcases h : (pDesc s 10 [] 0 none none).lines.getLast? with _ | q
  · exact dummy_ne
  · exact pDesc_ne s 10 [] 0 none none (by simp) q (List.mem_of_getLast? h)

/-! ### A path's text and its steps -/
def joinP : List Bs → Bs
  | [] => []
  | [x] => x
  | x :: y :: l => x ++ 47 :: joinP (y :: l)
theorem joinP_cons (x : Bs) {l : List Bs} (h : l ≠ []) : joinP (x :: l) = x ++ 47 :: joinP l := by
  cases l with
  | nil => exact absurd rfl h
  | cons y l => rfl
theorem split_join : ∀ (l : List Bs), l ≠ [] → (∀ x ∈ l, (47 : UInt8) ∉ x) → splitP (joinP l) = l := by
  intro l
  induction l with
  | nil => intro h; exact absurd rfl h
  | cons x l ih =>
    intro _ h
    cases l with
    | nil => exact splitP_one x (h x (by simp))
    | cons y l =>
      rw [joinP_cons x (by simp), splitP_more _ _ (h x (by simp)), ih (by simp) (fun z hz => h z (by simp [hz]))]
theorem joinP_snoc (x : Bs) : ∀ (l : List Bs), l ≠ [] → joinP (l ++ [x]) = joinP l ++ 47 :: x := by
  intro l
  induction l with
  | nil => intro h; exact absurd rfl h
  | cons y l ih =>
    intro _
    cases l with
    | nil => rfl
    | cons z l =>
      rw [List.cons_append, joinP_cons y (by simp), ih (by simp), joinP_cons y (by simp)]
      simp
theorem joinP_ne {l : List Bs} (h : l ≠ []) (hn : ∀ x ∈ l, x ≠ []) : joinP l ≠ [] := by
  cases l with
  | nil => exact absurd rfl h
  | cons x l =>
    cases l with
    | nil => exact hn x (by simp)
    | cons y l => rw [joinP_cons x (by simp)]; simp
theorem under_join {l : List Bs} (hn : ∀ x ∈ l, x ≠ []) (st : Bs) : under (joinP l) st = joinP (l ++ [st]) := by
  unfold under
  cases l with
  | nil => rfl
  | cons x l =>
    rw [if_neg (joinP_ne (by simp) hn), joinP_snoc _ _ (by simp)]

/-! ### Ways by their steps -/
def waysL : Nat → List Bs → PV → List (List Bs × Bs)
  | 0, _, _ => []
  | k + 1, q, v => (q, wText (k + 1) v) :: kids (fun i x => waysL k (q ++ [stepOf v.of v.num i]) x) 0 v.parts
def Step (x : Bs) : Prop := x ≠ [] ∧ (47 : UInt8) ∉ x

theorem decN_ne : ∀ (f n : Nat), 0 < f → decN f n ≠ [] ∧ ∀ b ∈ decN f n, 48 ≤ b.toNat := by
  intro f
  induction f with
  | zero => intro n h; omega
  | succ f ih =>
    intro n _
    refine ⟨by simp [decN], fun b hb => ?_⟩
    simp only [decN] at hb
    rcases List.mem_append.1 hb with h | h
    · split at h
      · simp at h
      · rcases f with _ | f
        · simp [decN] at h
        · exact (ih _ (by omega)).2 b h
    · simp only [List.mem_singleton] at h
      subst h
      rw [toNat_ofNat (by omega)]
      omega
theorem decN_step_ok (n : Nat) : Step (decN 20 n) := by
  obtain ⟨h1, h2⟩ := decN_ne 20 n (by omega)
  refine ⟨h1, fun h => ?_⟩
  have := h2 _ h
  simp at this
theorem decN_inj {a b : Nat} (ha : a ≤ 1000) (hb : b ≤ 1000) (h : decN 20 a = decN 20 b) : a = b := by
  have h1 := rUns_whole (most := 1000) (r := []) (by omega) (by decide) ha (by simp [StopD])
  have h2 := rUns_whole (most := 1000) (r := []) (by omega) (by decide) hb (by simp [StopD])
  rw [h] at h1
  rw [h1] at h2
  simp at h2
  exact h2
theorem name_ok {k : Nat} {t : PT} (hW : WFT (k + 1) t) (hN : NE (k + 1) t) (h9 : 9 ≤ t.kind) {i : Nat} (hi : i < t.subs.length) : Step (t.name i) := by
  have hl := hW.2.1
  have hi' : i < t.names.length := by omega
  have he : t.name i = (t.names[i]).data.toList := by unfold PT.name; rw [List.getElem?_eq_getElem hi']; rfl
  have hm : t.names[i] ∈ t.names := List.getElem_mem hi'
  rw [he]
  refine ⟨hN.1 h9 _ hm, fun h => ?_⟩
  have := (hW.2.2.2.2.2.2 h9).2 _ hm _ h
  simp at this
theorem ba_ext {a b : ByteArray} (h : a.data.toList = b.data.toList) : a = b := by
  cases a; cases b
  congr 1
  exact Array.toList_inj.1 h
theorem nodup_at {α : Type} {l : List α} (h : l.Nodup) {i j : Nat} (hi : i < l.length) (hj : j < l.length) (e : l[i] = l[j]) : i = j := by
  have h' := List.pairwise_iff_getElem.1 h
  rcases Nat.lt_trichotomy i j with q | q | q
  · exact absurd e (h' i j hi hj q)
  · exact q
  · exact absurd e.symm (h' j i hj hi q)
theorem name_inj {k : Nat} {t : PT} (hW : WFT (k + 1) t) (h9 : 9 ≤ t.kind) {i j : Nat} (hi : i < t.subs.length) (hj : j < t.subs.length) (h : t.name i = t.name j) : i = j := by
  have hl := hW.2.1
  have hi' : i < t.names.length := by omega
  have hj' : j < t.names.length := by omega
  unfold PT.name at h
  rw [List.getElem?_eq_getElem hi', List.getElem?_eq_getElem hj'] at h
  exact nodup_at (hW.2.2.2.2.2.2 h9).1 hi' hj' (ba_ext h)
theorem step_all {k : Nat} {t : PT} {v : PV} (hW : WFT (k + 1) t) (hN : NE (k + 1) t) (hV : Valid (k + 1) t v) :
    (∀ i, i < v.parts.length → Step (stepOf v.of v.num i)) ∧ (∀ i j, i < v.parts.length → j < v.parts.length → stepOf v.of v.num i = stepOf v.of v.num j → i = j) ∧ ∀ u ∈ v.parts, ∃ t', WFT k t' ∧ NE k t' ∧ Valid k t' u := by
  obtain ⟨hof, h⟩ := hV
  have hk := hW.1
  have hsub : ∀ i, i < t.subs.length → NE k (t.sub i) := fun i hi => by
    refine hN.2 _ ?_
    unfold PT.sub
    rw [List.getElem?_eq_getElem hi]
    exact List.getElem_mem hi
  rw [hof]
  split at h
  · rw [h.2.1]; simp
  split at h
  · rw [h.2.1]; simp
  split at h
  · rw [h.2.1]; simp
  split at h
  · rw [h.2.1]; simp
  split at h
  · rw [h.2.1]; simp
  split at h
  · rename_i h7
    have hs := hW.2.2.2.2.1 (.inl h7)
    unfold stepOf
    simp only [h7, if_true]
    exact ⟨fun i _ => decN_step_ok i, fun i j hi hj e => decN_inj (by omega) (by omega) e, fun u hu => ⟨_, hW.sub (by omega), hsub 0 (by omega), h.2.2.2 u hu⟩⟩
  split at h
  · rename_i h8
    have hs := hW.2.2.2.2.1 (.inr h8)
    unfold stepOf
    simp only [h8, if_true]
    exact ⟨fun i _ => by simp [Step], fun i j hi hj e => by omega, fun u hu => ⟨_, hW.sub (by omega), hsub 0 (by omega), h.2.2.2 u hu⟩⟩
  split at h
  · rename_i h9
    unfold stepOf
    simp only [h9, if_true]
    refine ⟨fun i hi => ?_, fun i j hi hj e => ?_, fun u hu => ?_⟩
    · simpa using name_ok hW hN (by omega) (i := i) (by omega)
    · exact name_inj hW (by omega) (i := i) (j := j) (by omega) (by omega) (by simpa using e)
    · obtain ⟨i, hi⟩ := List.mem_iff_getElem?.1 hu
      have hil := (List.getElem?_eq_some_iff.1 hi).1
      exact ⟨_, hW.sub (by omega), hsub i (by omega), h.2.2.2 i u hi⟩
  · obtain ⟨_, j, x, hj, hjl, hpp, hx⟩ := h
    have h10 : t.kind = 10 := by omega
    unfold stepOf
    simp only [h10, hpp, hj]
    refine ⟨fun i _ => ?_, fun i j hi hj _ => by simp at hi hj; omega, fun u hu => ?_⟩
    · simpa using name_ok hW hN (by omega) hjl
    · simp at hu
      subst hu
      exact ⟨_, hW.sub hjl, hsub j hjl, hx⟩

theorem behindI_at {v u : PV} {st : Bs} : ∀ (l : List PV) (i : Nat), behindI v st i l = some u → ∃ j, i ≤ j ∧ j < i + l.length ∧ stepOf v.of v.num j = st := by
  intro l
  induction l with
  | nil => intro i h; simp [behindI] at h
  | cons x l ih =>
    intro i h
    unfold behindI at h
    split at h
    · rename_i e; exact ⟨i, Nat.le_refl _, by simp, e⟩
    · obtain ⟨j, h1, h2, h3⟩ := ih _ h; exact ⟨j, by omega, by simp; omega, h3⟩
theorem behind_empty {k : Nat} {t : PT} {v u : PV} (hW : WFT (k + 1) t) (hN : NE (k + 1) t) (hV : Valid (k + 1) t v) (h : behindP v [] = some u) : False := by
  obtain ⟨j, _, h2, h3⟩ := behindI_at _ _ h
  rw [Nat.zero_add] at h2
  exact ((step_all hW hN hV).1 j h2).1 h3

/-! ### Finding a way -/
theorem kids_mem {α : Type} {f : Nat → PV → List α} {a : α} : ∀ (l : List PV) (i : Nat), a ∈ kids f i l → ∃ j x, i ≤ j ∧ j < i + l.length ∧ l[j - i]? = some x ∧ a ∈ f j x := by
  intro l
  induction l with
  | nil => intro i h; simp [kids] at h
  | cons y l ih =>
    intro i h
    simp only [kids] at h
    rcases List.mem_append.1 h with h | h
    · exact ⟨i, y, Nat.le_refl _, by simp, by simp, h⟩
    · obtain ⟨j, x, h1, h2, h3, h4⟩ := ih (i + 1) h
      refine ⟨j, x, by omega, by simp; omega, ?_, h4⟩
      rw [show j - i = (j - (i + 1)) + 1 by omega, List.getElem?_cons_succ]
      exact h3
theorem kids_map {α β : Type} (g : α → β) (f : Nat → PV → List α) (f' : Nat → PV → List β) : ∀ (l : List PV) (i : Nat), (∀ j x, i ≤ j → j < i + l.length → x ∈ l → f' j x = (f j x).map g) → kids f' i l = (kids f i l).map g := by
  intro l
  induction l with
  | nil => intro i _; rfl
  | cons y l ih =>
    intro i h
    simp only [kids, List.map_append]
    rw [h i y (Nat.le_refl _) (by simp) (by simp), ih (i + 1) (fun j x h1 h2 h3 => h j x (by omega) (by simp; omega) (by simp [h3]))]
theorem ways_list : ∀ (k : Nat) (t : PT) (v : PV) (q : List Bs), WFT k t → NE k t → Valid k t v → (∀ x ∈ q, Step x) → waysOf k (joinP q) v = (waysL k q v).map (fun a => (joinP a.1, a.2)) ∧ ∀ a ∈ waysL k q v, ∀ x ∈ a.1, Step x := by
  intro k
  induction k with
  | zero => intro t v q h; exact h.elim
  | succ k ih =>
    intro t v q hW hN hV hq
    obtain ⟨s1, _, s3⟩ := step_all hW hN hV
    have hq' : ∀ i, i < v.parts.length → ∀ x ∈ q ++ [stepOf v.of v.num i], Step x := fun i hi x hx => by
      rcases List.mem_append.1 hx with h | h
      · exact hq x h
      · simp at h; subst h; exact s1 i hi
    refine ⟨?_, ?_⟩
    · simp only [waysOf, waysL, List.map_cons]
      congr 1
      refine kids_map _ _ _ _ _ (fun j x _ h2 h3 => ?_)
      rw [Nat.zero_add] at h2
      obtain ⟨t', a1, a2, a3⟩ := s3 x h3
      rw [under_join (fun y hy => (hq y hy).1)]
      exact (ih t' x _ a1 a2 a3 (hq' j h2)).1
    · intro a ha
      simp only [waysL] at ha
      rcases List.mem_cons.1 ha with rfl | ha
      · exact hq
      · obtain ⟨j, x, _, h2, h3, h4⟩ := kids_mem _ _ ha
        rw [Nat.zero_add] at h2
        obtain ⟨t', a1, a2, a3⟩ := s3 x (List.mem_iff_getElem?.2 ⟨_, h3⟩)
        exact (ih t' x _ a1 a2 a3 (hq' j h2)).2 a h4
/-! ### What the reference tells at a path -/
end Go.Proofs.YtdcjogpkogidaaaGreatDoor
end
