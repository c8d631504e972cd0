/- Paths: the way that is told is the part that its steps lead to. -/
import Derived.Test.YtnhkalnihjkoeaaGreatDoorGtVWf
import Derived.Test.YtnhkalnihjkoeaaGreatDoorGtPGet
namespace Go.Proofs.YtnhkalnihjkoeaaGreatDoor

/-! ### Names are none of them empty -/
def NE : Nat → PT → Prop
  | 0, _ => True
  | k + 1, t => (9 ≤ t.kind → ∀ n ∈ t.names, n.data.toList ≠ []) ∧ ∀ u ∈ t.subs, NE k u
def NEA (t : PT) : Prop := ∀ k, NE k t
theorem NEA.plain {t : PT} (h1 : t.names = []) (h2 : t.subs = []) : NEA t := by
  intro k
  cases k with
  | zero => trivial
  | succ k => exact ⟨fun _ n hn => by rw [h1] at hn; simp at hn, fun u hu => by rw [h2] at hu; simp at hu⟩
theorem NEA.compound (kind : Nat) (l : List (ByteArray × PT)) (h1 : ∀ q ∈ l, NEA q.2) (h2 : 9 ≤ kind → ∀ q ∈ l, q.1.data.toList ≠ []) : NEA (compoundT kind l) := by
  intro k
  cases k with
  | zero => trivial
  | succ k =>
    refine ⟨fun h9 n hn => ?_, fun u hu => ?_⟩
    · simp only [compoundT, List.mem_map] at hn
      obtain ⟨q, hq, rfl⟩ := hn
      exact h2 h9 q hq
    · simp only [compoundT, List.mem_map] at hu
      obtain ⟨q, hq, rfl⟩ := hu
      exact h1 q hq k
theorem nameAt_ne {s : ByteArray} {n : Nat} (h : nameOk s n ≠ false) : (nameAt s n).data.toList ≠ [] := by
  intro he
  have hne : lettersTo s n 6 ≠ n := fun e => h (by simp [nameOk, e])
  have hs : (nameAt s n).size = 0 := by
    show (nameAt s n).data.size = 0
    rw [← Array.length_toList, he]
    rfl
  have hgt : n < lettersTo s n 6 := by
    rw [lettersTo] at hne ⊢
    split at hne
    · rename_i hc
      rw [if_pos hc]
      have key : ∀ (k m : Nat), m ≤ lettersTo s m k := by
        intro k
        induction k with
        | zero => intro m; exact Nat.le_refl _
        | succ k ih =>
          intro m
          rw [lettersTo]
          split
          · have := ih (m + 1); omega
          · exact Nat.le_refl _
      have := key 5 (n + 1)
      omega
    · exact absurd rfl hne
  have hl := lettersTo_all s 6 n n (Nat.le_refl _) hgt
  have hn : n < s.size := by
    rcases Nat.lt_or_ge n s.size with q | q
    · exact q
    · have : byteAt s n = 256 := byteAt_end (Nat.not_lt.2 q)
      omega
  unfold nameAt at hs
  rw [ByteArray.size_extract] at hs
  omega

def Good2 (rd : Nat → Option Nat → Res) : Prop := ∀ n bad, NEA (rd n bad).t
theorem dummy_ne : NEA PT.dummy := NEA.plain rfl rfl
theorem pPart_ne {rd : Nat → Option Nat → Res} (hrd : Good2 rd) (s : ByteArray) (others : List ByteArray) (sign n : Nat) (bad : Option Nat) : NEA (pPart rd s others sign n bad).t := by
  unfold pPart
  split
  · exact dummy_ne
  · split
    · exact hrd _ _
    · exact dummy_ne
theorem pPart_nm {rd : Nat → Option Nat → Res} {s : ByteArray} {others : List ByteArray} {sign n : Nat} {bad : Option Nat} (h : (pPart rd s others sign n bad).ok = true) : (nameAt s n).data.toList ≠ [] := by
  unfold pPart at h
  split at h
  · cases h
  · rename_i hn; exact nameAt_ne hn
theorem pParts_ne {rd : Nat → Option Nat → Res} (hrd : Good2 rd) (s : ByteArray) (kind btw close : Nat) : ∀ (k : Nat) (acc : List (ByteArray × PT)) (n : Nat) (bad : Option Nat), (∀ q ∈ acc, NEA q.2) → (∀ q ∈ acc, q.1.data.toList ≠ []) → NEA (pParts rd s kind btw close k acc n bad).t := by
  intro k
  induction k with
  | zero => intro acc n bad _ _; exact dummy_ne
  | succ k ih =>
    intro acc n bad h1 h2
    simp only [pParts]
    split
    · exact dummy_ne
    · rename_i hok
      have hok' : (pPart rd s (acc.map (·.1)) 58 n bad).ok = true := by cases h : (pPart rd s (acc.map (·.1)) 58 n bad).ok; exact absurd h hok; rfl
      have a1 : ∀ q ∈ acc ++ [(nameAt s n, (pPart rd s (acc.map (·.1)) 58 n bad).t)], NEA q.2 := fun q hq => by
        rcases List.mem_append.1 hq with h | h
        · exact h1 q h
        · simp at h; subst h; exact pPart_ne hrd _ _ _ _ _
      have a2 : ∀ q ∈ acc ++ [(nameAt s n, (pPart rd s (acc.map (·.1)) 58 n bad).t)], q.1.data.toList ≠ [] := fun q hq => by
        rcases List.mem_append.1 hq with h | h
        · exact h2 q h
        · simp only [List.mem_singleton] at h; subst h; exact pPart_nm hok'
      split
      · exact NEA.compound _ _ a1 (fun _ => a2)
      · split
        · exact dummy_ne
        · exact ih _ _ _ a1 a2
theorem pNamed_ne (s : ByteArray) (lines : List (ByteArray × PT)) (hL : ∀ q ∈ lines, NEA q.2) : Good2 (pNamed s lines) := by
  intro n bad
  unfold pNamed
  split
  · exact dummy_ne
  · split
    · exact NEA.plain rfl rfl
    · split
      · rename_i t ht
        obtain ⟨q, hq, e⟩ := lineOf_mem ht
        rw [← e]; exact hL q hq
      · exact dummy_ne
theorem pTyp_ne (s : ByteArray) (lines : List (ByteArray × PT)) (hL : ∀ q ∈ lines, NEA q.2) : ∀ f, Good2 (pTyp s lines f) := by
  intro f
  induction f with
  | zero => intro n bad; exact dummy_ne
  | succ f ih =>
    intro n bad
    have one : ∀ kind, kind < 9 → NEA (compoundT kind [(⟨#[]⟩, (pTyp s lines f (n + 1) bad).t)]) := fun kind hk =>
      NEA.compound _ _ (fun q hq => by simp at hq; subst hq; exact ih _ _) (fun h => by omega)
    simp only [pTyp]
    split
    · split
      · exact dummy_ne
      · split
        · exact one 7 (by omega)
        · exact dummy_ne
    · split
      · split
        · exact dummy_ne
        · exact one 8 (by omega)
      · split
        · exact pParts_ne ih s _ _ _ _ _ _ _ (by simp) (by simp)
        · split
          · exact pParts_ne ih s _ _ _ _ _ _ _ (by simp) (by simp)
          · exact pNamed_ne s lines hL n bad
theorem pDesc_ne (s : ByteArray) : ∀ (k : Nat) (lines : List (ByteArray × PT)) (n : Nat) (bad deep : Option Nat), (∀ q ∈ lines, NEA q.2) → ∀ q ∈ (pDesc s k lines n bad deep).lines, NEA q.2 := by
  intro k
  induction k with
  | zero => intro lines n bad deep h; exact h
  | succ k ih =>
    intro lines n bad deep h
    have a1 : ∀ q ∈ lines ++ [(nameAt s n, (lineR s lines n bad).t)], NEA q.2 := fun q hq => by
      rcases List.mem_append.1 hq with h' | h'
      · exact h q h'
      · simp at h'; subst h'; exact pPart_ne (pTyp_ne s lines h _) _ _ _ _ _
    simp only [pDesc]
    split
    · exact h
    · split
      · exact a1
      · split
        · exact h
        · exact ih _ _ _ _ a1
theorem typeP_ne (s : ByteArray) : NEA (typeP s) := by
  unfold typeP
  rcases h : (pDesc s 10 [] 0 none none).lines.getLast? with _ | q
  · exact dummy_ne
  · exact pDesc_ne s 10 [] 0 none none (by simp) q (List.mem_of_getLast? h)

/-! ### A path's text and its steps -/
def joinP : List Bs → Bs
  | [] => []
  | [x] => x
  | x :: y :: l => x ++ 47 :: joinP (y :: l)
theorem joinP_cons (x : Bs) {l : List Bs} (h : l ≠ []) : joinP (x :: l) = x ++ 47 :: joinP l := by
  cases l with
  | nil => exact absurd rfl h
  | cons y l => rfl
theorem split_join : ∀ (l : List Bs), l ≠ [] → (∀ x ∈ l, (47 : UInt8) ∉ x) → splitP (joinP l) = l := by
  intro l
  induction l with
  | nil => intro h; exact absurd rfl h
  | cons x l ih =>
    intro _ h
    cases l with
    | nil => exact splitP_one x (h x (by simp))
    | cons y l =>
      rw [joinP_cons x (by simp), splitP_more _ _ (h x (by simp)), ih (by simp) (fun z hz => h z (by simp [hz]))]
theorem join_inj {a b : List Bs} (ha : a ≠ []) (hb : b ≠ []) (ha' : ∀ x ∈ a, (47 : UInt8) ∉ x) (hb' : ∀ x ∈ b, (47 : UInt8) ∉ x) (h : joinP a = joinP b) : a = b := by
  rw [← split_join a ha ha', ← split_join b hb hb', h]
theorem joinP_snoc (x : Bs) : ∀ (l : List Bs), l ≠ [] → joinP (l ++ [x]) = joinP l ++ 47 :: x := by
  intro l
  induction l with
  | nil => intro h; exact absurd rfl h
  | cons y l ih =>
    intro _
    cases l with
    | nil => rfl
    | cons z l =>
      rw [List.cons_append, joinP_cons y (by simp), ih (by simp), joinP_cons y (by simp)]
      simp
theorem joinP_ne {l : List Bs} (h : l ≠ []) (hn : ∀ x ∈ l, x ≠ []) : joinP l ≠ [] := by
  cases l with
  | nil => exact absurd rfl h
  | cons x l =>
    cases l with
    | nil => exact hn x (by simp)
    | cons y l => rw [joinP_cons x (by simp)]; simp
theorem under_join {l : List Bs} (hn : ∀ x ∈ l, x ≠ []) (st : Bs) : under (joinP l) st = joinP (l ++ [st]) := by
  unfold under
  cases l with
  | nil => rfl
  | cons x l =>
    rw [if_neg (joinP_ne (by simp) hn), joinP_snoc _ _ (by simp)]

/-! ### Ways by their steps -/
def waysL : Nat → List Bs → PV → List (List Bs × Bs)
  | 0, _, _ => []
  | k + 1, q, v => (q, wText (k + 1) v) :: kids (fun i x => waysL k (q ++ [stepOf v.of v.num i]) x) 0 v.parts
def Step (x : Bs) : Prop := x ≠ [] ∧ (47 : UInt8) ∉ x

theorem decN_ne : ∀ (f n : Nat), 0 < f → decN f n ≠ [] ∧ ∀ b ∈ decN f n, 48 ≤ b.toNat := by
  intro f
  induction f with
  | zero => intro n h; omega
  | succ f ih =>
    intro n _
    refine ⟨by simp [decN], fun b hb => ?_⟩
    simp only [decN] at hb
    rcases List.mem_append.1 hb with h | h
    · split at h
      · simp at h
      · rcases f with _ | f
        · simp [decN] at h
        · exact (ih _ (by omega)).2 b h
    · simp only [List.mem_singleton] at h
      subst h
      rw [toNat_ofNat (by omega)]
      omega
theorem decN_step_ok (n : Nat) : Step (decN 20 n) := by
  obtain ⟨h1, h2⟩ := decN_ne 20 n (by omega)
  refine ⟨h1, fun h => ?_⟩
  have := h2 _ h
  simp at this
theorem decN_inj {a b : Nat} (ha : a ≤ 1000) (hb : b ≤ 1000) (h : decN 20 a = decN 20 b) : a = b := by
  have h1 := rUns_whole (most := 1000) (r := []) (by omega) (by decide) ha (by simp [StopD])
  have h2 := rUns_whole (most := 1000) (r := []) (by omega) (by decide) hb (by simp [StopD])
  rw [h] at h1
  rw [h1] at h2
  simp at h2
  exact h2
theorem name_ok {k : Nat} {t : PT} (hW : WFT (k + 1) t) (hN : NE (k + 1) t) (h9 : 9 ≤ t.kind) {i : Nat} (hi : i < t.subs.length) : Step (t.name i) := by
  have hl := hW.2.1
  have hi' : i < t.names.length := by omega
  have he : t.name i = (t.names[i]).data.toList := by unfold PT.name; rw [List.getElem?_eq_getElem hi']; rfl
  have hm : t.names[i] ∈ t.names := List.getElem_mem hi'
  rw [he]
  refine ⟨hN.1 h9 _ hm, fun h => ?_⟩
  have := (hW.2.2.2.2.2.2 h9).2 _ hm _ h
  simp at this
theorem ba_ext {a b : ByteArray} (h : a.data.toList = b.data.toList) : a = b := by
  cases a; cases b
  congr 1
  exact Array.toList_inj.1 h
theorem nodup_at {α : Type} {l : List α} (h : l.Nodup) {i j : Nat} (hi : i < l.length) (hj : j < l.length) (e : l[i] = l[j]) : i = j := by
  have h' := List.pairwise_iff_getElem.1 h
  rcases Nat.lt_trichotomy i j with q | q | q
  · exact absurd e (h' i j hi hj q)
  · exact q
  · exact absurd e.symm (h' j i hj hi q)
theorem name_inj {k : Nat} {t : PT} (hW : WFT (k + 1) t) (h9 : 9 ≤ t.kind) {i j : Nat} (hi : i < t.subs.length) (hj : j < t.subs.length) (h : t.name i = t.name j) : i = j := by
  have hl := hW.2.1
  have hi' : i < t.names.length := by omega
  have hj' : j < t.names.length := by omega
  unfold PT.name at h
  rw [List.getElem?_eq_getElem hi', List.getElem?_eq_getElem hj'] at h
  exact nodup_at (hW.2.2.2.2.2.2 h9).1 hi' hj' (ba_ext h)
theorem step_all {k : Nat} {t : PT} {v : PV} (hW : WFT (k + 1) t) (hN : NE (k + 1) t) (hV : Valid (k + 1) t v) :
    (∀ i, i < v.parts.length → Step (stepOf v.of v.num i)) ∧ (∀ i j, i < v.parts.length → j < v.parts.length → stepOf v.of v.num i = stepOf v.of v.num j → i = j) ∧ ∀ u ∈ v.parts, ∃ t', WFT k t' ∧ NE k t' ∧ Valid k t' u := by
  obtain ⟨hof, h⟩ := hV
  have hk := hW.1
  have hsub : ∀ i, i < t.subs.length → NE k (t.sub i) := fun i hi => by
    refine hN.2 _ ?_
    unfold PT.sub
    rw [List.getElem?_eq_getElem hi]
    exact List.getElem_mem hi
  rw [hof]
  split at h
  · rw [h.2.1]; simp
  split at h
  · rw [h.2.1]; simp
  split at h
  · rw [h.2.1]; simp
  split at h
  · rw [h.2.1]; simp
  split at h
  · rw [h.2.1]; simp
  split at h
  · rename_i h7
    have hs := hW.2.2.2.2.1 (.inl h7)
    unfold stepOf
    simp only [h7, if_true]
    exact ⟨fun i _ => decN_step_ok i, fun i j hi hj e => decN_inj (by omega) (by omega) e, fun u hu => ⟨_, hW.sub (by omega), hsub 0 (by omega), h.2.2.2 u hu⟩⟩
  split at h
  · rename_i h8
    have hs := hW.2.2.2.2.1 (.inr h8)
    unfold stepOf
    simp only [h8, if_true]
    exact ⟨fun i _ => by simp [Step], fun i j hi hj e => by omega, fun u hu => ⟨_, hW.sub (by omega), hsub 0 (by omega), h.2.2.2 u hu⟩⟩
  split at h
  · rename_i h9
    unfold stepOf
    simp only [h9, if_true]
    refine ⟨fun i hi => ?_, fun i j hi hj e => ?_, fun u hu => ?_⟩
    · simpa using name_ok hW hN (by omega) (i := i) (by omega)
    · exact name_inj hW (by omega) (i := i) (j := j) (by omega) (by omega) (by simpa using e)
    · obtain ⟨i, hi⟩ := List.mem_iff_getElem?.1 hu
      have hil := (List.getElem?_eq_some_iff.1 hi).1
      exact ⟨_, hW.sub (by omega), hsub i (by omega), h.2.2.2 i u hi⟩
  · obtain ⟨_, j, x, hj, hjl, hpp, hx⟩ := h
    have h10 : t.kind = 10 := by omega
    unfold stepOf
    simp only [h10, hpp, hj]
    refine ⟨fun i _ => ?_, fun i j hi hj _ => by simp at hi hj; omega, fun u hu => ?_⟩
    · simpa using name_ok hW hN (by omega) hjl
    · simp at hu
      subst hu
      exact ⟨_, hW.sub hjl, hsub j hjl, hx⟩

theorem behindI_at {v u : PV} {st : Bs} : ∀ (l : List PV) (i : Nat), behindI v st i l = some u → ∃ j, i ≤ j ∧ j < i + l.length ∧ stepOf v.of v.num j = st := by
  intro l
  induction l with
  | nil => intro i h; simp [behindI] at h
  | cons x l ih =>
    intro i h
    unfold behindI at h
    split at h
    · rename_i e; exact ⟨i, Nat.le_refl _, by simp, e⟩
    · obtain ⟨j, h1, h2, h3⟩ := ih _ h; exact ⟨j, by omega, by simp; omega, h3⟩
theorem behind_empty {k : Nat} {t : PT} {v u : PV} (hW : WFT (k + 1) t) (hN : NE (k + 1) t) (hV : Valid (k + 1) t v) (h : behindP v [] = some u) : False := by
  obtain ⟨j, _, h2, h3⟩ := behindI_at _ _ h
  rw [Nat.zero_add] at h2
  exact ((step_all hW hN hV).1 j h2).1 h3

/-! ### Finding a way -/
def findW {α : Type} [DecidableEq α] (l : List (α × Bs)) (p : α) : Option Bs := (l.find? fun q => decide (q.1 = p)).map (·.2)
theorem findW_nil {α : Type} [DecidableEq α] (p : α) : findW ([] : List (α × Bs)) p = none := rfl
theorem findW_cons {α : Type} [DecidableEq α] (q : α × Bs) (l : List (α × Bs)) (p : α) : findW (q :: l) p = if q.1 = p then some q.2 else findW l p := by
  unfold findW
  rw [List.find?_cons]
  by_cases h : q.1 = p <;> simp [h]
theorem findW_app {α : Type} [DecidableEq α] (a b : List (α × Bs)) (p : α) : findW (a ++ b) p = (findW a p).or (findW b p) := by
  unfold findW
  rw [List.find?_append]
  cases List.find? (fun q => decide (q.1 = p)) a <;> simp
theorem findW_none {α : Type} [DecidableEq α] {l : List (α × Bs)} {p : α} (h : ∀ q ∈ l, q.1 ≠ p) : findW l p = none := by
  unfold findW
  rw [Option.map_eq_none_iff, List.find?_eq_none]
  intro q hq
  simpa using h q hq

theorem kids_mem {α : Type} {f : Nat → PV → List α} {a : α} : ∀ (l : List PV) (i : Nat), a ∈ kids f i l → ∃ j x, i ≤ j ∧ j < i + l.length ∧ l[j - i]? = some x ∧ a ∈ f j x := by
  intro l
  induction l with
  | nil => intro i h; simp [kids] at h
  | cons y l ih =>
    intro i h
    simp only [kids] at h
    rcases List.mem_append.1 h with h | h
    · exact ⟨i, y, Nat.le_refl _, by simp, by simp, h⟩
    · obtain ⟨j, x, h1, h2, h3, h4⟩ := ih (i + 1) h
      refine ⟨j, x, by omega, by simp; omega, ?_, h4⟩
      rw [show j - i = (j - (i + 1)) + 1 by omega, List.getElem?_cons_succ]
      exact h3
theorem ways_pre : ∀ (k : Nat) (q : List Bs) (v : PV) (a : List Bs × Bs), a ∈ waysL k q v → q <+: a.1 := by
  intro k
  induction k with
  | zero => intro q v a h; simp [waysL] at h
  | succ k ih =>
    intro q v a h
    simp only [waysL] at h
    rcases List.mem_cons.1 h with rfl | h
    · exact List.prefix_rfl
    · obtain ⟨j, x, _, _, _, h4⟩ := kids_mem _ _ h
      exact (List.prefix_append _ _).trans (ih _ _ _ h4)
theorem pre_step {q : List Bs} {x st : Bs} {l : List Bs} (h : q ++ [x] <+: q ++ st :: l) : x = st := by
  have := (List.prefix_append_right_inj q).1 h
  obtain ⟨m, hm⟩ := this
  simp at hm
  exact hm.1
theorem find_kids {k : Nat} {q : List Bs} {v : PV} {st : Bs} {l : List Bs} (hin : ∀ i j, i < v.parts.length → j < v.parts.length → stepOf v.of v.num i = stepOf v.of v.num j → i = j)
    (ih : ∀ u ∈ v.parts, ∀ q', findW (waysL k q' u) (q' ++ l) = (goneP u l).map (wText (k - l.length))) : ∀ (ps : List PV) (i : Nat), i + ps.length = v.parts.length → (∀ u ∈ ps, u ∈ v.parts) →
    findW (kids (fun i x => waysL k (q ++ [stepOf v.of v.num i]) x) i ps) (q ++ st :: l) = ((behindI v st i ps).bind fun u => goneP u l).map (wText (k - l.length)) := by
  intro ps
  induction ps with
  | nil => intro i _ _; rfl
  | cons x ps ih2 =>
    intro i hl hm
    simp only [List.length_cons] at hl
    simp only [kids]
    rw [findW_app]
    by_cases he : stepOf v.of v.num i = st
    · have e1 : findW (kids (fun i x => waysL k (q ++ [stepOf v.of v.num i]) x) (i + 1) ps) (q ++ st :: l) = none := by
        refine findW_none (fun a ha e => ?_)
        obtain ⟨j, y, h1, h2, _, h4⟩ := kids_mem _ _ ha
        have hp := ways_pre _ _ _ _ h4
        rw [e] at hp
        have := hin i j (by omega) (by omega) (he.trans (pre_step hp).symm)
        omega
      have e2 := ih x (hm x (by simp)) (q ++ [st])
      rw [List.append_assoc, List.singleton_append] at e2
      rw [e1, he, e2]
      unfold behindI
      rw [if_pos he]
      simp
    · have e1 : findW (waysL k (q ++ [stepOf v.of v.num i]) x) (q ++ st :: l) = none := by
        refine findW_none (fun a ha e => ?_)
        have hp := ways_pre _ _ _ _ ha
        rw [e] at hp
        exact he (pre_step hp)
      rw [e1, ih2 (i + 1) (by omega) (fun u hu => hm u (by simp [hu]))]
      conv => rhs; unfold behindI
      rw [if_neg he]
      simp
theorem find_ways : ∀ (k : Nat) (t : PT) (v : PV) (q l : List Bs), WFT k t → NE k t → Valid k t v → findW (waysL k q v) (q ++ l) = (goneP v l).map (wText (k - l.length)) := by
  intro k
  induction k with
  | zero => intro t v q l h; exact h.elim
  | succ k ih =>
    intro t v q l hW hN hV
    obtain ⟨_, s2, s3⟩ := step_all hW hN hV
    simp only [waysL]
    rw [findW_cons]
    cases l with
    | nil => simp [goneP]
    | cons st l =>
      rw [if_neg (by simp)]
      rw [find_kids s2 (fun u hu q' => by obtain ⟨t', a1, a2, a3⟩ := s3 u hu; exact ih t' u q' l a1 a2 a3) v.parts 0 (by simp) (fun u hu => hu)]
      simp only [goneP, behindP, List.length_cons]
      rw [show k + 1 - (l.length + 1) = k - l.length by omega]

theorem kids_map {α β : Type} (g : α → β) (f : Nat → PV → List α) (f' : Nat → PV → List β) : ∀ (l : List PV) (i : Nat), (∀ j x, i ≤ j → j < i + l.length → x ∈ l → f' j x = (f j x).map g) → kids f' i l = (kids f i l).map g := by
  intro l
  induction l with
  | nil => intro i _; rfl
  | cons y l ih =>
    intro i h
    simp only [kids, List.map_append]
    rw [h i y (Nat.le_refl _) (by simp) (by simp), ih (i + 1) (fun j x h1 h2 h3 => h j x (by omega) (by simp; omega) (by simp [h3]))]
theorem ways_list : ∀ (k : Nat) (t : PT) (v : PV) (q : List Bs), WFT k t → NE k t → Valid k t v → (∀ x ∈ q, Step x) → waysOf k (joinP q) v = (waysL k q v).map (fun a => (joinP a.1, a.2)) ∧ ∀ a ∈ waysL k q v, ∀ x ∈ a.1, Step x := by
  intro k
  induction k with
  | zero => intro t v q h; exact h.elim
  | succ k ih =>
    intro t v q hW hN hV hq
    obtain ⟨s1, _, s3⟩ := step_all hW hN hV
    have hq' : ∀ i, i < v.parts.length → ∀ x ∈ q ++ [stepOf v.of v.num i], Step x := fun i hi x hx => by
      rcases List.mem_append.1 hx with h | h
      · exact hq x h
      · simp at h; subst h; exact s1 i hi
    refine ⟨?_, ?_⟩
    · simp only [waysOf, waysL, List.map_cons]
      congr 1
      refine kids_map _ _ _ _ _ (fun j x _ h2 h3 => ?_)
      rw [Nat.zero_add] at h2
      obtain ⟨t', a1, a2, a3⟩ := s3 x h3
      rw [under_join (fun y hy => (hq y hy).1)]
      exact (ih t' x _ a1 a2 a3 (hq' j h2)).1
    · intro a ha
      simp only [waysL] at ha
      rcases List.mem_cons.1 ha with rfl | ha
      · exact hq
      · obtain ⟨j, x, _, h2, h3, h4⟩ := kids_mem _ _ ha
        rw [Nat.zero_add] at h2
        obtain ⟨t', a1, a2, a3⟩ := s3 x (List.mem_iff_getElem?.2 ⟨_, h3⟩)
        exact (ih t' x _ a1 a2 a3 (hq' j h2)).2 a h4
/-- The ways behind the first, by a path's steps. -/
theorem find_path {k : Nat} {t : PT} {v : PV} (hW : WFT (k + 1) t) (hN : NE (k + 1) t) (hV : Valid (k + 1) t v) {l : List Bs} (hl : l ≠ []) (hs : ∀ x ∈ l, (47 : UInt8) ∉ x) :
    findW ((waysOf (k + 1) [] v).drop 1) (joinP l) = (goneP v l).map (wText (k + 1 - l.length)) := by
  obtain ⟨e1, e2⟩ := ways_list (k + 1) t v [] hW hN hV (by simp)
  have e3 := find_ways (k + 1) t v [] l hW hN hV
  have e1' : waysOf (k + 1) [] v = (waysL (k + 1) [] v).map (fun a => (joinP a.1, a.2)) := e1
  rw [List.nil_append] at e3
  rw [← e3, e1']
  simp only [waysL, List.map_cons, List.drop_succ_cons, List.drop_zero]
  rw [findW_cons, if_neg (fun e => hl e.symm)]
  have hk : ∀ a ∈ kids (fun i x => waysL k ([] ++ [stepOf v.of v.num i]) x) 0 v.parts, a.1 ≠ [] := fun a ha => by
    obtain ⟨j, x, _, _, _, h4⟩ := kids_mem _ _ ha
    intro e
    have := ways_pre _ _ _ _ h4
    rw [e] at this
    simp at this
  have hk2 : ∀ a ∈ kids (fun i x => waysL k ([] ++ [stepOf v.of v.num i]) x) 0 v.parts, ∀ x ∈ a.1, Step x := fun a ha => e2 a (by simp only [waysL]; exact List.mem_cons_of_mem _ ha)
  revert hk hk2
  generalize kids (fun i x => waysL k ([] ++ [stepOf v.of v.num i]) x) 0 v.parts = L
  intro hk hk2
  induction L with
  | nil => rfl
  | cons a L ih =>
    rw [List.map_cons, findW_cons, findW_cons]
    by_cases h : a.1 = l
    · rw [if_pos h, if_pos (by rw [h])]
    · rw [if_neg h, if_neg (fun e => h (join_inj (hk a (by simp)) hl (fun x hx => (hk2 a (by simp) x hx).2) hs e)), ih (fun b hb => hk b (by simp [hb])) (fun b hb => hk2 b (by simp [hb]))]

/-! ### What the reference tells at a path -/
def refG (W : List (Bs × Bs)) (p : Bs) : Nat → Nat → Nat → Bs → ByteArray × Nat × Nat
  | 0, _, _, text => (ba text, 0, 0)
  | f + 1, i, step, text =>
    if i < p.length ∧ p[i]? ≠ some 47 then refG W p f (i + 1) step text
    else match findW W (p.take i) with
      | none => (⟨#[]⟩, 7, step)
      | some s => if i = 0 then (⟨#[]⟩, 7, step) else refG W p f (i + 1) (step + 1) s

def prefP : List Bs → Bs
  | [] => []
  | x :: l => x ++ 47 :: prefP l
theorem prefP_snoc (x : Bs) : ∀ (l : List Bs), prefP (l ++ [x]) = prefP l ++ (x ++ [47]) := by
  intro l
  induction l with
  | nil => simp [prefP]
  | cons y l ih => simp [prefP, ih]
theorem join_pref (x : Bs) : ∀ (l : List Bs), joinP (l ++ [x]) = prefP l ++ x := by
  intro l
  induction l with
  | nil => rfl
  | cons y l ih => rw [List.cons_append, joinP_cons y (by simp), ih]; simp [prefP]
theorem split_pref (b : Bs) : ∀ (l : List Bs), (∀ x ∈ l, (47 : UInt8) ∉ x) → splitP (prefP l ++ b) = l ++ splitP b := by
  intro l
  induction l with
  | nil => intro _; rfl
  | cons x l ih =>
    intro h
    have : prefP (x :: l) ++ b = x ++ 47 :: (prefP l ++ b) := by simp [prefP]
    rw [this, splitP_more _ _ (h x (by simp)), ih (fun y hy => h y (by simp [hy])), List.cons_append]
def tellP (K : Nat) (r : Option PV × Nat) : ByteArray × Nat × Nat :=
  match r with
  | (some u, _) => (ba (wText K u), 0, 0)
  | (none, n) => (⟨#[]⟩, 7, n)

theorem refG_any {k : Nat} {t : PT} {v : PV} (hW : WFT (k + 1) t) (hN : NE (k + 1) t) (hV : Valid (k + 1) t v) (p : Bs) : ∀ (b : Bs) (pre : List Bs) (cur : Bs) (u : PV) (text : Bs), p = prefP pre ++ (cur ++ b) → (47 : UInt8) ∉ cur → (∀ x ∈ pre, (47 : UInt8) ∉ x) → goneP v pre = some u →
    refG ((waysOf (k + 1) [] v).drop 1) p (b.length + 1) (prefP pre ++ cur).length pre.length text = tellP (k + 1 - (splitP p).length) (partP u (splitP (cur ++ b)) pre.length) := by
  intro b
  induction b with
  | nil =>
    intro pre cur u text hp hc hpre hg
    have ht : p.take (prefP pre ++ cur).length = joinP (pre ++ [cur]) := by rw [join_pref, hp, List.append_nil, List.take_length]
    have hf := find_path hW hN hV (l := pre ++ [cur]) (by simp) (fun x hx => by rcases List.mem_append.1 hx with h | h; exact hpre x h; simp at h; subst h; exact hc)
    have hsp : splitP p = pre ++ [cur] := by rw [hp, split_pref _ _ hpre, List.append_nil, splitP_one _ hc]
    rw [List.append_nil, splitP_one _ hc]
    simp only [List.length_nil, refG]
    rw [if_neg (by rw [hp]; simp), ht, hf, goneP_snoc, hg, hsp]
    simp only [Option.bind_some, partP]
    rcases hb : behindP u cur with _ | u2
    · rfl
    · simp only [Option.map_some]
      rw [if_neg]
      · rfl
      · intro e
        have hz : pre = [] ∧ cur = [] := by
          rcases pre with _ | ⟨x, pre⟩
          · simp [prefP] at e; exact ⟨rfl, e⟩
          · simp [prefP] at e
        obtain ⟨rfl, rfl⟩ := hz
        simp [goneP] at hg
        subst hg
        exact (behind_empty hW hN hV hb).elim
  | cons c b ih =>
    intro pre cur u text hp hc hpre hg
    have hlen : (prefP pre ++ cur).length < p.length := by rw [hp]; simp
    have hat : p[(prefP pre ++ cur).length]? = some c := by
      rw [hp, ← List.append_assoc, List.getElem?_append_right (Nat.le_refl _)]
      simp
    rw [List.length_cons, refG]
    by_cases h47 : c = 47
    · subst h47
      have ht : p.take (prefP pre ++ cur).length = joinP (pre ++ [cur]) := by rw [join_pref, hp, ← List.append_assoc, List.take_left]
      have hf := find_path hW hN hV (l := pre ++ [cur]) (by simp) (fun x hx => by rcases List.mem_append.1 hx with h | h; exact hpre x h; simp at h; subst h; exact hc)
      rw [if_neg (by rw [hat]; simp), ht, hf, goneP_snoc, hg, splitP_more _ _ hc]
      simp only [Option.bind_some, partP]
      rcases hb : behindP u cur with _ | u2
      · rfl
      · simp only [Option.map_some]
        rw [if_neg]
        · have h1 := ih (pre ++ [cur]) [] u2 (wText (k + 1 - (pre ++ [cur]).length) u2) (by rw [prefP_snoc, hp]; simp) (by simp) (fun x hx => by rcases List.mem_append.1 hx with h | h; exact hpre x h; simp at h; subst h; exact hc) (by rw [goneP_snoc, hg]; exact hb)
          rw [prefP_snoc] at h1
          simp only [List.append_nil, List.length_append, List.length_cons, List.length_nil, List.nil_append] at h1 ⊢
          rw [show (prefP pre).length + cur.length + 1 = (prefP pre).length + (cur.length + (0 + 1)) by omega]
          exact h1
        · intro e
          have hz : pre = [] ∧ cur = [] := by
            rcases pre with _ | ⟨x, pre⟩
            · simp [prefP] at e; exact ⟨rfl, e⟩
            · simp [prefP] at e
          obtain ⟨rfl, rfl⟩ := hz
          simp [goneP] at hg
          subst hg
          exact (behind_empty hW hN hV hb).elim
    · rw [if_pos ⟨hlen, by rw [hat]; simpa using h47⟩]
      have h1 := ih pre (cur ++ [c]) u text (by rw [hp]; simp) (by simp [hc]; exact fun e => h47 e.symm) hpre hg
      simp only [List.append_assoc, List.length_append, List.length_cons, List.length_nil, List.cons_append, List.nil_append] at h1 ⊢
      rw [show (prefP pre).length + cur.length + 1 = (prefP pre).length + (cur.length + (0 + 1)) by omega]
      exact h1
/-- The reference's answer at a path is the one that the steps give. -/
theorem refG_getV {t : PT} {v : PV} (hW : WFT 12 t) (hN : NE 12 t) (hV : Valid 12 t v) (path : ByteArray) (hne : path ≠ ⟨#[]⟩) : refG ((waysOf 12 [] v).drop 1) path.data.toList (path.data.toList.length + 1) 0 0 [] = getV v path := by
  have h := refG_any hW hN hV path.data.toList path.data.toList [] [] v [] rfl (by simp) (by simp) rfl
  have e : getV v path = tellP (12 - (splitP path.data.toList).length) (partP v (splitP path.data.toList) 0) := by
    unfold getV tellP
    rw [if_neg hne]
    rcases partP v (splitP path.data.toList) 0 with ⟨_ | u, n⟩ <;> rfl
  rw [e]
  exact h

end Go.Proofs.YtnhkalnihjkoeaaGreatDoor
