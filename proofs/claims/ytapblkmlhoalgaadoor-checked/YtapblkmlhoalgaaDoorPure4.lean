/- The two readers' pure functions, held against each other: lines. -/
import Derived.Test.YtapblkmlhoalgaaDoorPure3
namespace Go.Proofs.YtapblkmlhoalgaaDoor

/-- What is wrong with the names of the i-th line. -/
def cAt (tab : List RT) (lines : List (ByteArray × PT)) (roots ats : List Nat) (i : Nat) : Option Nat :=
  orO (if ((lines.take i).map (·.1)).any (fun z => decide (z = textAt (lines.map (·.1)) i)) = true then some (numAt ats i) else none) (vOf (lines.take i) tab (numAt roots i)).2
def eAt (tab : List RT) (lines : List (ByteArray × PT)) (roots ats : List Nat) (i : Nat) : Option Nat :=
  if 12 < (vOf (lines.take i) tab (numAt roots i)).1 then some (numAt ats i) else none
def firstOf (c : Nat → Option Nat) : Nat → Option Nat
  | 0 => none
  | k + 1 => orO (firstOf c k) (c k)

theorem firstOf_congr {c c' : Nat → Option Nat} : ∀ k, (∀ i, i < k → c i = c' i) → firstOf c k = firstOf c' k := by
  intro k
  induction k with
  | zero => intro _; rfl
  | succ k ih => intro h; simp only [firstOf]; rw [ih (fun i hi => h i (by omega)), h k (by omega)]

/-- The i-th line's rows. -/
def Seg (tab : List RT) (lines : List (ByteArray × PT)) (roots : List Nat) (i : Nat) : Prop :=
  ∃ lo, lo ≤ numAt roots i ∧ numAt roots i < tab.length ∧ RowsOK lo (tab.take (numAt roots i + 1)) ∧ (∀ j, j < i → numAt roots j < lo) ∧ (∃ q, lines[i]? = some q ∧ q.2.depth = (vOf (lines.take i) tab (numAt roots i)).1)

structure Inv (d : RD) (lines : List (ByteArray × PT)) (bad deep : Option Nat) : Prop where
  nms : d.lines = lines.map (·.1)
  la : d.ats.length = lines.length
  lr : d.roots.length = lines.length
  seg : ∀ i, i < lines.length → Seg d.tab lines d.roots i
  bad : bad = firstOf (cAt d.tab lines d.roots d.ats) lines.length
  deep : deep = firstOf (eAt d.tab lines d.roots d.ats) lines.length
  wf : W1 d.tab
  em : ∀ x, (rowAt d.tab x).kind = 11 → (rowAt d.tab x).of = []

theorem take_app {lines : List (ByteArray × PT)} {q : ByteArray × PT} {i : Nat} (h : i ≤ lines.length) : (lines ++ [q]).take i = lines.take i := by
  rw [List.take_append_of_le_length h]

theorem RowsOK.take {lo : Nat} {tab : List RT} (h : RowsOK lo tab) (m : Nat) : RowsOK lo (tab.take m) := by
  intro x hlo hx
  rw [List.length_take] at hx
  have e : rowAt (tab.take m) x = rowAt tab x := by unfold rowAt; rw [List.getElem?_take_of_lt (by omega)]
  rw [e]
  exact h x hlo (by omega)

theorem W1_of {tab : List RT} {lo : Nat} {new : List RT} (h : W1 tab) (hlo : lo = tab.length) (hr : RowsOK lo (tab ++ new)) : W1 (tab ++ new) := by
  intro x t hx
  by_cases e : x < tab.length
  · rw [List.getElem?_append_left e] at hx
    exact h x t hx
  · have hl := (List.getElem?_eq_some_iff.1 hx).1
    have ht : rowAt (tab ++ new) x = t := by unfold rowAt; rw [hx]; rfl
    have := hr x (by omega) hl
    rw [ht] at this
    exact ⟨fun hk => ⟨fun y hy => ((this.1 hk).1 y hy).2, (this.1 hk).2⟩, fun hk => ⟨(this.2 hk).1, (this.2 hk).2.1⟩⟩

theorem line_inv {s : ByteArray} {d : RD} {lines : List (ByteArray × PT)} {bad deep : Option Nat} (h : Inv d lines bad deep) (hroots : ∀ j, j < lines.length → numAt d.roots j < d.tab.length) {p : Res} {x : Nat} {rn : Nat} {new : List RT}
    (hg : Good lines d.tab d.tab.length (nameBad s (lines.map (·.1)) d.n bad) p (⟨rn, false, d.tab ++ new⟩, x)) :
    Inv ⟨rn, false, d.tab ++ new, d.lines ++ [nameAt s d.n], d.ats ++ [d.n], d.roots ++ [x]⟩ (lines ++ [(nameAt s d.n, p.t)]) p.bad (lineDeep p d.n deep) := by
  obtain ⟨_, hrows, hx1, hx2, hdep, hpb⟩ := hg
  simp only at hrows hx1 hx2 hdep hpb
  have hnl : (lines.map (·.1)).length = lines.length := by simp
  have hro : ∀ i, i < lines.length → numAt (d.roots ++ [x]) i = numAt d.roots i := fun i hi => numAt_app (by rw [h.lr]; exact hi)
  have hao : ∀ i, i < lines.length → numAt (d.ats ++ [d.n]) i = numAt d.ats i := fun i hi => numAt_app (by rw [h.la]; exact hi)
  have hrl : numAt (d.roots ++ [x]) lines.length = x := by rw [← h.lr]; exact numAt_last _ _
  have hal : numAt (d.ats ++ [d.n]) lines.length = d.n := by rw [← h.la]; exact numAt_last _ _
  have hmap : (lines ++ [(nameAt s d.n, p.t)]).map (·.1) = lines.map (·.1) ++ [nameAt s d.n] := by simp
  have hvo : ∀ i, i < lines.length → vOf ((lines ++ [(nameAt s d.n, p.t)]).take i) (d.tab ++ new) (numAt (d.roots ++ [x]) i) = vOf (lines.take i) d.tab (numAt d.roots i) := fun i hi => by
    rw [take_app (by omega), hro i hi, vOf_app _ _ _ _ (hroots i hi)]
  have hvl : vOf ((lines ++ [(nameAt s d.n, p.t)]).take lines.length) (d.tab ++ new) (numAt (d.roots ++ [x]) lines.length) = vOf lines (d.tab ++ new) x := by
    rw [take_app (Nat.le_refl _), hrl, List.take_length]
  have hc : ∀ i, i < lines.length → cAt (d.tab ++ new) (lines ++ [(nameAt s d.n, p.t)]) (d.roots ++ [x]) (d.ats ++ [d.n]) i = cAt d.tab lines d.roots d.ats i := fun i hi => by
    unfold cAt
    rw [hvo i hi, hao i hi, take_app (by omega), hmap, textAt_app (by rw [hnl]; exact hi)]
  have he : ∀ i, i < lines.length → eAt (d.tab ++ new) (lines ++ [(nameAt s d.n, p.t)]) (d.roots ++ [x]) (d.ats ++ [d.n]) i = eAt d.tab lines d.roots d.ats i := fun i hi => by
    unfold eAt
    rw [hvo i hi, hao i hi]
  refine ⟨?_, ?_, ?_, ?_, ?_, ?_, W1_of h.wf rfl hrows, fun y hy => ?_⟩
  · show d.lines ++ [nameAt s d.n] = _; rw [hmap, h.nms]
  · show (d.ats ++ [d.n]).length = _; simp [h.la]
  · show (d.roots ++ [x]).length = _; simp [h.lr]
  · intro i hi
    rw [List.length_append, List.length_cons, List.length_nil] at hi
    show Seg (d.tab ++ new) (lines ++ [(nameAt s d.n, p.t)]) (d.roots ++ [x]) i
    by_cases hil : i < lines.length
    · obtain ⟨lo, h1, h2, h3, h4, q, h5, h6⟩ := h.seg i hil
      refine ⟨lo, by rw [hro i hil]; exact h1, by rw [hro i hil, List.length_append]; omega, ?_, fun j hj => by rw [hro j (by omega)]; exact h4 j hj, q, by rw [List.getElem?_append_left hil]; exact h5, by rw [hvo i hil]; exact h6⟩
      rw [hro i hil, List.take_append_of_le_length (by omega)]
      exact h3
    · have : i = lines.length := by omega
      subst this
      refine ⟨d.tab.length, by rw [hrl]; exact hx1, by rw [hrl]; exact hx2, by rw [hrl]; exact hrows.take _, fun j hj => by rw [hro j hj]; exact hroots j hj, (nameAt s d.n, p.t), by simp, by rw [hvl]; exact hdep⟩
  · show p.bad = firstOf _ (lines ++ [(nameAt s d.n, p.t)]).length
    rw [List.length_append, List.length_cons, List.length_nil]
    simp only [firstOf]
    rw [firstOf_congr lines.length hc, ← h.bad]
    unfold cAt
    rw [hvl, hal, take_app (Nat.le_refl _), hmap, ← hnl, textAt_last, hnl, List.take_length, hpb]
    unfold nameBad
    cases bad <;> cases (vOf lines (d.tab ++ new) x).2 <;> cases ((lines.map (·.1)).any fun z => decide (z = nameAt s d.n)) <;> rfl
  · show lineDeep p d.n deep = firstOf _ (lines ++ [(nameAt s d.n, p.t)]).length
    rw [List.length_append, List.length_cons, List.length_nil]
    simp only [firstOf]
    rw [firstOf_congr lines.length he, ← h.deep]
    unfold eAt lineDeep
    rw [hvl, hal, hdep]
    by_cases h12 : 12 < (vOf lines (d.tab ++ new) x).1
    · rw [if_pos h12, if_pos h12]; cases deep <;> rfl
    · rw [if_neg h12, if_neg h12]; cases deep <;> rfl
  · show (rowAt (d.tab ++ new) y).of = []
    by_cases hl : y < d.tab.length
    · rw [rowAt_app hl]
      exact h.em y (by rw [← rowAt_app (new := new) hl]; exact hy)
    · by_cases hl2 : y < (d.tab ++ new).length
      · exact ((hrows y (by omega) hl2).2 hy).2.2
      · unfold rowAt
        rw [List.getElem?_eq_none (by omega)]
        rfl

end Go.Proofs.YtapblkmlhoalgaaDoor
