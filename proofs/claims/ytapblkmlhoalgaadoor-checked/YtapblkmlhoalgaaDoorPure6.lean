/- The two readers' pure functions, held against each other: names and depths of a line. -/
import Derived.Test.YtapblkmlhoalgaaDoorPure5
namespace Go.Proofs.YtapblkmlhoalgaaDoor

def dOf (tb : List RT) (x : Nat) : Nat := depthOf (rDepths tb x) (rowAt tb x)
theorem numAt_depths (tb : List RT) (y : Nat) : ∀ k, y < k → numAt (rDepths tb k) y = dOf tb y := by
  intro k
  induction k with
  | zero => intro h; omega
  | succ k ih =>
    intro h
    simp only [rDepths, numAt]
    by_cases e : y < k
    · rw [List.getElem?_append_left (by rw [rDepths_length]; exact e)]
      exact ih e
    · have : y = k := by omega
      subst this
      rw [List.getElem?_append_right (by rw [rDepths_length]; exact Nat.le_refl _), rDepths_length, Nat.sub_self]
      rfl

/-- The same table, but that rows of names may have been told what they stand for. -/
structure Ext (tb tb' : List RT) : Prop where
  len : tb'.length = tb.length
  row : ∀ y, (rowAt tb' y).kind = (rowAt tb y).kind ∧ (rowAt tb' y).names = (rowAt tb y).names ∧ (rowAt tb' y).ats = (rowAt tb y).ats ∧ (((rowAt tb y).kind = 11 ∧ (rowAt tb y).of = []) ∨ (rowAt tb' y).of = (rowAt tb y).of)
theorem Ext.refl (tb : List RT) : Ext tb tb := ⟨rfl, fun _ => ⟨rfl, rfl, rfl, .inr rfl⟩⟩
theorem Ext.trans {a b c : List RT} (h : Ext a b) (k : Ext b c) : Ext a c := by
  refine ⟨k.len.trans h.len, fun y => ?_⟩
  obtain ⟨h1, h2, h3, h4⟩ := h.row y
  obtain ⟨k1, k2, k3, k4⟩ := k.row y
  refine ⟨k1.trans h1, k2.trans h2, k3.trans h3, ?_⟩
  rcases h4 with h4 | h4
  · exact .inl h4
  · rcases k4 with ⟨k4, k5⟩ | k4
    · exact .inl ⟨h1.symm.trans k4, h4.symm.trans k5⟩
    · exact .inr (k4.trans h4)
theorem RT.eq {a b : RT} (h1 : a.kind = b.kind) (h2 : a.of = b.of) (h3 : a.names = b.names) (h4 : a.ats = b.ats) : a = b := by
  cases a; cases b; simp at *; exact ⟨h1, h2, h3, h4⟩
theorem Ext.same {a b : List RT} (h : Ext a b) {x : Nat} (hk : (rowAt a x).kind ≠ 11) : rowAt b x = rowAt a x := by
  obtain ⟨h1, h2, h3, h4⟩ := h.row x
  rcases h4 with ⟨h4, _⟩ | h4
  · exact absurd h4 hk
  · exact RT.eq h1 h4 h2 h3
theorem Ext.told {a b : List RT} (h : Ext a b) {x : Nat} (hk : (rowAt a x).of ≠ []) : rowAt b x = rowAt a x := by
  obtain ⟨h1, h2, h3, h4⟩ := h.row x
  rcases h4 with ⟨_, h4⟩ | h4
  · exact absurd h4 hk
  · exact RT.eq h1 h4 h2 h3

theorem rowAt_set {tb : List RT} {x : Nat} (hx : x < tb.length) (t : RT) (y : Nat) : rowAt (tb.set x t) y = if y = x then t else rowAt tb y := by
  unfold rowAt
  rw [List.getElem?_set]
  by_cases e : x = y
  · subst e; simp [hx]
  · rw [if_neg e, if_neg (fun h => e h.symm)]

theorem named_both (nm : ByteArray) : ∀ (lines : List (ByteArray × PT)) (roots : List Nat) (i : Nat), roots.length = lines.length → i ≤ lines.length →
    (rNamed (lines.map (·.1)) roots nm i = none ∧ lineOf nm (lines.take i) = none ∧ ((lines.take i).map (·.1)).any (fun z => decide (z = nm)) = false) ∨ (∃ j q, j < i ∧ rNamed (lines.map (·.1)) roots nm i = some (numAt roots j) ∧ lines[j]? = some q ∧ lineOf nm (lines.take i) = some q.2 ∧ ((lines.take i).map (·.1)).any (fun z => decide (z = nm)) = true) := by
  intro lines
  induction lines with
  | nil => intro roots i h1 h2; left; simp at h2; subst h2; exact ⟨rfl, rfl, rfl⟩
  | cons p lines ih =>
    intro roots i h1 h2
    cases roots with
    | nil => simp at h1
    | cons r roots =>
      cases i with
      | zero => left; exact ⟨rfl, rfl, rfl⟩
      | succ i =>
        have e1 : rNamed ((p :: lines).map (·.1)) (r :: roots) nm (i + 1) = if p.1 = nm then some r else rNamed (lines.map (·.1)) roots nm i := rfl
        have e2 : lineOf nm ((p :: lines).take (i + 1)) = if p.1 = nm then some p.2 else lineOf nm (lines.take i) := rfl
        have e3 : (((p :: lines).take (i + 1)).map (·.1)).any (fun z => decide (z = nm)) = (decide (p.1 = nm) || ((lines.take i).map (·.1)).any (fun z => decide (z = nm))) := rfl
        by_cases e : p.1 = nm
        · right
          refine ⟨0, p, by omega, by rw [e1, if_pos e]; rfl, rfl, by rw [e2, if_pos e], by rw [e3]; simp [e]⟩
        · rw [e1, e2, e3, if_neg e, if_neg e]
          have d : decide (p.1 = nm) = false := by simp [e]
          rw [d, Bool.false_or]
          rcases ih roots i (by simpa using h1) (by simpa using h2) with h | ⟨j, q, hj, h3, h4, h5, h6⟩
          · exact .inl h
          · exact .inr ⟨j + 1, q, by omega, by rw [h3]; rfl, h4, h5, h6⟩

def Dn (v : Nat) (tb : List RT) (x : Nat) : Prop := ∀ tb', Ext tb tb' → dOf tb' x = v
theorem Dn.keep {v : Nat} {tb tb' : List RT} {x : Nat} (h : Dn v tb x) (e : Ext tb tb') : Dn v tb' x := fun t k => h t (e.trans k)

structure WR (tab0 : List RT) (lines : List (ByteArray × PT)) (roots : List Nat) (i lo root : Nat) (tb : List RT) : Prop where
  ext : Ext tab0 tb
  seg : ∀ y, lo ≤ y → y ≤ root → (rowAt tb y).kind = 11 → (rowAt tb y).of = [] ∨ ∃ to, rNamed (lines.map (·.1)) roots (textAt (rowAt tb y).names 0) i = some to ∧ (rowAt tb y).of = [to]
  old : ∀ j q, j < i → lines[j]? = some q → Dn q.2.depth tb (numAt roots j)
  w2 : W2 tb

theorem maxOf_eq {ds : List Nat} {vs : List (Nat × Option Nat)} {l : List Nat} (h : ∀ y ∈ l, numAt ds y = (vAt vs y).1) : ∀ c, maxOf ds l c = l.foldl (fun c y => max c (vAt vs y).1) c := by
  unfold maxOf
  induction l with
  | nil => intro c; rfl
  | cons y l ih =>
    intro c
    simp only [List.foldl_cons]
    rw [h y (by simp), ih (fun z hz => h z (by simp [hz]))]

theorem mem_at {l : List Nat} {y : Nat} (h : y ∈ l) : ∃ j, j < l.length ∧ numAt l j = y := by
  obtain ⟨j, hj, e⟩ := List.getElem_of_mem h
  exact ⟨j, hj, by unfold numAt; simp [hj, e]⟩
theorem at_mem {l : List Nat} {j : Nat} (h : j < l.length) : numAt l j ∈ l := by unfold numAt; simp [h]

theorem wrong_joint {tab0 : List RT} {lines : List (ByteArray × PT)} {roots : List Nat} {i lo root : Nat} (hro : ∀ x, lo ≤ x → x ≤ root → (rowAt tab0 x).kind ≠ 11 → ∀ y ∈ (rowAt tab0 x).of, lo ≤ y ∧ y < x) (hrt : root < tab0.length) (hbef : ∀ j, j < i → numAt roots j < lo) (hi : i ≤ lines.length) (hlr : roots.length = lines.length) :
    ∀ (f : Nat) (tb : List RT) (x : Nat), lo ≤ x → x ≤ root → x < f → WR tab0 lines roots i lo root tb →
      (rWrong (lines.map (·.1)) roots i f tb x).1 = (vOf (lines.take i) tab0 x).2 ∧ WR tab0 lines roots i lo root (rWrong (lines.map (·.1)) roots i f tb x).2 ∧ Ext tb (rWrong (lines.map (·.1)) roots i f tb x).2 ∧
      (∀ y, (y < lo ∨ root < y) → rowAt (rWrong (lines.map (·.1)) roots i f tb x).2 y = rowAt tb y) ∧ ((rWrong (lines.map (·.1)) roots i f tb x).1 = none → Dn (vOf (lines.take i) tab0 x).1 (rWrong (lines.map (·.1)) roots i f tb x).2 x) := by
  intro f
  induction f with
  | zero => intro tb x _ _ h; omega
  | succ f ih =>
    intro tb x hlo hx hf hW
    have hxl : x < tb.length := by rw [hW.ext.len]; omega
    obtain ⟨hk, hnm, hat, _⟩ := hW.ext.row x
    by_cases h11 : (rowAt tb x).kind = 11
    · have h110 : (rowAt tab0 x).kind = 11 := hk.symm.trans h11
      simp only [rWrong, vOf, vRow]
      rw [if_pos h11, if_pos h110, ← hnm, ← hat]
      have hsg := hW.seg x hlo hx h11
      rcases named_both (textAt (rowAt tb x).names 0) lines roots i hlr hi with ⟨e1, e2, _⟩ | ⟨j, q, hj, e1, e2, e3, _⟩
      · rw [e1, e2]
        exact ⟨rfl, hW, Ext.refl _, fun _ _ => rfl, fun h => by simp at h⟩
      · rw [e1, e3]
        simp only
        rw [e1] at hsg
        have hto : numAt roots j < x := by have := hbef j hj; omega
        have hset := rowAt_set hxl ⟨11, [numAt roots j], (rowAt tb x).names, (rowAt tb x).ats⟩
        have hE : Ext tb (tb.set x ⟨11, [numAt roots j], (rowAt tb x).names, (rowAt tb x).ats⟩) := by
          refine ⟨by simp, fun y => ?_⟩
          rw [hset y]
          by_cases e : y = x
          · subst e
            rw [if_pos rfl]
            refine ⟨h11.symm, rfl, rfl, ?_⟩
            rcases hsg with h | ⟨to, h1, h2⟩
            · exact .inl ⟨h11, h⟩
            · simp at h1; subst h1; exact .inr h2.symm
          · rw [if_neg e]; exact ⟨rfl, rfl, rfl, .inr rfl⟩
        refine ⟨trivial, ⟨hW.ext.trans hE, fun y h1 h2 h3 => ?_, fun j q h1 h2 => (hW.old j q h1 h2).keep hE, fun y hy z hz => ?_⟩, hE, fun y hy => ?_, fun _ tb' hE' => ?_⟩
        · rw [hset y] at h3 ⊢
          by_cases e : y = x
          · subst e; rw [if_pos rfl] at h3 ⊢; exact .inr ⟨numAt roots j, e1, rfl⟩
          · rw [if_neg e] at h3 ⊢; exact hW.seg y h1 h2 h3
        · rw [hset y] at hz
          by_cases e : y = x
          · subst e; rw [if_pos rfl] at hz; simp at hz; omega
          · rw [if_neg e] at hz; exact hW.w2 y (by simpa using hy) z hz
        · rw [hset y, if_neg (by omega)]
        · have hrow : rowAt tb' x = ⟨11, [numAt roots j], (rowAt tb x).names, (rowAt tb x).ats⟩ := by
            have h0 : rowAt (tb.set x ⟨11, [numAt roots j], (rowAt tb x).names, (rowAt tb x).ats⟩) x = ⟨11, [numAt roots j], (rowAt tb x).names, (rowAt tb x).ats⟩ := by rw [hset x, if_pos rfl]
            rw [hE'.told (by rw [h0]; simp), h0]
          have hd := hW.old j q hj e2 tb' (hE.trans hE')
          show depthOf (rDepths tb' x) (rowAt tb' x) = q.2.depth
          rw [hrow]
          show max 0 (numAt (rDepths tb' x) (numAt roots j)) + 0 = _
          rw [numAt_depths tb' _ x hto, hd]
          omega
    · have h110 : (rowAt tab0 x).kind ≠ 11 := fun h => h11 (hk.trans h)
      have hrow : rowAt tb x = rowAt tab0 x := hW.ext.same h110
      have hof := hro x hlo hx h110
      simp only [rWrong, vOf, vRow]
      rw [if_neg h11, if_neg h110, hrow]
      simp only
      have ht : ∃ t, t = rowAt tab0 x := ⟨_, rfl⟩
      obtain ⟨t, ht⟩ := ht
      rw [← ht] at hof h110 ⊢
      have key : ∀ (m k : Nat) (tb1 : List RT), k + m = t.of.length → WR tab0 lines roots i lo root tb1 → Ext tb tb1 → (∀ y, (y < lo ∨ root < y) → rowAt tb1 y = rowAt tb y) → (∀ j, j < k → Dn (vOf (lines.take i) tab0 (numAt t.of j)).1 tb1 (numAt t.of j)) →
          (rLoopW (rWrong (lines.map (·.1)) roots i f) t m k tb1).1 = wLoop (vList (lines.take i) tab0 x) t m k ∧ WR tab0 lines roots i lo root (rLoopW (rWrong (lines.map (·.1)) roots i f) t m k tb1).2 ∧ Ext tb (rLoopW (rWrong (lines.map (·.1)) roots i f) t m k tb1).2 ∧
          (∀ y, (y < lo ∨ root < y) → rowAt (rLoopW (rWrong (lines.map (·.1)) roots i f) t m k tb1).2 y = rowAt tb y) ∧ ((rLoopW (rWrong (lines.map (·.1)) roots i f) t m k tb1).1 = none → ∀ j, j < t.of.length → Dn (vOf (lines.take i) tab0 (numAt t.of j)).1 (rLoopW (rWrong (lines.map (·.1)) roots i f) t m k tb1).2 (numAt t.of j)) := by
        intro m
        induction m with
        | zero => intro k tb1 hm h1 h2 h3 h4; exact ⟨rfl, h1, h2, h3, fun _ j hj => h4 j (by omega)⟩
        | succ m ihm =>
          intro k tb1 hm h1 h2 h3 h4
          have hy := hof _ (at_mem (l := t.of) (j := k) (by omega))
          obtain ⟨g1, g2, g3, g4, g5⟩ := ih tb1 (numAt t.of k) hy.1 (by omega) (by omega) h1
          simp only [rLoopW, wLoop]
          rw [vAt_list _ _ _ x hy.2, ← g1]
          by_cases hd : dup t.names k = true
          · rw [if_pos hd, if_pos hd]
            exact ⟨rfl, h1, h2, h3, fun h => by simp at h⟩
          · rw [if_neg hd, if_neg hd]
            generalize hrr : rWrong (lines.map (·.1)) roots i f tb1 (numAt t.of k) = r at *
            obtain ⟨ro, rt⟩ := r
            simp only at g1 g2 g3 g4 g5 ⊢
            cases ro with
            | some a => exact ⟨rfl, g2, h2.trans g3, fun y hy => (g4 y hy).trans (h3 y hy), fun h => by simp at h⟩
            | none =>
              refine ihm (k + 1) rt (by omega) g2 (h2.trans g3) (fun y hy => (g4 y hy).trans (h3 y hy)) (fun j hj => ?_)
              by_cases e : j < k
              · exact (h4 j e).keep g3
              · have : j = k := by omega
                subst this
                exact g5 rfl
      obtain ⟨k1, k2, k3, k4, k5⟩ := key t.of.length 0 tb (by omega) hW (Ext.refl _) (fun _ _ => rfl) (fun j hj => by omega)
      refine ⟨k1, k2, k3, k4, fun hn tb' hE' => ?_⟩
      have k5 := k5 hn
      have hr' : rowAt tb' x = t := by
        rw [ht]; exact (k2.ext.trans hE').same (by rw [← ht]; exact h110)
      show depthOf (rDepths tb' x) (rowAt tb' x) = dMax (vList (lines.take i) tab0 x) t.of + 1
      rw [hr']
      unfold depthOf dMax
      rw [if_neg h110, maxOf_eq (vs := vList (lines.take i) tab0 x) (fun y hy => ?_)]
      obtain ⟨j, hj, e⟩ := mem_at hy
      rw [numAt_depths tb' y x (hof y hy).2, vAt_list _ _ _ x (hof y hy).2, ← e]
      exact k5 j hj tb' hE'

end Go.Proofs.YtapblkmlhoalgaaDoor
