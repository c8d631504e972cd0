/- The two readers' pure functions, held against each other: values of rows. -/
import Derived.Test.YtapblkmlhoalgaaDoorRRead
namespace Go.Proofs.YtapblkmlhoalgaaDoor

def vAt (vs : List (Nat × Option Nat)) (y : Nat) : Nat × Option Nat := (vs[y]?).getD (0, none)
def wLoop (vs : List (Nat × Option Nat)) (t : RT) : Nat → Nat → Option Nat
  | 0, _ => none
  | m + 1, k => if dup t.names k = true then some (numAt t.ats k) else
    match (vAt vs (numAt t.of k)).2 with
    | some a => some a
    | none => wLoop vs t m (k + 1)
def dMax (vs : List (Nat × Option Nat)) (l : List Nat) : Nat := l.foldl (fun c y => max c (vAt vs y).1) 0
def vRow (lines : List (ByteArray × PT)) (vs : List (Nat × Option Nat)) (t : RT) : Nat × Option Nat :=
  if t.kind = 11 then
    match lineOf (textAt t.names 0) lines with
    | some q => (q.depth, none)
    | none => (0, some (numAt t.ats 0))
  else (dMax vs t.of + 1, wLoop vs t t.of.length 0)
def vList (lines : List (ByteArray × PT)) (tab : List RT) : Nat → List (Nat × Option Nat)
  | 0 => []
  | k + 1 => vList lines tab k ++ [vRow lines (vList lines tab k) (rowAt tab k)]
def vOf (lines : List (ByteArray × PT)) (tab : List RT) (x : Nat) : Nat × Option Nat := vRow lines (vList lines tab x) (rowAt tab x)
def orO (a b : Option Nat) : Option Nat := match a with
  | some x => some x
  | none => b

theorem rowAt_app {tab new : List RT} {x : Nat} (h : x < tab.length) : rowAt (tab ++ new) x = rowAt tab x := by
  unfold rowAt; rw [List.getElem?_append_left h]
theorem rowAt_last (tab : List RT) (t : RT) : rowAt (tab ++ [t]) tab.length = t := by
  unfold rowAt; simp
theorem vList_length (lines : List (ByteArray × PT)) (tab : List RT) (k : Nat) : (vList lines tab k).length = k := by
  induction k with
  | zero => rfl
  | succ k ih => simp [vList, ih]
theorem vList_app (lines : List (ByteArray × PT)) (tab new : List RT) : ∀ k, k ≤ tab.length → vList lines (tab ++ new) k = vList lines tab k := by
  intro k
  induction k with
  | zero => intro _; rfl
  | succ k ih => intro h; simp only [vList]; rw [ih (by omega), rowAt_app (by omega)]
theorem vAt_list (lines : List (ByteArray × PT)) (tab : List RT) (y : Nat) : ∀ k, y < k → vAt (vList lines tab k) y = vOf lines tab y := by
  intro k
  induction k with
  | zero => intro h; omega
  | succ k ih =>
    intro h
    simp only [vList, vAt]
    by_cases e : y < k
    · rw [List.getElem?_append_left (by rw [vList_length]; exact e)]
      exact ih e
    · have : y = k := by omega
      subst this
      rw [List.getElem?_append_right (by rw [vList_length]; exact Nat.le_refl _), vList_length, Nat.sub_self]
      rfl
theorem vOf_app (lines : List (ByteArray × PT)) (tab new : List RT) (y : Nat) (h : y < tab.length) : vOf lines (tab ++ new) y = vOf lines tab y := by
  unfold vOf; rw [vList_app _ _ _ _ (by omega), rowAt_app h]

/-- Rows from lo on look among themselves alone. -/
def RowsOK (lo : Nat) (tab : List RT) : Prop := ∀ x, lo ≤ x → x < tab.length →
  ((rowAt tab x).kind ≠ 11 → (∀ y ∈ (rowAt tab x).of, lo ≤ y ∧ y < x) ∧ ((rowAt tab x).names = [] ∨ ((rowAt tab x).names.length = (rowAt tab x).of.length ∧ (rowAt tab x).ats.length = (rowAt tab x).of.length))) ∧
  ((rowAt tab x).kind = 11 → (rowAt tab x).names.length = 1 ∧ (rowAt tab x).ats.length = 1 ∧ (rowAt tab x).of = [])

theorem RowsOK.snoc {lo : Nat} {tab : List RT} (h : RowsOK lo tab) {t : RT}
    (h1 : t.kind ≠ 11 → (∀ y ∈ t.of, lo ≤ y ∧ y < tab.length) ∧ (t.names = [] ∨ (t.names.length = t.of.length ∧ t.ats.length = t.of.length))) (h2 : t.kind = 11 → t.names.length = 1 ∧ t.ats.length = 1 ∧ t.of = []) : RowsOK lo (tab ++ [t]) := by
  intro x hlo hx
  by_cases e : x < tab.length
  · rw [rowAt_app e]; exact h x hlo e
  · have : x = tab.length := by simp at hx; omega
    subst this
    rw [rowAt_last]
    exact ⟨h1, h2⟩
theorem RowsOK.nil (tab : List RT) : RowsOK tab.length tab := fun x h1 h2 => by omega

def Good (lines : List (ByteArray × PT)) (tab0 : List RT) (lo : Nat) (b0 : Option Nat) (p : Res) (r : RS × Nat) : Prop :=
  (∃ new, r.1.tab = tab0 ++ new) ∧ RowsOK lo r.1.tab ∧ tab0.length ≤ r.2 ∧ r.2 < r.1.tab.length ∧ p.t.depth = (vOf lines r.1.tab r.2).1 ∧ p.bad = orO b0 (vOf lines r.1.tab r.2).2

def J (s : ByteArray) (lines : List (ByteArray × PT)) (tab0 : List RT) (lo : Nat) (b0 : Option Nat) (p : Res) (r : RS × Nat) : Prop :=
  p.n = r.1.n ∧ p.n ≤ s.size ∧ ((p.ok = true ∧ r.1.bad = false ∧ Good lines tab0 lo b0 p r) ∨ (r.1.bad = true ∧ (p.ok = false ∨ isLetter s p.n = true)))

theorem rTyp_bad (s : ByteArray) (g n : Nat) (tab : List RT) : rTyp s g ⟨n, true, tab⟩ = (⟨n, true, tab⟩, 0) := by
  cases g <;> simp [rTyp]
theorem rMust_bad (s : ByteArray) (c n : Nat) (tab : List RT) : rMust s c ⟨n, true, tab⟩ = ⟨n, true, tab⟩ := by
  simp [rMust, mustN, mustB, rIs]
theorem rMust_yes {s : ByteArray} {c n : Nat} (tab : List RT) (h : byteAt s n = c) : rMust s c ⟨n, false, tab⟩ = ⟨n + 1, false, tab⟩ := by
  simp [rMust, mustN, mustB, rIs, h]
theorem rMust_no {s : ByteArray} {c n : Nat} (tab : List RT) (h : ¬ byteAt s n = c) : rMust s c ⟨n, false, tab⟩ = ⟨n, true, tab⟩ := by
  simp [rMust, mustN, mustB, rIs, h]
theorem letter_ne {s : ByteArray} {n c : Nat} (h : isLetter s n = true) (hc : c < 97 ∨ 122 < c) : ¬ byteAt s n = c := by
  unfold isLetter at h; simp at h; omega

/-- Adding a row to a good table. -/
theorem good_add {lines : List (ByteArray × PT)} {tab0 tab : List RT} {lo : Nat} (_hlo : lo ≤ tab0.length) {b0 : Option Nat} {n : Nat} {p : Res} {t : RT} (hext : ∃ new, tab = tab0 ++ new) (hok : RowsOK lo tab)
    (h1 : t.kind ≠ 11 → (∀ y ∈ t.of, lo ≤ y ∧ y < tab.length) ∧ (t.names = [] ∨ (t.names.length = t.of.length ∧ t.ats.length = t.of.length))) (h2 : t.kind = 11 → t.names.length = 1 ∧ t.ats.length = 1 ∧ t.of = [])
    (hd : p.t.depth = (vRow lines (vList lines tab tab.length) t).1) (hb : p.bad = orO b0 (vRow lines (vList lines tab tab.length) t).2) : Good lines tab0 lo b0 p (rAdd ⟨n, false, tab⟩ t) := by
  obtain ⟨new, rfl⟩ := hext
  have e : vOf lines ((tab0 ++ new) ++ [t]) (tab0 ++ new).length = vRow lines (vList lines (tab0 ++ new) (tab0 ++ new).length) t := by
    unfold vOf
    rw [vList_app _ _ _ _ (Nat.le_refl _), rowAt_last]
  refine ⟨⟨new ++ [t], by simp [rAdd]⟩, hok.snoc h1 h2, ?_, ?_, ?_, ?_⟩
  · show tab0.length ≤ (tab0 ++ new).length; simp
  · show (tab0 ++ new).length < ((tab0 ++ new) ++ [t]).length; simp
  · show p.t.depth = (vOf lines ((tab0 ++ new) ++ [t]) (tab0 ++ new).length).1; rw [e]; exact hd
  · show p.bad = orO b0 (vOf lines ((tab0 ++ new) ++ [t]) (tab0 ++ new).length).2; rw [e]; exact hb

theorem name6 {s : ByteArray} {n : Nat} (h : lettersTo s n 6 = n + 6) (hs : n + 6 ≤ s.size) : wordIdx (nameAt s n) = none := by
  rcases hk : wordIdx (nameAt s n) with _ | k
  · rfl
  · obtain ⟨h7, e⟩ := wordIdx_some hk
    have hsz : (nameAt s n).size = 6 := by unfold nameAt; rw [h, ByteArray.size_extract]; omega
    rw [← e] at hsz
    have : ∀ i, i < 7 → (wd i).size ≠ 6 := by decide +kernel
    exact absurd hsz (this k h7)

end Go.Proofs.YtapblkmlhoalgaaDoor
