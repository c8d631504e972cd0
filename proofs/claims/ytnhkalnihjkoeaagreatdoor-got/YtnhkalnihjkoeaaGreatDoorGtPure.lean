/- The two readers' pure functions, held against each other: values of rows. The two readers' pure functions, held against each other: names and parts. The two readers' pure functions, held against each other: types. The two readers' pure functions, held against each other: lines. The two readers' pure functions, held against each other: descriptions. The two readers' pure functions, held against each other: names and depths of a line. Both readers tell the same of every text. -/
import Derived.Test.YtnhkalnihjkoeaaGreatDoorGtRRead
namespace Go.Proofs.YtnhkalnihjkoeaaGreatDoor

def vlAt (vs : List (PT × Option Nat)) (y : Nat) : PT × Option Nat := (vs[y]?).getD (PT.dummy, none)
def wLoop (vs : List (PT × Option Nat)) (t : RT) : Nat → Nat → Option Nat
  | 0, _ => none
  | m + 1, k => if dup t.names k = true then some (numAt t.ats k) else
    match (vlAt vs (numAt t.of k)).2 with
    | some a => some a
    | none => wLoop vs t m (k + 1)
def dMax (vs : List (PT × Option Nat)) (l : List Nat) : Nat := l.foldl (fun c y => max c (vlAt vs y).1.depth) 0
def namesR (t : RT) : List ByteArray := if t.names.isEmpty = true then t.of.map (fun _ => ⟨#[]⟩) else t.names
def treeR (vs : List (PT × Option Nat)) (t : RT) : PT := ⟨t.kind, dMax vs t.of + 1, namesR t, t.of.map (fun y => (vlAt vs y).1)⟩
def vRow (lines : List (ByteArray × PT)) (vs : List (PT × Option Nat)) (t : RT) : PT × Option Nat :=
  if t.kind = 11 then
    match lineOf (textAt t.names 0) lines with
    | some q => (q, none)
    | none => (PT.dummy, some (numAt t.ats 0))
  else (treeR vs t, wLoop vs t t.of.length 0)
def vList (lines : List (ByteArray × PT)) (tab : List RT) : Nat → List (PT × Option Nat)
  | 0 => []
  | k + 1 => vList lines tab k ++ [vRow lines (vList lines tab k) (rowAt tab k)]
def vOf (lines : List (ByteArray × PT)) (tab : List RT) (x : Nat) : PT × Option Nat := vRow lines (vList lines tab x) (rowAt tab x)
def orO (a b : Option Nat) : Option Nat := match a with
  | some x => some x
  | none => b

theorem rowAt_app {tab new : List RT} {x : Nat} (h : x < tab.length) : rowAt (tab ++ new) x = rowAt tab x := by
  unfold rowAt; rw [List.getElem?_append_left h]
theorem rowAt_last (tab : List RT) (t : RT) : rowAt (tab ++ [t]) tab.length = t := by
  unfold rowAt; simp
theorem vList_length (lines : List (ByteArray × PT)) (tab : List RT) (k : Nat) : (vList lines tab k).length = k := by
  induction k with
  | zero => rfl
  | succ k ih => simp [vList, ih]
theorem vList_app (lines : List (ByteArray × PT)) (tab new : List RT) : ∀ k, k ≤ tab.length → vList lines (tab ++ new) k = vList lines tab k := by
  intro k
  induction k with
  | zero => intro _; rfl
  | succ k ih => intro h; simp only [vList]; rw [ih (by omega), rowAt_app (by omega)]
theorem vlAt_list (lines : List (ByteArray × PT)) (tab : List RT) (y : Nat) : ∀ k, y < k → vlAt (vList lines tab k) y = vOf lines tab y := by
  intro k
  induction k with
  | zero => intro h; omega
  | succ k ih =>
    intro h
    simp only [vList, vlAt]
    by_cases e : y < k
    · rw [List.getElem?_append_left (by rw [vList_length]; exact e)]
      exact ih e
    · have : y = k := by omega
      subst this
      rw [List.getElem?_append_right (by rw [vList_length]; exact Nat.le_refl _), vList_length, Nat.sub_self]
      rfl
theorem vOf_app (lines : List (ByteArray × PT)) (tab new : List RT) (y : Nat) (h : y < tab.length) : vOf lines (tab ++ new) y = vOf lines tab y := by
  unfold vOf; rw [vList_app _ _ _ _ (by omega), rowAt_app h]

/-- Rows from lo on look among themselves alone. -/
def RowsOK (lo : Nat) (tab : List RT) : Prop := ∀ x, lo ≤ x → x < tab.length →
  ((rowAt tab x).kind ≠ 11 → (∀ y ∈ (rowAt tab x).of, lo ≤ y ∧ y < x) ∧ (((rowAt tab x).names = [] ∧ (rowAt tab x).kind ≤ 8) ∨ ((rowAt tab x).names.length = (rowAt tab x).of.length ∧ (rowAt tab x).ats.length = (rowAt tab x).of.length))) ∧
  ((rowAt tab x).kind = 11 → (rowAt tab x).names.length = 1 ∧ (rowAt tab x).ats.length = 1 ∧ (rowAt tab x).of = [])

theorem RowsOK.snoc {lo : Nat} {tab : List RT} (h : RowsOK lo tab) {t : RT}
    (h1 : t.kind ≠ 11 → (∀ y ∈ t.of, lo ≤ y ∧ y < tab.length) ∧ ((t.names = [] ∧ t.kind ≤ 8) ∨ (t.names.length = t.of.length ∧ t.ats.length = t.of.length))) (h2 : t.kind = 11 → t.names.length = 1 ∧ t.ats.length = 1 ∧ t.of = []) : RowsOK lo (tab ++ [t]) := by
  intro x hlo hx
  by_cases e : x < tab.length
  · rw [rowAt_app e]; exact h x hlo e
  · have : x = tab.length := by simp at hx; omega
    subst this
    rw [rowAt_last]
    exact ⟨h1, h2⟩
theorem RowsOK.nil (tab : List RT) : RowsOK tab.length tab := fun x h1 h2 => by omega

def GoodJ (lines : List (ByteArray × PT)) (tab0 : List RT) (lo : Nat) (b0 : Option Nat) (p : Res) (r : RS × Nat) : Prop :=
  (∃ new, r.1.tab = tab0 ++ new) ∧ RowsOK lo r.1.tab ∧ tab0.length ≤ r.2 ∧ r.2 < r.1.tab.length ∧ p.t = (vOf lines r.1.tab r.2).1 ∧ p.bad = orO b0 (vOf lines r.1.tab r.2).2

def J (s : ByteArray) (lines : List (ByteArray × PT)) (tab0 : List RT) (lo : Nat) (b0 : Option Nat) (p : Res) (r : RS × Nat) : Prop :=
  p.n = r.1.n ∧ p.n ≤ s.size ∧ ((p.ok = true ∧ r.1.bad = false ∧ GoodJ lines tab0 lo b0 p r) ∨ (r.1.bad = true ∧ (p.ok = false ∨ isLetter s p.n = true)))

theorem rTyp_bad (s : ByteArray) (g n : Nat) (tab : List RT) : rTyp s g ⟨n, true, tab⟩ = (⟨n, true, tab⟩, 0) := by
  cases g <;> simp [rTyp]
theorem rMust_bad (s : ByteArray) (c n : Nat) (tab : List RT) : rMust s c ⟨n, true, tab⟩ = ⟨n, true, tab⟩ := by
  simp [rMust, mustN, mustB, rIs]
theorem rMust_yes {s : ByteArray} {c n : Nat} (tab : List RT) (h : byteAt s n = c) : rMust s c ⟨n, false, tab⟩ = ⟨n + 1, false, tab⟩ := by
  simp [rMust, mustN, mustB, rIs, h]
theorem rMust_no {s : ByteArray} {c n : Nat} (tab : List RT) (h : ¬ byteAt s n = c) : rMust s c ⟨n, false, tab⟩ = ⟨n, true, tab⟩ := by
  simp [rMust, mustN, mustB, rIs, h]
theorem letter_ne {s : ByteArray} {n c : Nat} (h : isLetter s n = true) (hc : c < 97 ∨ 122 < c) : ¬ byteAt s n = c := by
  unfold isLetter at h; simp at h; omega

/-- Adding a row to a good table. -/
theorem good_add {lines : List (ByteArray × PT)} {tab0 tab : List RT} {lo : Nat} (_hlo : lo ≤ tab0.length) {b0 : Option Nat} {n : Nat} {p : Res} {t : RT} (hext : ∃ new, tab = tab0 ++ new) (hok : RowsOK lo tab)
    (h1 : t.kind ≠ 11 → (∀ y ∈ t.of, lo ≤ y ∧ y < tab.length) ∧ ((t.names = [] ∧ t.kind ≤ 8) ∨ (t.names.length = t.of.length ∧ t.ats.length = t.of.length))) (h2 : t.kind = 11 → t.names.length = 1 ∧ t.ats.length = 1 ∧ t.of = [])
    (hd : p.t = (vRow lines (vList lines tab tab.length) t).1) (hb : p.bad = orO b0 (vRow lines (vList lines tab tab.length) t).2) : GoodJ lines tab0 lo b0 p (rAdd ⟨n, false, tab⟩ t) := by
  obtain ⟨new, rfl⟩ := hext
  have e : vOf lines ((tab0 ++ new) ++ [t]) (tab0 ++ new).length = vRow lines (vList lines (tab0 ++ new) (tab0 ++ new).length) t := by
    unfold vOf
    rw [vList_app _ _ _ _ (Nat.le_refl _), rowAt_last]
  refine ⟨⟨new ++ [t], by simp [rAdd]⟩, hok.snoc h1 h2, ?_, ?_, ?_, ?_⟩
  · show tab0.length ≤ (tab0 ++ new).length; simp
  · show (tab0 ++ new).length < ((tab0 ++ new) ++ [t]).length; simp
  · show p.t = (vOf lines ((tab0 ++ new) ++ [t]) (tab0 ++ new).length).1; rw [e]; exact hd
  · show p.bad = orO b0 (vOf lines ((tab0 ++ new) ++ [t]) (tab0 ++ new).length).2; rw [e]; exact hb

theorem name6 {s : ByteArray} {n : Nat} (h : lettersTo s n 6 = n + 6) (hs : n + 6 ≤ s.size) : wordIdx (nameAt s n) = none := by
  rcases hk : wordIdx (nameAt s n) with _ | k
  · rfl
  · obtain ⟨h7, e⟩ := wordIdx_some hk
    have hsz : (nameAt s n).size = 6 := by unfold nameAt; rw [h, ByteArray.size_extract]; omega
    rw [← e] at hsz
    have : ∀ i, i < 7 → (wd i).size ≠ 6 := by decide +kernel
    exact absurd hsz (this k h7)

end Go.Proofs.YtnhkalnihjkoeaaGreatDoor

namespace Go.Proofs.YtnhkalnihjkoeaaGreatDoor

theorem dupFrom_iff (l : List ByteArray) (k : Nat) : ∀ m j, dupFrom l k m j = true ↔ ∃ i, j ≤ i ∧ i < j + m ∧ textAt l i = textAt l k := by
  intro m
  induction m with
  | zero => intro j; simp [dupFrom]; intro i h1 h2; omega
  | succ m ih =>
    intro j
    simp only [dupFrom, Bool.or_eq_true, decide_eq_true_eq, ih]
    constructor
    · rintro (h | ⟨i, h1, h2, h3⟩)
      · exact ⟨j, Nat.le_refl _, by omega, h⟩
      · exact ⟨i, by omega, by omega, h3⟩
    · rintro ⟨i, h1, h2, h3⟩
      by_cases e : i = j
      · subst e; exact .inl h3
      · exact .inr ⟨i, by omega, by omega, h3⟩
theorem textAt_app {l : List ByteArray} {nm : ByteArray} {i : Nat} (h : i < l.length) : textAt (l ++ [nm]) i = textAt l i := by unfold textAt; rw [List.getElem?_append_left h]
theorem textAt_last (l : List ByteArray) (nm : ByteArray) : textAt (l ++ [nm]) l.length = nm := by unfold textAt; simp
theorem numAt_app {l : List Nat} {a : Nat} {i : Nat} (h : i < l.length) : numAt (l ++ [a]) i = numAt l i := by unfold numAt; rw [List.getElem?_append_left h]
theorem numAt_last (l : List Nat) (a : Nat) : numAt (l ++ [a]) l.length = a := by unfold numAt; simp
theorem dup_last (l : List ByteArray) (nm : ByteArray) : dup (l ++ [nm]) l.length = l.any (fun x => decide (x = nm)) := by
  rw [Bool.eq_iff_iff]
  unfold dup
  have he : (l ++ [nm]).isEmpty = false := by cases l <;> rfl
  rw [he]
  simp only [Bool.not_false, Bool.true_and, dupFrom_iff, textAt_last, List.any_eq_true, decide_eq_true_eq]
  constructor
  · rintro ⟨i, _, h2, h3⟩
    have hi : i < l.length := by omega
    rw [textAt_app hi] at h3
    exact ⟨textAt l i, by unfold textAt; simp [hi], h3⟩
  · rintro ⟨x, hx, rfl⟩
    obtain ⟨i, hi⟩ := List.getElem?_of_mem hx
    have hil := (List.getElem?_eq_some_iff.1 hi).1
    exact ⟨i, Nat.zero_le _, by omega, by rw [textAt_app hil]; unfold textAt; rw [hi]; rfl⟩
theorem dup_app {l : List ByteArray} {nm : ByteArray} {k : Nat} (h : k < l.length) : dup (l ++ [nm]) k = dup l k := by
  rw [Bool.eq_iff_iff]
  unfold dup
  have he : (l ++ [nm]).isEmpty = false := by cases l <;> rfl
  have he2 : l.isEmpty = false := by cases l with | nil => simp at h | cons _ _ => rfl
  rw [he, he2]
  simp only [Bool.not_false, Bool.true_and, dupFrom_iff]
  constructor
  · rintro ⟨i, h1, h2, h3⟩
    rw [textAt_app (by omega), textAt_app h] at h3
    exact ⟨i, h1, h2, h3⟩
  · rintro ⟨i, h1, h2, h3⟩
    exact ⟨i, h1, h2, by rw [textAt_app (by omega), textAt_app h]; exact h3⟩

theorem wLoop_snoc {vs vs' : List (PT × Option Nat)} {t : RT} {x a : Nat} {nm : ByteArray} (hn : t.names.length = t.of.length) (ha : t.ats.length = t.of.length) (hv : ∀ y ∈ t.of, vlAt vs' y = vlAt vs y) :
    ∀ m k, k + m = t.of.length → wLoop vs' ⟨t.kind, t.of ++ [x], t.names ++ [nm], t.ats ++ [a]⟩ (m + 1) k = orO (wLoop vs t m k) (if t.names.any (fun z => decide (z = nm)) = true then some a else (vlAt vs' x).2) := by
  intro m
  induction m with
  | zero =>
    intro k hk
    have hkl : k = t.of.length := by omega
    subst hkl
    have e1 : dup (t.names ++ [nm]) t.of.length = t.names.any (fun z => decide (z = nm)) := by rw [← hn]; exact dup_last _ _
    have e2 : numAt (t.ats ++ [a]) t.of.length = a := by rw [← ha]; exact numAt_last _ _
    simp only [wLoop, e1, e2, numAt_last, orO]
    split
    · rfl
    · cases (vlAt vs' x).2 <;> rfl
  | succ m ih =>
    intro k hk
    have hkl : k < t.of.length := by omega
    have e1 : dup (t.names ++ [nm]) k = dup t.names k := dup_app (by omega)
    have e2 : numAt (t.ats ++ [a]) k = numAt t.ats k := numAt_app (by omega)
    have e3 : numAt (t.of ++ [x]) k = numAt t.of k := numAt_app hkl
    have e4 : vlAt vs' (numAt t.of k) = vlAt vs (numAt t.of k) := hv _ (by unfold numAt; simp [hkl])
    have hi := ih (k + 1) (by omega)
    rw [wLoop]
    simp only [e1, e2, e3, e4]
    rw [show wLoop vs t (m + 1) k = (if dup t.names k = true then some (numAt t.ats k) else match (vlAt vs (numAt t.of k)).2 with | some a => some a | none => wLoop vs t m (k + 1)) from rfl]
    split
    · rfl
    · cases (vlAt vs (numAt t.of k)).2 with
      | some b => rfl
      | none => exact hi

def TypJ (s : ByteArray) (lines : List (ByteArray × PT)) (f g : Nat) : Prop := ∀ (n : Nat) (bad : Option Nat) (tab : List RT) (lo : Nat), lo ≤ tab.length → RowsOK lo tab → n ≤ s.size → s.size < n + f → s.size < n + g → J s lines tab lo bad (pTyp s lines f n bad) (rTyp s g ⟨n, false, tab⟩)

theorem part_joint {s : ByteArray} {lines : List (ByteArray × PT)} {f g : Nat} (hT : TypJ s lines f g) (n : Nat) (bad : Option Nat) (tab : List RT) (lo : Nat) (others : List ByteArray) (sign : Nat) (hsg : sign < 97) (hlo : lo ≤ tab.length) (hok : RowsOK lo tab) (hn : n ≤ s.size) (hf : s.size < n + 1 + f) (hg : s.size < n + 1 + g) :
    (pPart (pTyp s lines f) s others sign n bad).n = (rTyp s g (rMust s sign ⟨wordN s n false, nameB s n false, tab⟩)).1.n ∧ (pPart (pTyp s lines f) s others sign n bad).n ≤ s.size ∧
    (((pPart (pTyp s lines f) s others sign n bad).ok = true ∧ (rTyp s g (rMust s sign ⟨wordN s n false, nameB s n false, tab⟩)).1.bad = false ∧ wordS s n false = nameAt s n ∧ GoodJ lines tab lo (nameBad s others n bad) (pPart (pTyp s lines f) s others sign n bad) (rTyp s g (rMust s sign ⟨wordN s n false, nameB s n false, tab⟩))) ∨
     ((rTyp s g (rMust s sign ⟨wordN s n false, nameB s n false, tab⟩)).1.bad = true ∧ ((pPart (pTyp s lines f) s others sign n bad).ok = false ∨ isLetter s (pPart (pTyp s lines f) s others sign n bad).n = true))) := by
  have hge := lettersTo_ge s 6 n
  have hle := lettersTo_le s 6 n hn
  have eN : wordN s n false = lettersTo s n 6 := rfl
  rw [eN]
  by_cases htm : tooMany s n = true
  · have hN : nameB s n false = true := by simp [nameB, wordB, htm]
    rw [hN, rMust_bad, rTyp_bad]
    have h6 : lettersTo s n 6 = n + 6 ∧ isLetter s (n + 6) = true := by unfold tooMany at htm; simpa using htm
    have hno : nameOk s n = true := by
      unfold nameOk
      rw [name6 h6.1 (by omega)]
      simp
      omega
    have hp : pPart (pTyp s lines f) s others sign n bad = noRes (lettersTo s n 6) (nameBad s others n bad) := by
      unfold pPart
      rw [if_neg (by rw [hno]; simp), if_neg (by rw [h6.1]; exact letter_ne h6.2 (.inl hsg))]
    rw [hp]
    exact ⟨rfl, hle, .inr ⟨rfl, .inl rfl⟩⟩
  · have htm' : tooMany s n = false := by simpa using htm
    have hws : wordS s n false = nameAt s n := by simp [wordS, htm']
    have hnb : nameB s n false = !(nameOk s n) := by
      unfold nameB wordB nameOk
      rw [hws, htm']
      cases h : wordIdx (nameAt s n) <;> simp
    rcases hno : nameOk s n with _ | _
    · rw [hnb, hno]
      simp only [Bool.not_false]
      rw [rMust_bad, rTyp_bad]
      have hp : pPart (pTyp s lines f) s others sign n bad = noRes (lettersTo s n 6) bad := by unfold pPart; rw [if_pos hno]
      rw [hp]
      exact ⟨rfl, hle, .inr ⟨rfl, .inl rfl⟩⟩
    · rw [hnb, hno]
      simp only [Bool.not_true]
      by_cases hc : byteAt s (lettersTo s n 6) = sign
      · rw [rMust_yes tab hc]
        have hp : pPart (pTyp s lines f) s others sign n bad = pTyp s lines f (lettersTo s n 6 + 1) (nameBad s others n bad) := by
          unfold pPart
          rw [if_neg (by rw [hno]; simp), if_pos hc]
        rw [hp]
        have hm1 : lettersTo s n 6 + 1 ≤ s.size := byteAt_in (by omega)
        obtain ⟨h1, h2, h3⟩ := hT (lettersTo s n 6 + 1) (nameBad s others n bad) tab lo hlo hok hm1 (by omega) (by omega)
        refine ⟨h1, h2, ?_⟩
        rcases h3 with ⟨h4, h5, h6⟩ | h3
        · exact .inl ⟨h4, h5, hws, h6⟩
        · exact .inr h3
      · rw [rMust_no tab hc, rTyp_bad]
        have hp : pPart (pTyp s lines f) s others sign n bad = noRes (lettersTo s n 6) (nameBad s others n bad) := by
          unfold pPart
          rw [if_neg (by rw [hno]; simp), if_neg hc]
        rw [hp]
        exact ⟨rfl, hle, .inr ⟨rfl, .inl rfl⟩⟩

end Go.Proofs.YtnhkalnihjkoeaaGreatDoor

namespace Go.Proofs.YtnhkalnihjkoeaaGreatDoor

theorem dMax_eq {vs : List (PT × Option Nat)} {acc : List (ByteArray × PT)} {l : List Nat} (h : acc.map (·.2) = l.map (fun y => (vlAt vs y).1)) : maxDepth acc = dMax vs l := by
  have e1 : maxDepth acc = (acc.map (·.2)).foldl (fun c t => max c t.depth) 0 := by simp [maxDepth, List.foldl_map]
  rw [e1, h, List.foldl_map]; rfl
theorem tree_eq {vs : List (PT × Option Nat)} {acc : List (ByteArray × PT)} {t : RT} {kind : Nat} (hk : t.kind = kind) (hn : t.names = acc.map (·.1)) (ha : acc ≠ []) (h : acc.map (·.2) = t.of.map (fun y => (vlAt vs y).1)) : compoundT kind acc = treeR vs t := by
  unfold compoundT treeR namesR
  rw [dMax_eq h, hn, h, hk, if_neg (by simpa using ha)]

theorem bad_eq (b0 W V : Option Nat) (n : Nat) (c : Bool) : orO (if c = true then orElse (orO b0 W) n else orO b0 W) V = orO b0 (orO W (if c = true then some n else V)) := by
  cases b0 <;> cases W <;> cases c <;> simp [orO, orElse]

def PartsJ (s : ByteArray) (lines : List (ByteArray × PT)) (f g kind btw close : Nat) (tab0 : List RT) (lo : Nat) (b0 : Option Nat) (k : Nat) : Prop :=
  ∀ (acc : List (ByteArray × PT)) (n : Nat) (bad : Option Nat) (t : RT) (tab : List RT), k + acc.length = 6 → acc.length ≠ 6 → n + 1 ≤ s.size → s.size < n + 2 + f → s.size < n + 2 + g →
      t.kind = kind → t.names = acc.map (·.1) → t.of.length = acc.length → t.ats.length = acc.length → (∃ new, tab = tab0 ++ new) → RowsOK lo tab → (∀ y ∈ t.of, lo ≤ y ∧ y < tab.length) → acc.map (·.2) = t.of.map (fun y => (vlAt (vList lines tab tab.length) y).1) → bad = orO b0 (wLoop (vList lines tab tab.length) t t.of.length 0) →
      J s lines tab0 lo b0 (pParts (pTyp s lines f) s kind btw close k acc (n + 1) bad) (rAdd (rMust s close (rLoop (rTyp s g) s btw k t ⟨n, false, tab⟩).2) (rLoop (rTyp s g) s btw k t ⟨n, false, tab⟩).1)

theorem parts_step {s : ByteArray} {lines : List (ByteArray × PT)} {f g : Nat} (hT : TypJ s lines f g) (kind btw close : Nat) (hkd : kind ≠ 11) (hbt : btw < 97 ∨ 122 < btw) (hcl : close < 97 ∨ 122 < close) (hb256 : btw < 256) (hc256 : close < 256) (hbc : btw ≠ close) (tab0 : List RT) (lo : Nat) (hlo : lo ≤ tab0.length) (b0 : Option Nat) (k : Nat) (hrec : PartsJ s lines f g kind btw close tab0 lo b0 k) : PartsJ s lines f g kind btw close tab0 lo b0 (k + 1) := by
  intro acc n bad t tab h6 hne6 hn hf hg hk hnm hol hal hext hok hof hmd hbd
  have hP := part_joint hT (n + 1) bad tab lo (acc.map (·.1)) 58 (by omega) (by obtain ⟨new, rfl⟩ := hext; simp; omega) hok hn (by omega) (by omega)
  have eP : pParts (pTyp s lines f) s kind btw close (k + 1) acc (n + 1) bad = if (pPart (pTyp s lines f) s (acc.map (·.1)) 58 (n + 1) bad).ok = false then noRes (pPart (pTyp s lines f) s (acc.map (·.1)) 58 (n + 1) bad).n (pPart (pTyp s lines f) s (acc.map (·.1)) 58 (n + 1) bad).bad else
      if byteAt s (pPart (pTyp s lines f) s (acc.map (·.1)) 58 (n + 1) bad).n = close then ⟨true, compoundT kind (acc ++ [(nameAt s (n + 1), (pPart (pTyp s lines f) s (acc.map (·.1)) 58 (n + 1) bad).t)]), (pPart (pTyp s lines f) s (acc.map (·.1)) 58 (n + 1) bad).n + 1, (pPart (pTyp s lines f) s (acc.map (·.1)) 58 (n + 1) bad).bad⟩ else
      if acc.length + 1 = 6 ∨ byteAt s (pPart (pTyp s lines f) s (acc.map (·.1)) 58 (n + 1) bad).n ≠ btw then noRes (pPart (pTyp s lines f) s (acc.map (·.1)) 58 (n + 1) bad).n (pPart (pTyp s lines f) s (acc.map (·.1)) 58 (n + 1) bad).bad else
      pParts (pTyp s lines f) s kind btw close k (acc ++ [(nameAt s (n + 1), (pPart (pTyp s lines f) s (acc.map (·.1)) 58 (n + 1) bad).t)]) ((pPart (pTyp s lines f) s (acc.map (·.1)) 58 (n + 1) bad).n + 1) (pPart (pTyp s lines f) s (acc.map (·.1)) 58 (n + 1) bad).bad := rfl
  have eR : rLoop (rTyp s g) s btw (k + 1) t ⟨n, false, tab⟩ = if rIs s (rTyp s g (rMust s 58 ⟨wordN s (n + 1) false, nameB s (n + 1) false, tab⟩)).1.n (rTyp s g (rMust s 58 ⟨wordN s (n + 1) false, nameB s (n + 1) false, tab⟩)).1.bad btw = true ∧ t.of.length + 1 ≠ 6 then
      rLoop (rTyp s g) s btw k ⟨t.kind, t.of ++ [(rTyp s g (rMust s 58 ⟨wordN s (n + 1) false, nameB s (n + 1) false, tab⟩)).2], t.names ++ [wordS s (n + 1) false], t.ats ++ [n + 1]⟩ (rTyp s g (rMust s 58 ⟨wordN s (n + 1) false, nameB s (n + 1) false, tab⟩)).1
      else (⟨t.kind, t.of ++ [(rTyp s g (rMust s 58 ⟨wordN s (n + 1) false, nameB s (n + 1) false, tab⟩)).2], t.names ++ [wordS s (n + 1) false], t.ats ++ [n + 1]⟩, (rTyp s g (rMust s 58 ⟨wordN s (n + 1) false, nameB s (n + 1) false, tab⟩)).1) := rfl
  rw [eP, eR]
  have hpge : n + 1 ≤ (pPart (pTyp s lines f) s (acc.map (·.1)) 58 (n + 1) bad).n := pPart_ge2 _ (pTyp_ge s lines f) s _ 58 (n + 1) bad
  clear eP eR
  generalize pPart (pTyp s lines f) s (acc.map (·.1)) 58 (n + 1) bad = p at *
  generalize rTyp s g (rMust s 58 ⟨wordN s (n + 1) false, nameB s (n + 1) false, tab⟩) = r at *
  obtain ⟨r1, x⟩ := r
  obtain ⟨rn, rb, rtab⟩ := r1
  obtain ⟨pok, pt, pn, pb⟩ := p
  simp only at hP hpge ⊢
  obtain ⟨hpn, hps, hcase⟩ := hP
  subst hpn
  rcases hcase with ⟨hok1, hbad1, hws, hgood⟩ | ⟨hbad1, hor⟩
  · subst hok1 hbad1
    obtain ⟨⟨new1, htab1⟩, hrows, hx1, hx2, hdep, hpb⟩ := hgood
    simp only at htab1 hrows hx1 hx2 hdep hpb
    subst htab1
    rw [hws]
    obtain ⟨new, rfl⟩ := hext
    have hvv : ∀ y, y < (tab0 ++ new).length → vlAt (vList lines ((tab0 ++ new) ++ new1) ((tab0 ++ new) ++ new1).length) y = vlAt (vList lines (tab0 ++ new) (tab0 ++ new).length) y := fun y hy => by
      rw [vlAt_list lines _ y _ (by rw [List.length_append]; omega), vlAt_list lines _ y _ hy, vOf_app lines _ _ y hy]
    have hvx : vlAt (vList lines ((tab0 ++ new) ++ new1) ((tab0 ++ new) ++ new1).length) x = vOf lines ((tab0 ++ new) ++ new1) x := vlAt_list lines _ x _ hx2
    have hmd' : (acc ++ [(nameAt s (n + 1), pt)]).map (·.2) = (t.of ++ [x]).map (fun y => (vlAt (vList lines ((tab0 ++ new) ++ new1) ((tab0 ++ new) ++ new1).length) y).1) := by
      rw [List.map_append, List.map_append, hmd]
      congr 1
      · exact List.map_congr_left fun y hy => by rw [hvv y (hof y hy).2]
      · simp only [List.map_cons, List.map_nil]; rw [hvx, ← hdep]
    have hbd' : pb = orO b0 (wLoop (vList lines ((tab0 ++ new) ++ new1) ((tab0 ++ new) ++ new1).length) ⟨t.kind, t.of ++ [x], t.names ++ [nameAt s (n + 1)], t.ats ++ [n + 1]⟩ (t.of ++ [x]).length 0) := by
      rw [show (t.of ++ [x]).length = t.of.length + 1 by simp]
      rw [wLoop_snoc (by rw [hnm, List.length_map]; omega) (by omega) (fun y hy => hvv y (hof y hy).2) t.of.length 0 (by omega)]
      rw [hpb, hvx, ← bad_eq, hbd, hnm]
      rfl
    have hof' : ∀ y ∈ t.of ++ [x], lo ≤ y ∧ y < ((tab0 ++ new) ++ new1).length := fun y hy => by
      rcases List.mem_append.1 hy with h | h
      · have := hof y h; rw [List.length_append]; omega
      · simp at h; subst h
        have : lo ≤ (tab0 ++ new).length := by rw [List.length_append]; omega
        omega
    have hext' : ∃ z, (tab0 ++ new) ++ new1 = tab0 ++ z := ⟨new ++ new1, by simp⟩
    by_cases hc : byteAt s pn = close
    · rw [if_neg (by simp), if_pos hc, if_neg (by rw [rIs_false (by omega)]; simp)]
      simp only
      rw [rMust_yes _ hc]
      have hp1 : pn + 1 ≤ s.size := byteAt_in (by omega)
      refine ⟨rfl, hp1, .inl ⟨rfl, rfl, ?_⟩⟩
      refine good_add hlo hext' hrows (fun _ => ⟨hof', .inr ⟨?_, ?_⟩⟩) (fun h => absurd (hk.symm.trans h) hkd) ?_ ?_
      · simp only [List.length_append, List.length_cons, List.length_nil]; rw [hnm, List.length_map]; omega
      · simp only [List.length_append, List.length_cons, List.length_nil]; omega
      · unfold vRow
        rw [if_neg (by show ¬ t.kind = 11; rw [hk]; exact hkd)]
        exact tree_eq hk (by simp [hnm]) (by simp) hmd'
      · show pb = _
        unfold vRow
        rw [if_neg (by show ¬ t.kind = 11; rw [hk]; exact hkd)]
        exact hbd'
    · rw [if_neg (by simp), if_neg hc]
      by_cases h6' : acc.length + 1 = 6 ∨ byteAt s pn ≠ btw
      · rw [if_pos h6', if_neg (by
          rintro ⟨h1, h2⟩
          rcases h6' with h | h
          · omega
          · rw [rIs_false h] at h1; cases h1)]
        simp only
        rw [rMust_no _ hc]
        exact ⟨rfl, hps, .inr ⟨rfl, .inl rfl⟩⟩
      · have hb : byteAt s pn = btw := by
          rcases Nat.decEq (byteAt s pn) btw with h | h
          · exact absurd (.inr h) h6'
          · exact h
        have hl6 : acc.length + 1 ≠ 6 := fun h => h6' (.inl h)
        rw [if_neg h6', if_pos ⟨rIs_true hb, by omega⟩]
        have hp1 : pn + 1 ≤ s.size := byteAt_in (by omega)
        exact hrec (acc ++ [(nameAt s (n + 1), pt)]) pn pb ⟨t.kind, t.of ++ [x], t.names ++ [nameAt s (n + 1)], t.ats ++ [n + 1]⟩ ((tab0 ++ new) ++ new1) (by simp only [List.length_append, List.length_cons, List.length_nil]; omega) (by simp only [List.length_append, List.length_cons, List.length_nil]; omega) hp1 (by omega) (by omega)
          hk (by simp [hnm]) (by simp only [List.length_append, List.length_cons, List.length_nil]; omega) (by simp only [List.length_append, List.length_cons, List.length_nil]; omega) hext' hrows hof' hmd' hbd'
  · subst hbad1
    rw [if_neg (c := rIs s pn true btw = true ∧ t.of.length + 1 ≠ 6) (by simp [rIs])]
    simp only
    rw [rMust_bad]
    rcases hor with h | h
    · subst h
      rw [if_pos rfl]
      exact ⟨rfl, hps, .inr ⟨rfl, .inl rfl⟩⟩
    · by_cases hpk : pok = false
      · rw [if_pos hpk]
        exact ⟨rfl, hps, .inr ⟨rfl, .inl rfl⟩⟩
      · rw [if_neg hpk, if_neg (letter_ne h hcl), if_pos (.inr (letter_ne h hbt))]
        exact ⟨rfl, hps, .inr ⟨rfl, .inl rfl⟩⟩

theorem parts_joint {s : ByteArray} {lines : List (ByteArray × PT)} {f g : Nat} (hT : TypJ s lines f g) (kind btw close : Nat) (hkd : kind ≠ 11) (hbt : btw < 97 ∨ 122 < btw) (hcl : close < 97 ∨ 122 < close) (hb256 : btw < 256) (hc256 : close < 256) (hbc : btw ≠ close) (tab0 : List RT) (lo : Nat) (hlo : lo ≤ tab0.length) (b0 : Option Nat) : ∀ k, PartsJ s lines f g kind btw close tab0 lo b0 k := by
  intro k
  induction k with
  | zero => intro acc n bad t tab h6 hne6; omega
  | succ k ih => exact parts_step hT kind btw close hkd hbt hcl hb256 hc256 hbc tab0 lo hlo b0 k ih

theorem named_joint {s : ByteArray} {lines : List (ByteArray × PT)} (n : Nat) (bad : Option Nat) (tab : List RT) (lo : Nat) (hlo : lo ≤ tab.length) (hok : RowsOK lo tab) (hn : n ≤ s.size) :
    J s lines tab lo bad (pNamed s lines n bad) (match wordIdx (wordS s n false) with
      | some k => rAdd ⟨wordN s n false, wordB s n false, tab⟩ ⟨k, [], [], []⟩
      | none => rAdd ⟨wordN s n false, wordB s n false, tab⟩ ⟨11, [], [wordS s n false], [n]⟩) := by
  have hge := lettersTo_ge s 6 n
  have hle := lettersTo_le s 6 n hn
  have eN : wordN s n false = lettersTo s n 6 := rfl
  rw [eN]
  by_cases htm : tooMany s n = true
  · have hB : wordB s n false = true := by simp [wordB, htm]
    have h6 : lettersTo s n 6 = n + 6 ∧ isLetter s (n + 6) = true := by unfold tooMany at htm; simpa using htm
    have hpn : (pNamed s lines n bad).n = lettersTo s n 6 := by
      unfold pNamed
      rw [if_neg (by omega)]
      split
      · rfl
      · split <;> rfl
    rw [hB]
    have hL : isLetter s (lettersTo s n 6) = true := by rw [h6.1]; exact h6.2
    split
    · exact ⟨hpn, by rw [hpn]; exact hle, .inr ⟨rfl, .inr (by rw [hpn]; exact hL)⟩⟩
    · exact ⟨hpn, by rw [hpn]; exact hle, .inr ⟨rfl, .inr (by rw [hpn]; exact hL)⟩⟩
  · have htm' : tooMany s n = false := by simpa using htm
    have hws : wordS s n false = nameAt s n := by simp [wordS, htm']
    rw [hws]
    by_cases hm : lettersTo s n 6 = n
    · have hB : wordB s n false = true := by simp [wordB, hm]
      have hp : pNamed s lines n bad = noRes n bad := by unfold pNamed; rw [if_pos hm]
      rw [hB, hp, hm]
      split
      · exact ⟨rfl, hn, .inr ⟨rfl, .inl rfl⟩⟩
      · exact ⟨rfl, hn, .inr ⟨rfl, .inl rfl⟩⟩
    · have hB : wordB s n false = false := by simp [wordB, htm', hm]
      rw [hB]
      rcases hk : wordIdx (nameAt s n) with _ | k
      · rcases hl : lineOf (nameAt s n) lines with _ | q
        · have hp : pNamed s lines n bad = ⟨true, PT.dummy, lettersTo s n 6, orElse bad n⟩ := by unfold pNamed; rw [if_neg hm, hk, hl]
          rw [hp]
          refine ⟨rfl, hle, .inl ⟨rfl, rfl, good_add hlo ⟨[], by simp⟩ hok (fun h => absurd rfl h) (fun _ => ⟨rfl, rfl, rfl⟩) ?_ ?_⟩⟩
          · simp [vRow, textAt, hl]
          · simp [vRow, textAt, hl, numAt]
            cases bad <;> rfl
        · have hp : pNamed s lines n bad = ⟨true, q, lettersTo s n 6, bad⟩ := by unfold pNamed; rw [if_neg hm, hk, hl]
          rw [hp]
          refine ⟨rfl, hle, .inl ⟨rfl, rfl, good_add hlo ⟨[], by simp⟩ hok (fun h => absurd rfl h) (fun _ => ⟨rfl, rfl, rfl⟩) ?_ ?_⟩⟩
          · simp [vRow, textAt, hl]
          · simp [vRow, textAt, hl]
            cases bad <;> rfl
      · have h7 := (wordIdx_some hk).1
        have hp : pNamed s lines n bad = ⟨true, PT.word k, lettersTo s n 6, bad⟩ := by unfold pNamed; rw [if_neg hm, hk]
        rw [hp]
        have hk11 : ¬ k = 11 := by omega
        refine ⟨rfl, hle, .inl ⟨rfl, rfl, good_add hlo ⟨[], by simp⟩ hok (fun _ => ⟨fun y hy => by simp at hy, .inl ⟨rfl, show k ≤ 8 by omega⟩⟩) (fun h => absurd h hk11) ?_ ?_⟩⟩
        · simp [vRow, hk11, treeR, namesR, dMax, PT.word]
        · simp [vRow, hk11, wLoop]
          cases bad <;> rfl

theorem one_joint {lines : List (ByteArray × PT)} {tab : List RT} {x kd : Nat} {b0 pb : Option Nat} (hkd : ¬ kd = 11) (hx : x < tab.length) (hb : pb = orO b0 (vOf lines tab x).2) : pb = orO b0 (vRow lines (vList lines tab tab.length) ⟨kd, [x], [], []⟩).2 := by
  rw [hb]
  have e : (vRow lines (vList lines tab tab.length) ⟨kd, [x], [], []⟩).2 = (vOf lines tab x).2 := by
    unfold vRow
    rw [if_neg hkd]
    show wLoop _ ⟨kd, [x], [], []⟩ 1 0 = _
    simp only [wLoop, dup, numAt]
    simp
    rw [vlAt_list lines tab x _ hx]
    cases (vOf lines tab x).2 <;> rfl
  rw [e]
theorem one_depth {lines : List (ByteArray × PT)} {tab : List RT} {x kd : Nat} {t : PT} (hkd : ¬ kd = 11) (hx : x < tab.length) (hd : t = (vOf lines tab x).1) : compoundT kd [(⟨#[]⟩, t)] = (vRow lines (vList lines tab tab.length) ⟨kd, [x], [], []⟩).1 := by
  unfold vRow
  rw [if_neg hkd]
  have e : (vlAt (vList lines tab tab.length) x).1 = t := by rw [vlAt_list lines tab x _ hx, hd]
  simp [compoundT, treeR, namesR, maxDepth, dMax, e]

theorem typ_joint (s : ByteArray) (lines : List (ByteArray × PT)) : ∀ f g, TypJ s lines f g := by
  intro f
  induction f with
  | zero => intro g n bad tab lo hlo hok hn hf hg; omega
  | succ f ih =>
    intro g n bad tab lo hlo hok hn hf hg
    cases g with
    | zero => omega
    | succ g =>
      have ihg := ih g
      simp only [pTyp, rTyp, Bool.false_eq_true, ↓reduceIte]
      by_cases c1 : byteAt s n = 91
      · rw [if_pos c1, if_pos c1]
        have hn1 : n + 1 ≤ s.size := byteAt_in (by omega)
        have hJ := ihg (n + 1) bad tab lo hlo hok hn1 (by omega) (by omega)
        generalize pTyp s lines f (n + 1) bad = p at *
        generalize rTyp s g ⟨n + 1, false, tab⟩ = r at *
        obtain ⟨⟨rn, rb, rtab⟩, x⟩ := r
        obtain ⟨pok, pt, pn, pb⟩ := p
        obtain ⟨hpn, hps, hc⟩ := hJ
        simp only at hpn hps hc ⊢
        subst hpn
        rcases hc with ⟨rfl, rfl, ⟨⟨new, rfl⟩, hrows, hx1, hx2, hd, hb⟩⟩ | ⟨rfl, hor⟩
        · simp only at hrows hx1 hx2 hd hb
          rw [if_neg (by simp)]
          by_cases h93 : byteAt s pn = 93
          · rw [if_pos h93, rMust_yes _ h93]
            have hp1 : pn + 1 ≤ s.size := byteAt_in (by omega)
            exact ⟨rfl, hp1, .inl ⟨rfl, rfl, good_add hlo ⟨new, rfl⟩ hrows (fun _ => ⟨fun y hy => by simp at hy; subst hy; exact ⟨by omega, hx2⟩, .inl ⟨rfl, by simp⟩⟩) (fun h => by cases h) (one_depth (by omega) hx2 hd) (one_joint (by omega) hx2 hb)⟩⟩
          · rw [if_neg h93, rMust_no _ h93]
            exact ⟨rfl, hps, .inr ⟨rfl, .inl rfl⟩⟩
        · rw [rMust_bad]
          by_cases hpk : pok = false
          · rw [if_pos hpk]
            exact ⟨rfl, hps, .inr ⟨rfl, .inl rfl⟩⟩
          · rcases hor with h | h
            · exact absurd h hpk
            · rw [if_neg hpk, if_neg (letter_ne h (by omega))]
              exact ⟨rfl, hps, .inr ⟨rfl, .inl rfl⟩⟩
      · rw [if_neg c1, if_neg c1]
        by_cases c2 : byteAt s n = 63
        · rw [if_pos c2, if_pos c2]
          have hn1 : n + 1 ≤ s.size := byteAt_in (by omega)
          have hJ := ihg (n + 1) bad tab lo hlo hok hn1 (by omega) (by omega)
          generalize pTyp s lines f (n + 1) bad = p at *
          generalize rTyp s g ⟨n + 1, false, tab⟩ = r at *
          obtain ⟨⟨rn, rb, rtab⟩, x⟩ := r
          obtain ⟨pok, pt, pn, pb⟩ := p
          obtain ⟨hpn, hps, hc⟩ := hJ
          simp only at hpn hps hc ⊢
          subst hpn
          rcases hc with ⟨rfl, rfl, ⟨⟨new, rfl⟩, hrows, hx1, hx2, hd, hb⟩⟩ | ⟨rfl, hor⟩
          · simp only at hrows hx1 hx2 hd hb
            rw [if_neg (by simp)]
            exact ⟨rfl, hps, .inl ⟨rfl, rfl, good_add hlo ⟨new, rfl⟩ hrows (fun _ => ⟨fun y hy => by simp at hy; subst hy; exact ⟨by omega, hx2⟩, .inl ⟨rfl, by simp⟩⟩) (fun h => by cases h) (one_depth (by omega) hx2 hd) (one_joint (by omega) hx2 hb)⟩⟩
          · by_cases hpk : pok = false
            · rw [if_pos hpk]
              exact ⟨rfl, hps, .inr ⟨rfl, .inl rfl⟩⟩
            · rcases hor with h | h
              · exact absurd h hpk
              · rw [if_neg hpk]
                exact ⟨rfl, hps, .inr ⟨rfl, .inr h⟩⟩
        · rw [if_neg c2, if_neg c2]
          by_cases c3 : byteAt s n = 123
          · rw [if_pos c3, if_pos c3]
            have hn1 : n + 1 ≤ s.size := byteAt_in (by omega)
            exact parts_joint ihg 9 44 125 (by omega) (by omega) (by omega) (by omega) (by omega) (by omega) tab lo hlo bad 6 [] n bad ⟨9, [], [], []⟩ tab rfl (by simp) hn1 (by omega) (by omega) rfl rfl rfl rfl ⟨[], by simp⟩ hok (fun y hy => by simp at hy) rfl (by cases bad <;> rfl)
          · rw [if_neg c3, if_neg c3]
            by_cases c4 : byteAt s n = 60
            · rw [if_pos c4, if_pos c4]
              have hn1 : n + 1 ≤ s.size := byteAt_in (by omega)
              exact parts_joint ihg 10 124 62 (by omega) (by omega) (by omega) (by omega) (by omega) (by omega) tab lo hlo bad 6 [] n bad ⟨10, [], [], []⟩ tab rfl (by simp) hn1 (by omega) (by omega) rfl rfl rfl rfl ⟨[], by simp⟩ hok (fun y hy => by simp at hy) rfl (by cases bad <;> rfl)
            · rw [if_neg c4, if_neg c4]
              exact named_joint n bad tab lo hlo hok hn

end Go.Proofs.YtnhkalnihjkoeaaGreatDoor

namespace Go.Proofs.YtnhkalnihjkoeaaGreatDoor

/-- What is wrong with the names of the i-th line. -/
def cAt (tab : List RT) (lines : List (ByteArray × PT)) (roots ats : List Nat) (i : Nat) : Option Nat :=
  orO (if ((lines.take i).map (·.1)).any (fun z => decide (z = textAt (lines.map (·.1)) i)) = true then some (numAt ats i) else none) (vOf (lines.take i) tab (numAt roots i)).2
def eAt (tab : List RT) (lines : List (ByteArray × PT)) (roots ats : List Nat) (i : Nat) : Option Nat :=
  if 12 < (vOf (lines.take i) tab (numAt roots i)).1.depth then some (numAt ats i) else none
def firstOf (c : Nat → Option Nat) : Nat → Option Nat
  | 0 => none
  | k + 1 => orO (firstOf c k) (c k)

theorem firstOf_congr {c c' : Nat → Option Nat} : ∀ k, (∀ i, i < k → c i = c' i) → firstOf c k = firstOf c' k := by
  intro k
  induction k with
  | zero => intro _; rfl
  | succ k ih => intro h; simp only [firstOf]; rw [ih (fun i hi => h i (by omega)), h k (by omega)]

/-- The i-th line's rows. -/
def Seg (tab : List RT) (lines : List (ByteArray × PT)) (roots : List Nat) (i : Nat) : Prop :=
  ∃ lo, lo ≤ numAt roots i ∧ numAt roots i < tab.length ∧ RowsOK lo (tab.take (numAt roots i + 1)) ∧ (∀ j, j < i → numAt roots j < lo) ∧ (∃ q, lines[i]? = some q ∧ q.2 = (vOf (lines.take i) tab (numAt roots i)).1)

structure Inv (d : RD) (lines : List (ByteArray × PT)) (bad deep : Option Nat) : Prop where
  nms : d.lines = lines.map (·.1)
  la : d.ats.length = lines.length
  lr : d.roots.length = lines.length
  seg : ∀ i, i < lines.length → Seg d.tab lines d.roots i
  bad : bad = firstOf (cAt d.tab lines d.roots d.ats) lines.length
  deep : deep = firstOf (eAt d.tab lines d.roots d.ats) lines.length
  wf : W1 d.tab
  em : ∀ x, (rowAt d.tab x).kind = 11 → (rowAt d.tab x).of = []

theorem take_app {lines : List (ByteArray × PT)} {q : ByteArray × PT} {i : Nat} (h : i ≤ lines.length) : (lines ++ [q]).take i = lines.take i := by
  rw [List.take_append_of_le_length h]

theorem RowsOK.take {lo : Nat} {tab : List RT} (h : RowsOK lo tab) (m : Nat) : RowsOK lo (tab.take m) := by
  intro x hlo hx
  rw [List.length_take] at hx
  have e : rowAt (tab.take m) x = rowAt tab x := by unfold rowAt; rw [List.getElem?_take_of_lt (by omega)]
  rw [e]
  exact h x hlo (by omega)

theorem W1_of {tab : List RT} {lo : Nat} {new : List RT} (h : W1 tab) (hlo : lo = tab.length) (hr : RowsOK lo (tab ++ new)) : W1 (tab ++ new) := by
  intro x t hx
  by_cases e : x < tab.length
  · rw [List.getElem?_append_left e] at hx
    exact h x t hx
  · have hl := (List.getElem?_eq_some_iff.1 hx).1
    have ht : rowAt (tab ++ new) x = t := by unfold rowAt; rw [hx]; rfl
    have := hr x (by omega) hl
    rw [ht] at this
    exact ⟨fun hk => ⟨fun y hy => ((this.1 hk).1 y hy).2, (this.1 hk).2⟩, fun hk => ⟨(this.2 hk).1, (this.2 hk).2.1⟩⟩

theorem line_inv {s : ByteArray} {d : RD} {lines : List (ByteArray × PT)} {bad deep : Option Nat} (h : Inv d lines bad deep) (hroots : ∀ j, j < lines.length → numAt d.roots j < d.tab.length) {p : Res} {x : Nat} {rn : Nat} {new : List RT}
    (hg : GoodJ lines d.tab d.tab.length (nameBad s (lines.map (·.1)) d.n bad) p (⟨rn, false, d.tab ++ new⟩, x)) :
    Inv ⟨rn, false, d.tab ++ new, d.lines ++ [nameAt s d.n], d.ats ++ [d.n], d.roots ++ [x]⟩ (lines ++ [(nameAt s d.n, p.t)]) p.bad (lineDeep p d.n deep) := by
  obtain ⟨_, hrows, hx1, hx2, hdep, hpb⟩ := hg
  simp only at hrows hx1 hx2 hdep hpb
  have hnl : (lines.map (·.1)).length = lines.length := by simp
  have hro : ∀ i, i < lines.length → numAt (d.roots ++ [x]) i = numAt d.roots i := fun i hi => numAt_app (by rw [h.lr]; exact hi)
  have hao : ∀ i, i < lines.length → numAt (d.ats ++ [d.n]) i = numAt d.ats i := fun i hi => numAt_app (by rw [h.la]; exact hi)
  have hrl : numAt (d.roots ++ [x]) lines.length = x := by rw [← h.lr]; exact numAt_last _ _
  have hal : numAt (d.ats ++ [d.n]) lines.length = d.n := by rw [← h.la]; exact numAt_last _ _
  have hmap : (lines ++ [(nameAt s d.n, p.t)]).map (·.1) = lines.map (·.1) ++ [nameAt s d.n] := by simp
  have hvo : ∀ i, i < lines.length → vOf ((lines ++ [(nameAt s d.n, p.t)]).take i) (d.tab ++ new) (numAt (d.roots ++ [x]) i) = vOf (lines.take i) d.tab (numAt d.roots i) := fun i hi => by
    rw [take_app (by omega), hro i hi, vOf_app _ _ _ _ (hroots i hi)]
  have hvl : vOf ((lines ++ [(nameAt s d.n, p.t)]).take lines.length) (d.tab ++ new) (numAt (d.roots ++ [x]) lines.length) = vOf lines (d.tab ++ new) x := by
    rw [take_app (Nat.le_refl _), hrl, List.take_length]
  have hc : ∀ i, i < lines.length → cAt (d.tab ++ new) (lines ++ [(nameAt s d.n, p.t)]) (d.roots ++ [x]) (d.ats ++ [d.n]) i = cAt d.tab lines d.roots d.ats i := fun i hi => by
    unfold cAt
    rw [hvo i hi, hao i hi, take_app (by omega), hmap, textAt_app (by rw [hnl]; exact hi)]
  have he : ∀ i, i < lines.length → eAt (d.tab ++ new) (lines ++ [(nameAt s d.n, p.t)]) (d.roots ++ [x]) (d.ats ++ [d.n]) i = eAt d.tab lines d.roots d.ats i := fun i hi => by
    unfold eAt
    rw [hvo i hi, hao i hi]
  refine ⟨?_, ?_, ?_, ?_, ?_, ?_, W1_of h.wf rfl hrows, fun y hy => ?_⟩
  · show d.lines ++ [nameAt s d.n] = _; rw [hmap, h.nms]
  · show (d.ats ++ [d.n]).length = _; simp [h.la]
  · show (d.roots ++ [x]).length = _; simp [h.lr]
  · intro i hi
    rw [List.length_append, List.length_cons, List.length_nil] at hi
    show Seg (d.tab ++ new) (lines ++ [(nameAt s d.n, p.t)]) (d.roots ++ [x]) i
    by_cases hil : i < lines.length
    · obtain ⟨lo, h1, h2, h3, h4, q, h5, h6⟩ := h.seg i hil
      refine ⟨lo, by rw [hro i hil]; exact h1, by rw [hro i hil, List.length_append]; omega, ?_, fun j hj => by rw [hro j (by omega)]; exact h4 j hj, q, by rw [List.getElem?_append_left hil]; exact h5, by rw [hvo i hil]; exact h6⟩
      rw [hro i hil, List.take_append_of_le_length (by omega)]
      exact h3
    · have : i = lines.length := by omega
      subst this
      refine ⟨d.tab.length, by rw [hrl]; exact hx1, by rw [hrl]; exact hx2, by rw [hrl]; exact hrows.take _, fun j hj => by rw [hro j hj]; exact hroots j hj, (nameAt s d.n, p.t), by simp, by rw [hvl]; exact hdep⟩
  · show p.bad = firstOf _ (lines ++ [(nameAt s d.n, p.t)]).length
    rw [List.length_append, List.length_cons, List.length_nil]
    simp only [firstOf]
    rw [firstOf_congr lines.length hc, ← h.bad]
    unfold cAt
    rw [hvl, hal, take_app (Nat.le_refl _), hmap, ← hnl, textAt_last, hnl, List.take_length, hpb]
    unfold nameBad
    cases bad <;> cases (vOf lines (d.tab ++ new) x).2 <;> cases ((lines.map (·.1)).any fun z => decide (z = nameAt s d.n)) <;> rfl
  · show lineDeep p d.n deep = firstOf _ (lines ++ [(nameAt s d.n, p.t)]).length
    rw [List.length_append, List.length_cons, List.length_nil]
    simp only [firstOf]
    rw [firstOf_congr lines.length he, ← h.deep]
    unfold eAt lineDeep
    rw [hvl, hal, hdep]
    by_cases h12 : 12 < (vOf lines (d.tab ++ new) x).1.depth
    · rw [if_pos h12, if_pos h12]; cases deep <;> rfl
    · rw [if_neg h12, if_neg h12]; cases deep <;> rfl
  · show (rowAt (d.tab ++ new) y).of = []
    by_cases hl : y < d.tab.length
    · rw [rowAt_app hl]
      exact h.em y (by rw [← rowAt_app (new := new) hl]; exact hy)
    · by_cases hl2 : y < (d.tab ++ new).length
      · exact ((hrows y (by omega) hl2).2 hy).2.2
      · unfold rowAt
        rw [List.getElem?_eq_none (by omega)]
        rfl

end Go.Proofs.YtnhkalnihjkoeaaGreatDoor

namespace Go.Proofs.YtnhkalnihjkoeaaGreatDoor

theorem Inv.root {d : RD} {lines : List (ByteArray × PT)} {bad deep : Option Nat} (h : Inv d lines bad deep) : ∀ j, j < lines.length → numAt d.roots j < d.tab.length := fun j hj => by
  obtain ⟨lo, _, h2, _⟩ := h.seg j hj
  exact h2

theorem letter_end (s : ByteArray) (h : isLetter s s.size = true) : False := by
  unfold isLetter byteAt at h
  simp at h

theorem feed_yes {s : ByteArray} {d : RD} (hb : d.bad = false) (h : byteAt s d.n = 10) : rFeed s d = ⟨d.n + 1, false, d.tab, d.lines, d.ats, d.roots⟩ := by
  simp [rFeed, mustN, mustB, rIs, h, hb]
theorem feed_no {s : ByteArray} {d : RD} (hb : d.bad = false) (h : ¬ byteAt s d.n = 10) : rFeed s d = ⟨d.n, true, d.tab, d.lines, d.ats, d.roots⟩ := by
  simp [rFeed, mustN, mustB, rIs, h, hb]

theorem desc_joint (s : ByteArray) : ∀ (k : Nat) (d : RD) (lines : List (ByteArray × PT)) (bad deep : Option Nat), k + lines.length = 10 → 0 < k → d.bad = false → d.n ≤ s.size → Inv d lines bad deep →
    (pDesc s k lines d.n bad deep).n = (rDesc s k d).n ∧ (((pDesc s k lines d.n bad deep).ok = true ∧ (rDesc s k d).bad = false ∧ Inv (rDesc s k d) (pDesc s k lines d.n bad deep).lines (pDesc s k lines d.n bad deep).bad (pDesc s k lines d.n bad deep).deep ∧ 0 < (pDesc s k lines d.n bad deep).lines.length) ∨ ((pDesc s k lines d.n bad deep).ok = false ∧ (rDesc s k d).bad = true)) := by
  intro k
  induction k with
  | zero => intro d lines bad deep _ h; omega
  | succ k ih =>
    intro d lines bad deep hk _ hb hn hI
    have hP := part_joint (typ_joint s lines (s.size + 1) (s.size + 2)) d.n bad d.tab d.tab.length (lines.map (·.1)) 61 (by omega) (Nat.le_refl _) (RowsOK.nil _) hn (by omega) (by omega)
    rw [show pPart (pTyp s lines (s.size + 1)) s (lines.map (·.1)) 61 d.n bad = lineR s lines d.n bad from rfl] at hP
    rw [show rTyp s (s.size + 2) (rMust s 61 ⟨wordN s d.n false, nameB s d.n false, d.tab⟩) = rLineR s d from rfl] at hP
    rw [show pDesc s (k + 1) lines d.n bad deep = 
        if (lineR s lines d.n bad).ok = false then ⟨false, (lineR s lines d.n bad).n, lines, (lineR s lines d.n bad).bad, deep⟩ else
        if (lineR s lines d.n bad).n = s.size then ⟨true, (lineR s lines d.n bad).n, lines ++ [(nameAt s d.n, (lineR s lines d.n bad).t)], (lineR s lines d.n bad).bad, lineDeep (lineR s lines d.n bad) d.n deep⟩ else
        if lines.length + 1 = 10 ∨ byteAt s (lineR s lines d.n bad).n ≠ 10 then ⟨false, (lineR s lines d.n bad).n, lines, (lineR s lines d.n bad).bad, deep⟩ else
        pDesc s k (lines ++ [(nameAt s d.n, (lineR s lines d.n bad).t)]) ((lineR s lines d.n bad).n + 1) (lineR s lines d.n bad).bad (lineDeep (lineR s lines d.n bad) d.n deep) from rfl]
    rw [show rDesc s (k + 1) d = 
      if (rLineD s d).bad = true ∨ (rLineD s d).n = s.size then rLineD s d else
      if (rLineD s d).lines.length = 10 then rMark (rLineD s d) else
      if (rFeed s (rLineD s d)).bad = true then rFeed s (rLineD s d) else rDesc s k (rFeed s (rLineD s d)) from rfl]
    have hR : rLineD s d = ⟨(rLineR s d).1.n, (rLineR s d).1.bad, (rLineR s d).1.tab, d.lines ++ [wordS s d.n false], d.ats ++ [d.n], d.roots ++ [(rLineR s d).2]⟩ := rfl
    generalize lineR s lines d.n bad = p at *
    generalize rLineR s d = r at *
    obtain ⟨⟨rn, rb, rt⟩, x⟩ := r
    simp only at hP hR
    obtain ⟨e1, e2, h | h⟩ := hP
    · obtain ⟨hok, hrb, hws, hg⟩ := h
      subst hrb
      obtain ⟨new, hnew⟩ := hg.1
      simp only at hnew
      subst hnew
      have hI' := line_inv hI hI.root hg
      rw [← hws] at hI'
      rw [← hR] at hI'
      rw [hws] at hI'
      have dn : (rLineD s d).n = p.n := by rw [hR]; exact e1.symm
      have db : (rLineD s d).bad = false := by rw [hR]
      have dl : (rLineD s d).lines.length = lines.length + 1 := by rw [hI'.nms]; simp
      generalize rLineD s d = d' at *
      rw [if_neg (by rw [hok]; simp)]
      by_cases hend : p.n = s.size
      · rw [if_pos hend, if_pos (.inr (dn.trans hend))]
        exact ⟨dn.symm, .inl ⟨rfl, db, hI', by simp⟩⟩
      · have c1 : ¬ (d'.bad = true ∨ d'.n = s.size) := by rw [db, dn]; simp [hend]
        rw [if_neg hend, if_neg c1]
        by_cases h10 : lines.length + 1 = 10
        · have c2 : lines.length + 1 = 10 ∨ byteAt s p.n ≠ 10 := .inl h10
          rw [if_pos c2, if_pos (dl.trans h10)]
          exact ⟨dn.symm, .inr ⟨rfl, rfl⟩⟩
        · rw [dl, if_neg h10]
          by_cases hb10 : byteAt s p.n = 10
          · have c2 : ¬ (lines.length + 1 = 10 ∨ byteAt s p.n ≠ 10) := by simp [h10, hb10]
            have c3 : ¬ (false = true) := by simp
            rw [if_neg c2, feed_yes db (by rw [dn]; exact hb10), if_neg c3]
            have := ih ⟨d'.n + 1, false, d'.tab, d'.lines, d'.ats, d'.roots⟩ (lines ++ [(nameAt s d.n, p.t)]) p.bad (lineDeep p d.n deep) (by simp; omega) (by omega) rfl (by show d'.n + 1 ≤ _; omega) ⟨hI'.nms, hI'.la, hI'.lr, hI'.seg, hI'.bad, hI'.deep, hI'.wf, hI'.em⟩
            simp only [dn] at this ⊢
            exact this
          · have c2 : lines.length + 1 = 10 ∨ byteAt s p.n ≠ 10 := .inr hb10
            rw [if_pos c2, feed_no db (by rw [dn]; exact hb10), if_pos rfl]
            exact ⟨dn.symm, .inr ⟨rfl, rfl⟩⟩
    · obtain ⟨hrb, h⟩ := h
      subst hrb
      have db : (rLineD s d).bad = true := by rw [hR]
      have dn : (rLineD s d).n = p.n := by rw [hR]; exact e1.symm
      have c1 : (rLineD s d).bad = true ∨ (rLineD s d).n = s.size := .inl db
      rw [if_pos c1]
      have hno : p.ok = false ∨ (¬ p.n = s.size ∧ byteAt s p.n ≠ 10) := by
        rcases h with h | h
        · exact .inl h
        · exact .inr ⟨fun e => by rw [e] at h; exact letter_end s h, letter_ne h (.inl (by omega))⟩
      by_cases hok : p.ok = false
      · rw [if_pos hok]
        exact ⟨dn.symm, .inr ⟨rfl, db⟩⟩
      · rcases hno with h' | ⟨h1, h2⟩
        · exact absurd h' hok
        · have c2 : lines.length + 1 = 10 ∨ byteAt s p.n ≠ 10 := .inr h2
          rw [if_neg hok, if_neg h1, if_pos c2]
          exact ⟨dn.symm, .inr ⟨rfl, db⟩⟩

theorem Inv.nil (n : Nat) (b : Bool) : Inv ⟨n, b, [], [], [], []⟩ [] none none := by
  refine ⟨rfl, rfl, rfl, fun i hi => by simp at hi, rfl, rfl, fun x t h => by simp at h, fun x _ => rfl⟩

end Go.Proofs.YtnhkalnihjkoeaaGreatDoor

namespace Go.Proofs.YtnhkalnihjkoeaaGreatDoor

def dOf (tb : List RT) (x : Nat) : Nat := depthOf (rDepths tb x) (rowAt tb x)
theorem numAt_depths (tb : List RT) (y : Nat) : ∀ k, y < k → numAt (rDepths tb k) y = dOf tb y := by
  intro k
  induction k with
  | zero => intro h; omega
  | succ k ih =>
    intro h
    simp only [rDepths, numAt]
    by_cases e : y < k
    · rw [List.getElem?_append_left (by rw [rDepths_length]; exact e)]
      exact ih e
    · have : y = k := by omega
      subst this
      rw [List.getElem?_append_right (by rw [rDepths_length]; exact Nat.le_refl _), rDepths_length, Nat.sub_self]
      rfl

/-- The same table, but that rows of names may have been told what they stand for. -/
structure Ext (tb tb' : List RT) : Prop where
  len : tb'.length = tb.length
  row : ∀ y, (rowAt tb' y).kind = (rowAt tb y).kind ∧ (rowAt tb' y).names = (rowAt tb y).names ∧ (rowAt tb' y).ats = (rowAt tb y).ats ∧ (((rowAt tb y).kind = 11 ∧ (rowAt tb y).of = []) ∨ (rowAt tb' y).of = (rowAt tb y).of)
theorem Ext.refl (tb : List RT) : Ext tb tb := ⟨rfl, fun _ => ⟨rfl, rfl, rfl, .inr rfl⟩⟩
theorem Ext.trans {a b c : List RT} (h : Ext a b) (k : Ext b c) : Ext a c := by
  refine ⟨k.len.trans h.len, fun y => ?_⟩
  obtain ⟨h1, h2, h3, h4⟩ := h.row y
  obtain ⟨k1, k2, k3, k4⟩ := k.row y
  refine ⟨k1.trans h1, k2.trans h2, k3.trans h3, ?_⟩
  rcases h4 with h4 | h4
  · exact .inl h4
  · rcases k4 with ⟨k4, k5⟩ | k4
    · exact .inl ⟨h1.symm.trans k4, h4.symm.trans k5⟩
    · exact .inr (k4.trans h4)
theorem RT.eq {a b : RT} (h1 : a.kind = b.kind) (h2 : a.of = b.of) (h3 : a.names = b.names) (h4 : a.ats = b.ats) : a = b := by
  cases a; cases b; simp at *; exact ⟨h1, h2, h3, h4⟩
theorem Ext.same {a b : List RT} (h : Ext a b) {x : Nat} (hk : (rowAt a x).kind ≠ 11) : rowAt b x = rowAt a x := by
  obtain ⟨h1, h2, h3, h4⟩ := h.row x
  rcases h4 with ⟨h4, _⟩ | h4
  · exact absurd h4 hk
  · exact RT.eq h1 h4 h2 h3
theorem Ext.told {a b : List RT} (h : Ext a b) {x : Nat} (hk : (rowAt a x).of ≠ []) : rowAt b x = rowAt a x := by
  obtain ⟨h1, h2, h3, h4⟩ := h.row x
  rcases h4 with ⟨_, h4⟩ | h4
  · exact absurd h4 hk
  · exact RT.eq h1 h4 h2 h3

theorem rowAt_set {tb : List RT} {x : Nat} (hx : x < tb.length) (t : RT) (y : Nat) : rowAt (tb.set x t) y = if y = x then t else rowAt tb y := by
  unfold rowAt
  rw [List.getElem?_set]
  by_cases e : x = y
  · subst e; simp [hx]
  · rw [if_neg e, if_neg (fun h => e h.symm)]

theorem named_both (nm : ByteArray) : ∀ (lines : List (ByteArray × PT)) (roots : List Nat) (i : Nat), roots.length = lines.length → i ≤ lines.length →
    (rNamed (lines.map (·.1)) roots nm i = none ∧ lineOf nm (lines.take i) = none ∧ ((lines.take i).map (·.1)).any (fun z => decide (z = nm)) = false) ∨ (∃ j q, j < i ∧ rNamed (lines.map (·.1)) roots nm i = some (numAt roots j) ∧ lines[j]? = some q ∧ lineOf nm (lines.take i) = some q.2 ∧ ((lines.take i).map (·.1)).any (fun z => decide (z = nm)) = true) := by
  intro lines
  induction lines with
  | nil => intro roots i h1 h2; left; simp at h2; subst h2; exact ⟨rfl, rfl, rfl⟩
  | cons p lines ih =>
    intro roots i h1 h2
    cases roots with
    | nil => simp at h1
    | cons r roots =>
      cases i with
      | zero => left; exact ⟨rfl, rfl, rfl⟩
      | succ i =>
        have e1 : rNamed ((p :: lines).map (·.1)) (r :: roots) nm (i + 1) = if p.1 = nm then some r else rNamed (lines.map (·.1)) roots nm i := rfl
        have e2 : lineOf nm ((p :: lines).take (i + 1)) = if p.1 = nm then some p.2 else lineOf nm (lines.take i) := rfl
        have e3 : (((p :: lines).take (i + 1)).map (·.1)).any (fun z => decide (z = nm)) = (decide (p.1 = nm) || ((lines.take i).map (·.1)).any (fun z => decide (z = nm))) := rfl
        by_cases e : p.1 = nm
        · right
          refine ⟨0, p, by omega, by rw [e1, if_pos e]; rfl, rfl, by rw [e2, if_pos e], by rw [e3]; simp [e]⟩
        · rw [e1, e2, e3, if_neg e, if_neg e]
          have d : decide (p.1 = nm) = false := by simp [e]
          rw [d, Bool.false_or]
          rcases ih roots i (by simpa using h1) (by simpa using h2) with h | ⟨j, q, hj, h3, h4, h5, h6⟩
          · exact .inl h
          · exact .inr ⟨j + 1, q, by omega, by rw [h3]; rfl, h4, h5, h6⟩

/-- What the x-th type of a table stands for. -/
inductive Is (tb : List RT) : Nat → PT → Prop
  | name {x y : Nat} {t : PT} : x < tb.length → (rowAt tb x).kind = 11 → (rowAt tb x).of = [y] → y < x → Is tb y t → Is tb x t
  | row {x : Nat} {t : PT} : x < tb.length → (rowAt tb x).kind ≠ 11 → (rowAt tb x).kind = t.kind → namesR (rowAt tb x) = t.names → (rowAt tb x).of.length = t.subs.length → (9 ≤ (rowAt tb x).kind → (rowAt tb x).names.length = (rowAt tb x).of.length) →
      (∀ i, i < t.subs.length → Is tb (numAt (rowAt tb x).of i) ((t.subs[i]?).getD PT.dummy)) → Is tb x t

def Dn (v : PT) (tb : List RT) (x : Nat) : Prop := ∀ tb', Ext tb tb' → dOf tb' x = v.depth ∧ Is tb' x v
theorem Dn.keep {v : PT} {tb tb' : List RT} {x : Nat} (h : Dn v tb x) (e : Ext tb tb') : Dn v tb' x := fun t k => h t (e.trans k)

structure WR (tab0 : List RT) (lines : List (ByteArray × PT)) (roots : List Nat) (i lo root : Nat) (tb : List RT) : Prop where
  ext : Ext tab0 tb
  seg : ∀ y, lo ≤ y → y ≤ root → (rowAt tb y).kind = 11 → (rowAt tb y).of = [] ∨ ∃ to, rNamed (lines.map (·.1)) roots (textAt (rowAt tb y).names 0) i = some to ∧ (rowAt tb y).of = [to]
  old : ∀ j q, j < i → lines[j]? = some q → Dn q.2 tb (numAt roots j)
  w2 : W2 tb

theorem maxOf_eq {ds : List Nat} {vs : List (PT × Option Nat)} {l : List Nat} (h : ∀ y ∈ l, numAt ds y = (vlAt vs y).1.depth) : ∀ c, maxOf ds l c = l.foldl (fun c y => max c (vlAt vs y).1.depth) c := by
  unfold maxOf
  induction l with
  | nil => intro c; rfl
  | cons y l ih =>
    intro c
    simp only [List.foldl_cons]
    rw [h y (by simp), ih (fun z hz => h z (by simp [hz]))]

theorem mem_at {l : List Nat} {y : Nat} (h : y ∈ l) : ∃ j, j < l.length ∧ numAt l j = y := by
  obtain ⟨j, hj, e⟩ := List.getElem_of_mem h
  exact ⟨j, hj, by unfold numAt; simp [hj, e]⟩
theorem at_mem {l : List Nat} {j : Nat} (h : j < l.length) : numAt l j ∈ l := by unfold numAt; simp [h]

theorem wrong_joint {tab0 : List RT} {lines : List (ByteArray × PT)} {roots : List Nat} {i lo root : Nat} (hro : ∀ x, lo ≤ x → x ≤ root → (rowAt tab0 x).kind ≠ 11 → ∀ y ∈ (rowAt tab0 x).of, lo ≤ y ∧ y < x) (hnl : ∀ x, lo ≤ x → x ≤ root → (rowAt tab0 x).kind ≠ 11 → 9 ≤ (rowAt tab0 x).kind → (rowAt tab0 x).names.length = (rowAt tab0 x).of.length) (hrt : root < tab0.length) (hbef : ∀ j, j < i → numAt roots j < lo) (hi : i ≤ lines.length) (hlr : roots.length = lines.length) :
    ∀ (f : Nat) (tb : List RT) (x : Nat), lo ≤ x → x ≤ root → x < f → WR tab0 lines roots i lo root tb →
      (rWrong (lines.map (·.1)) roots i f tb x).1 = (vOf (lines.take i) tab0 x).2 ∧ WR tab0 lines roots i lo root (rWrong (lines.map (·.1)) roots i f tb x).2 ∧ Ext tb (rWrong (lines.map (·.1)) roots i f tb x).2 ∧
      (∀ y, (y < lo ∨ root < y) → rowAt (rWrong (lines.map (·.1)) roots i f tb x).2 y = rowAt tb y) ∧ ((rWrong (lines.map (·.1)) roots i f tb x).1 = none → Dn (vOf (lines.take i) tab0 x).1 (rWrong (lines.map (·.1)) roots i f tb x).2 x) := by
  intro f
  induction f with
  | zero => intro tb x _ _ h; omega
  | succ f ih =>
    intro tb x hlo hx hf hW
    have hxl : x < tb.length := by rw [hW.ext.len]; omega
    obtain ⟨hk, hnm, hat, _⟩ := hW.ext.row x
    by_cases h11 : (rowAt tb x).kind = 11
    · have h110 : (rowAt tab0 x).kind = 11 := hk.symm.trans h11
      simp only [rWrong, vOf, vRow]
      rw [if_pos h11, if_pos h110, ← hnm, ← hat]
      have hsg := hW.seg x hlo hx h11
      rcases named_both (textAt (rowAt tb x).names 0) lines roots i hlr hi with ⟨e1, e2, _⟩ | ⟨j, q, hj, e1, e2, e3, _⟩
      · rw [e1, e2]
        exact ⟨rfl, hW, Ext.refl _, fun _ _ => rfl, fun h => by simp at h⟩
      · rw [e1, e3]
        simp only
        rw [e1] at hsg
        have hto : numAt roots j < x := by have := hbef j hj; omega
        have hset := rowAt_set hxl ⟨11, [numAt roots j], (rowAt tb x).names, (rowAt tb x).ats⟩
        have hE : Ext tb (tb.set x ⟨11, [numAt roots j], (rowAt tb x).names, (rowAt tb x).ats⟩) := by
          refine ⟨by simp, fun y => ?_⟩
          rw [hset y]
          by_cases e : y = x
          · subst e
            rw [if_pos rfl]
            refine ⟨h11.symm, rfl, rfl, ?_⟩
            rcases hsg with h | ⟨to, h1, h2⟩
            · exact .inl ⟨h11, h⟩
            · simp at h1; subst h1; exact .inr h2.symm
          · rw [if_neg e]; exact ⟨rfl, rfl, rfl, .inr rfl⟩
        refine ⟨trivial, ⟨hW.ext.trans hE, fun y h1 h2 h3 => ?_, fun j q h1 h2 => (hW.old j q h1 h2).keep hE, fun y hy z hz => ?_⟩, hE, fun y hy => ?_, fun _ tb' hE' => ?_⟩
        · rw [hset y] at h3 ⊢
          by_cases e : y = x
          · subst e; rw [if_pos rfl] at h3 ⊢; exact .inr ⟨numAt roots j, e1, rfl⟩
          · rw [if_neg e] at h3 ⊢; exact hW.seg y h1 h2 h3
        · rw [hset y] at hz
          by_cases e : y = x
          · subst e; rw [if_pos rfl] at hz; simp at hz; omega
          · rw [if_neg e] at hz; exact hW.w2 y (by simpa using hy) z hz
        · rw [hset y, if_neg (by omega)]
        · have hrow : rowAt tb' x = ⟨11, [numAt roots j], (rowAt tb x).names, (rowAt tb x).ats⟩ := by
            have h0 : rowAt (tb.set x ⟨11, [numAt roots j], (rowAt tb x).names, (rowAt tb x).ats⟩) x = ⟨11, [numAt roots j], (rowAt tb x).names, (rowAt tb x).ats⟩ := by rw [hset x, if_pos rfl]
            rw [hE'.told (by rw [h0]; simp), h0]
          have hd := hW.old j q hj e2 tb' (hE.trans hE')
          refine ⟨?_, .name (by rw [hE'.len, hE.len]; exact hxl) (by rw [hrow]) (by rw [hrow]) hto hd.2⟩
          show depthOf (rDepths tb' x) (rowAt tb' x) = q.2.depth
          rw [hrow]
          show max 0 (numAt (rDepths tb' x) (numAt roots j)) + 0 = _
          rw [numAt_depths tb' _ x hto, hd.1]
          omega
    · have h110 : (rowAt tab0 x).kind ≠ 11 := fun h => h11 (hk.trans h)
      have hrow : rowAt tb x = rowAt tab0 x := hW.ext.same h110
      have hof := hro x hlo hx h110
      have hnm9 := hnl x hlo hx h110
      simp only [rWrong, vOf, vRow]
      rw [if_neg h11, if_neg h110, hrow]
      simp only
      have ht : ∃ t, t = rowAt tab0 x := ⟨_, rfl⟩
      obtain ⟨t, ht⟩ := ht
      rw [← ht] at hof h110 hnm9 ⊢
      have key : ∀ (m k : Nat) (tb1 : List RT), k + m = t.of.length → WR tab0 lines roots i lo root tb1 → Ext tb tb1 → (∀ y, (y < lo ∨ root < y) → rowAt tb1 y = rowAt tb y) → (∀ j, j < k → Dn (vOf (lines.take i) tab0 (numAt t.of j)).1 tb1 (numAt t.of j)) →
          (rLoopW (rWrong (lines.map (·.1)) roots i f) t m k tb1).1 = wLoop (vList (lines.take i) tab0 x) t m k ∧ WR tab0 lines roots i lo root (rLoopW (rWrong (lines.map (·.1)) roots i f) t m k tb1).2 ∧ Ext tb (rLoopW (rWrong (lines.map (·.1)) roots i f) t m k tb1).2 ∧
          (∀ y, (y < lo ∨ root < y) → rowAt (rLoopW (rWrong (lines.map (·.1)) roots i f) t m k tb1).2 y = rowAt tb y) ∧ ((rLoopW (rWrong (lines.map (·.1)) roots i f) t m k tb1).1 = none → ∀ j, j < t.of.length → Dn (vOf (lines.take i) tab0 (numAt t.of j)).1 (rLoopW (rWrong (lines.map (·.1)) roots i f) t m k tb1).2 (numAt t.of j)) := by
        intro m
        induction m with
        | zero => intro k tb1 hm h1 h2 h3 h4; exact ⟨rfl, h1, h2, h3, fun _ j hj => h4 j (by omega)⟩
        | succ m ihm =>
          intro k tb1 hm h1 h2 h3 h4
          have hy := hof _ (at_mem (l := t.of) (j := k) (by omega))
          obtain ⟨g1, g2, g3, g4, g5⟩ := ih tb1 (numAt t.of k) hy.1 (by omega) (by omega) h1
          simp only [rLoopW, wLoop]
          rw [vlAt_list _ _ _ x hy.2, ← g1]
          by_cases hd : dup t.names k = true
          · rw [if_pos hd, if_pos hd]
            exact ⟨rfl, h1, h2, h3, fun h => by simp at h⟩
          · rw [if_neg hd, if_neg hd]
            generalize hrr : rWrong (lines.map (·.1)) roots i f tb1 (numAt t.of k) = r at *
            obtain ⟨ro, rt⟩ := r
            simp only at g1 g2 g3 g4 g5 ⊢
            cases ro with
            | some a => exact ⟨rfl, g2, h2.trans g3, fun y hy => (g4 y hy).trans (h3 y hy), fun h => by simp at h⟩
            | none =>
              refine ihm (k + 1) rt (by omega) g2 (h2.trans g3) (fun y hy => (g4 y hy).trans (h3 y hy)) (fun j hj => ?_)
              by_cases e : j < k
              · exact (h4 j e).keep g3
              · have : j = k := by omega
                subst this
                exact g5 rfl
      obtain ⟨k1, k2, k3, k4, k5⟩ := key t.of.length 0 tb (by omega) hW (Ext.refl _) (fun _ _ => rfl) (fun j hj => by omega)
      refine ⟨k1, k2, k3, k4, fun hn tb' hE' => ?_⟩
      have k5 := k5 hn
      have hr' : rowAt tb' x = t := by
        rw [ht]; exact (k2.ext.trans hE').same (by rw [← ht]; exact h110)
      refine ⟨?_, .row (by rw [hE'.len, k3.len]; exact hxl) (by rw [hr']; exact h110) (by rw [hr']; rfl) (by rw [hr']; rfl) (by rw [hr']; exact (List.length_map _).symm) (by rw [hr']; exact hnm9) fun j hj => ?_⟩
      rotate_left
      · have hj' : j < t.of.length := by simpa [treeR] using hj
        have e1 : (treeR (vList (lines.take i) tab0 x) t).subs[j]?.getD PT.dummy = (vOf (lines.take i) tab0 (numAt t.of j)).1 := by
          simp only [treeR, List.getElem?_map]
          rw [show t.of[j]? = some (numAt t.of j) by unfold numAt; simp [hj']]
          simp only [Option.map_some, Option.getD_some]
          rw [vlAt_list _ _ _ x (hof _ (at_mem hj')).2]
        rw [hr', e1]
        exact (k5 j hj' tb' hE').2
      show depthOf (rDepths tb' x) (rowAt tb' x) = dMax (vList (lines.take i) tab0 x) t.of + 1
      rw [hr']
      unfold depthOf dMax
      rw [if_neg h110, maxOf_eq (vs := vList (lines.take i) tab0 x) (fun y hy => ?_)]
      obtain ⟨j, hj, e⟩ := mem_at hy
      rw [numAt_depths tb' y x (hof y hy).2, vlAt_list _ _ _ x (hof y hy).2, ← e]
      exact (k5 j hj tb' hE').1

end Go.Proofs.YtnhkalnihjkoeaaGreatDoor

namespace Go.Proofs.YtnhkalnihjkoeaaGreatDoor

def firstFrom (c : Nat → Option Nat) : Nat → Nat → Option Nat
  | 0, _ => none
  | m + 1, i => orO (c i) (firstFrom c m (i + 1))
theorem orO_assoc (a b c : Option Nat) : orO (orO a b) c = orO a (orO b c) := by cases a <;> rfl
theorem firstFrom_of (c : Nat → Option Nat) : ∀ m i, firstOf c (i + m) = orO (firstOf c i) (firstFrom c m i) := by
  intro m
  induction m with
  | zero => intro i; simp only [firstFrom, Nat.add_zero]; cases firstOf c i <;> rfl
  | succ m ih =>
    intro i
    rw [show i + (m + 1) = (i + 1) + m by omega, ih (i + 1)]
    simp only [firstFrom, firstOf]
    exact orO_assoc _ _ _
theorem firstOf_from (c : Nat → Option Nat) (m : Nat) : firstOf c m = firstFrom c m 0 := by
  have := firstFrom_of c m 0
  rw [Nat.zero_add] at this
  rw [this]; rfl

theorem names_joint {d : RD} {lines : List (ByteArray × PT)} {bad deep : Option Nat} (hI : Inv d lines bad deep) : ∀ (m i : Nat) (tb : List RT), i + m = lines.length → Ext d.tab tb → (∀ y, (∀ j, j < i → numAt d.roots j < y) → rowAt tb y = rowAt d.tab y) → (∀ j q, j < i → lines[j]? = some q → Dn q.2 tb (numAt d.roots j)) → W2 tb →
    (rNames d d.tab.length m i tb).1 = firstFrom (cAt d.tab lines d.roots d.ats) m i ∧ (rNames d d.tab.length m i tb).2.length = d.tab.length ∧ W2 (rNames d d.tab.length m i tb).2 ∧
    ((rNames d d.tab.length m i tb).1 = none → ∀ j q, j < lines.length → lines[j]? = some q → Dn q.2 (rNames d d.tab.length m i tb).2 (numAt d.roots j)) := by
  intro m
  induction m with
  | zero => intro i tb hm h1 h2 h3 h4; exact ⟨rfl, h1.len, h4, fun _ j q hj hq => h3 j q (by omega) hq⟩
  | succ m ih =>
    intro i tb hm h1 h2 h3 h4
    have hil : i < lines.length := by omega
    obtain ⟨lo, s1, s2, s3, s4, q, s5, s6⟩ := hI.seg i hil
    have htk : ∀ x, x ≤ numAt d.roots i → rowAt (d.tab.take (numAt d.roots i + 1)) x = rowAt d.tab x := fun x hx => by
      unfold rowAt; rw [List.getElem?_take_of_lt (by omega)]
    have hro : ∀ x, lo ≤ x → x ≤ numAt d.roots i → (rowAt d.tab x).kind ≠ 11 → ∀ y ∈ (rowAt d.tab x).of, lo ≤ y ∧ y < x := fun x g1 g2 g3 => by
      have := (s3 x g1 (by rw [List.length_take]; omega)).1
      rw [htk x g2] at this
      exact (this g3).1
    have hnl : ∀ x, lo ≤ x → x ≤ numAt d.roots i → (rowAt d.tab x).kind ≠ 11 → 9 ≤ (rowAt d.tab x).kind → (rowAt d.tab x).names.length = (rowAt d.tab x).of.length := fun x g1 g2 g3 g4 => by
      have := (s3 x g1 (by rw [List.length_take]; omega)).1
      rw [htk x g2] at this
      rcases (this g3).2 with h | h
      · omega
      · exact h.1
    have hW : WR d.tab lines d.roots i lo (numAt d.roots i) tb := by
      refine ⟨h1, fun y g1 g2 g3 => ?_, h3, h4⟩
      have e := h2 y (fun j hj => by have := s4 j hj; omega)
      rw [e] at g3 ⊢
      exact .inl (hI.em y g3)
    obtain ⟨r1, r2, r3, r4, r5⟩ := wrong_joint hro hnl s2 s4 (by omega) hI.lr d.tab.length tb (numAt d.roots i) s1 (Nat.le_refl _) s2 hW
    have hnb := named_both (textAt (lines.map (·.1)) i) lines d.roots i hI.lr (by omega)
    simp only [rNames, firstFrom]
    rw [hI.nms]
    generalize rWrong (lines.map (·.1)) d.roots i d.tab.length tb (numAt d.roots i) = r at *
    obtain ⟨ro, rt⟩ := r
    simp only at r1 r2 r3 r4 r5 ⊢
    unfold cAt
    rw [← r1]
    rcases hnb with ⟨e1, _, e3⟩ | ⟨j, q', _, e1, _, _, e3⟩
    · rw [e1, e3]
      simp only [Option.isSome_none, Bool.false_eq_true, if_false]
      cases ro with
      | some a => exact ⟨rfl, r3.len.trans h1.len, r2.w2, fun h => by simp at h⟩
      | none =>
        refine ih (i + 1) rt (by omega) r2.ext (fun y hy => ?_) (fun j q' hj hq => ?_) r2.w2
        · rw [r4 y (.inr (hy i (by omega)))]
          exact h2 y (fun j hj => hy j (by omega))
        · by_cases e : j < i
          · exact (h3 j q' e hq).keep r3
          · have : j = i := by omega
            subst this
            rw [s5] at hq
            simp at hq
            subst hq
            rw [s6]
            exact r5 rfl
    · rw [e1, e3]
      simp only [Option.isSome_some, if_true]
      exact ⟨rfl, h1.len, h4, fun h => by simp at h⟩

theorem deep_joint {d : RD} {lines : List (ByteArray × PT)} {bad deep : Option Nat} (hI : Inv d lines bad deep) {tb : List RT} (hd : ∀ j q, j < lines.length → lines[j]? = some q → Dn q.2 tb (numAt d.roots j)) : ∀ (m i : Nat), i + m = lines.length →
    rDeep d (rDepths tb d.tab.length) m i = firstFrom (eAt d.tab lines d.roots d.ats) m i := by
  intro m
  induction m with
  | zero => intro i _; rfl
  | succ m ih =>
    intro i hm
    obtain ⟨lo, s1, s2, s3, s4, q, s5, s6⟩ := hI.seg i (by omega)
    simp only [rDeep, firstFrom]
    rw [numAt_depths tb _ _ s2, (hd i q (by omega) s5 tb (Ext.refl _)).1, s6, ih (i + 1) (by omega)]
    unfold eAt
    split <;> rfl

theorem agree : Agree := by
  intro s hs
  have hJ := desc_joint s 10 ⟨0, false, [], [], [], []⟩ [] none none rfl (by omega) rfl (Nat.zero_le _) (Inv.nil 0 false)
  simp only at hJ
  rw [show rDesc s 10 ⟨0, false, [], [], [], []⟩ = rAll s from rfl] at hJ
  unfold checkP checkR
  have hs' : ¬ 400 < s.size := by omega
  rw [if_neg hs', if_neg hs']
  generalize pDesc s 10 [] 0 none none = P at *
  generalize rAll s = d at *
  obtain ⟨hn, ⟨h1, h2, hI, hp⟩ | ⟨h1, h2⟩⟩ := hJ
  · have hW2 : W2 d.tab := fun x hx y hy => by
      by_cases h11 : (rowAt d.tab x).kind = 11
      · rw [hI.em x h11] at hy; simp at hy
      · exact ((hI.wf x (rowAt d.tab x) (by unfold rowAt; simp [hx])).1 h11).1 y hy
    have hl : d.lines.length = P.lines.length := by rw [hI.nms]; simp
    obtain ⟨n1, n2, n3, n4⟩ := names_joint hI P.lines.length 0 d.tab (by omega) (Ext.refl _) (fun _ _ => rfl) (fun j q h => by omega) hW2
    rw [← hl] at n1 n2 n3 n4
    rw [show rNames d d.tab.length d.lines.length 0 d.tab = rNamesAll d from rfl] at n1 n2 n3 n4
    refine ⟨fun _ => ⟨hI.wf, fun y hy => ?_, by omega, fun _ => n3⟩, ?_⟩
    · obtain ⟨j, hj, e⟩ := mem_at hy
      rw [← e]
      exact hI.root j (by rw [← hI.lr]; exact hj)
    · unfold checkD
      have c1 : ¬ P.ok = false := by rw [h1]; simp
      have c2 : ¬ d.bad = true := by rw [h2]; simp
      rw [if_neg c1, if_neg c2]
      rw [hI.bad, hI.deep, firstOf_from, firstOf_from, ← hl, ← n1]
      cases hr : (rNamesAll d).1 with
      | some a => rfl
      | none =>
        simp only
        have n4 := n4 hr
        rw [deep_joint hI (fun j q hj => n4 j q (by omega)) d.lines.length 0 (by omega)]
        cases firstFrom (eAt d.tab P.lines d.roots d.ats) d.lines.length 0 <;> rfl
  · refine ⟨fun h => by rw [h2] at h; simp at h, ?_⟩
    unfold checkD
    rw [if_pos h1, if_pos h2, hn]

/-- Where a description is one, the last line's type is the tree that the program reads. -/
theorem agree_tree {s : ByteArray} (hs : s.size ≤ 400) (hc : checkP s = (0, 0)) : (rAll s).bad = false ∧ 0 < (rAll s).roots.length ∧ (rNamesAll (rAll s)).1 = none ∧ Is (rNamesAll (rAll s)).2 (numAt (rAll s).roots ((rAll s).roots.length - 1)) (typeP s) := by
  have hJ := desc_joint s 10 ⟨0, false, [], [], [], []⟩ [] none none rfl (by omega) rfl (Nat.zero_le _) (Inv.nil 0 false)
  simp only at hJ
  rw [show rDesc s 10 ⟨0, false, [], [], [], []⟩ = rAll s from rfl] at hJ
  have hT : typeP s = (((pDesc s 10 [] 0 none none).lines.getLast?).map (·.2)).getD PT.dummy := rfl
  rw [hT]
  clear hT
  unfold checkP at hc
  rw [if_neg (show ¬ 400 < s.size by omega)] at hc
  generalize pDesc s 10 [] 0 none none = P at *
  generalize rAll s = d at *
  obtain ⟨hn, ⟨h1, h2, hI, hp⟩ | ⟨h1, h2⟩⟩ := hJ
  · have hW2 : W2 d.tab := fun x hx y hy => by
      by_cases h11 : (rowAt d.tab x).kind = 11
      · rw [hI.em x h11] at hy; simp at hy
      · exact ((hI.wf x (rowAt d.tab x) (by unfold rowAt; simp [hx])).1 h11).1 y hy
    have hl : d.lines.length = P.lines.length := by rw [hI.nms]; simp
    obtain ⟨n1, n2, n3, n4⟩ := names_joint hI P.lines.length 0 d.tab (by omega) (Ext.refl _) (fun _ _ => rfl) (fun j q h => by omega) hW2
    rw [← hl] at n1 n2 n3 n4
    rw [show rNames d d.tab.length d.lines.length 0 d.tab = rNamesAll d from rfl] at n1 n2 n3 n4
    rw [if_neg (show ¬ P.ok = false by rw [h1]; simp), hI.bad, firstOf_from, ← hl, ← n1] at hc
    cases hr : (rNamesAll d).1 with
    | some a => rw [hr] at hc; simp at hc
    | none =>
      have n4 := n4 hr
      obtain ⟨q, hq⟩ : ∃ q, P.lines[P.lines.length - 1]? = some q := ⟨P.lines[P.lines.length - 1]'(by omega), by simp⟩
      refine ⟨h2, by rw [hI.lr]; exact hp, rfl, ?_⟩
      rw [hI.lr, List.getLast?_eq_getElem?, hq]
      exact (n4 (P.lines.length - 1) q (by omega) hq _ (Ext.refl _)).2
  · rw [if_pos h1] at hc; simp at hc

end Go.Proofs.YtnhkalnihjkoeaaGreatDoor
