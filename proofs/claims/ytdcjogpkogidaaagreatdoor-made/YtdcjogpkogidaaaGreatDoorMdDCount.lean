/- Numbers and paths as the reference writes them. The reference's reader takes counts, and looks types up. The reference's reader tells one more number, or part; numbers. -/
import Derived.Deep.LoopGhost
import Derived.RegionTactic
import Derived.Test.YtdcjogpkogidaaaGreatDoorMdVOut
import Derived.Test.YtdcjogpkogidaaaGreatDoorMdCheck
import Derived.Test.YtdcjogpkogidaaaGreatDoorMdDPure
import Derived.Test.YtdcjogpkogidaaaGreatDoorMdVOne
import Derived.Test.YtdcjogpkogidaaaGreatDoorMdVSub
import Derived.Test.YtdcjogpkogidaaaGreatDoorMdRParse
section
namespace Go.Proofs.YtdcjogpkogidaaaGreatDoor
open Go.RowKit

/-- A slice that is not empty lies somewhere; its cells. -/
theorem SL.open {w : World} {X : Nat → Prop} {e : TypeId} {v : Value} {xs : List Value} (h : SL w X e v xs) (hp : 0 < xs.length) : ∃ g cap, v = .slice (some ⟨g, 0, none⟩) xs.length cap ∧ ¬ X g ∧ g < w.heap.size ∧ ∀ k, k < xs.length → w.cell? ⟨g, k, none⟩ = xs[k]? := by
  rcases h.1.2 with ⟨_, e⟩ | ⟨g, cap, cur, rfl, _⟩
  · omega
  · exact ⟨g, cap, rfl, h.2 g rfl, (h.1.lt g rfl).2, fun k hk => h.1.cellAt k (by omega)⟩

theorem SL.len {w : World} {X : Nat → Prop} {e : TypeId} {a : Option Addr} {n c : Nat} {xs : List Value} (h : SL w X e (.slice a n c) xs) : n = xs.length := by
  rcases h.1.2 with ⟨q, e⟩ | ⟨g, cap, cur, q, _⟩
  · cases q; omega
  · cases q; rfl

theorem SL.le {w : World} {X : Nat → Prop} {e : TypeId} {v : Value} {xs : List Value} (h : SL w X e v xs) : xs.length ≤ maxLen := by
  rcases h.1.2 with ⟨q, e⟩ | ⟨g, cap, cur, q, _, _, h1, h2, _⟩
  · omega
  · omega

end Go.Proofs.YtdcjogpkogidaaaGreatDoor

namespace Go.Proofs.YtdcjogpkogidaaaGreatDoor
open Go.RowKit

def maxOf (ds : List Nat) (l : List Nat) (c : Nat) : Nat := l.foldl (fun c y => max c (numAt ds y)) c
def depthOf (ds : List Nat) (t : RT) : Nat := maxOf ds t.of 0 + (if t.kind = 11 then 0 else 1)
def rDepths (tab : List RT) : Nat → List Nat
  | 0 => []
  | k + 1 => rDepths tab k ++ [depthOf (rDepths tab k) (rowAt tab k)]

def W2 (tab : List RT) : Prop := ∀ (x : Nat), x < tab.length → ∀ y ∈ (rowAt tab x).of, y < x

end Go.Proofs.YtdcjogpkogidaaaGreatDoor

namespace Go.Proofs.YtdcjogpkogidaaaGreatDoor
open Go.RowKit

def rNames (d : RD) (N : Nat) : Nat → Nat → List RT → Option Nat × List RT
  | 0, _, tab => (none, tab)
  | m + 1, i, tab =>
    if (rNamed d.lines d.roots (textAt d.lines i) i).isSome = true then (some (numAt d.ats i), tab) else
    match (rWrong d.lines d.roots i N tab (numAt d.roots i)).1 with
    | some a => (some a, (rWrong d.lines d.roots i N tab (numAt d.roots i)).2)
    | none => rNames d N m (i + 1) (rWrong d.lines d.roots i N tab (numAt d.roots i)).2

def rDeep (d : RD) (ds : List Nat) : Nat → Nat → Option Nat
  | 0, _ => none
  | m + 1, i => if 12 < numAt ds (numAt d.roots i) then some (numAt d.ats i) else rDeep d ds m (i + 1)

def rAll (s : ByteArray) : RD := rDesc s 10 ⟨0, false, [], [], [], []⟩
def rNamesAll (d : RD) : Option Nat × List RT := rNames d d.tab.length d.lines.length 0 d.tab

def checkD (d : RD) : Nat × Nat :=
  if d.bad = true then (2, d.n) else
  match (rNamesAll d).1 with
  | some a => (3, a)
  | none => match rDeep d (rDepths (rNamesAll d).2 d.tab.length) d.lines.length 0 with
    | some a => (4, a)
    | none => (0, 0)
def checkR (s : ByteArray) : Nat × Nat := if 400 < s.size then (1, 0) else checkD (rAll s)

/-- What a description's table must be. -/
def Fine (d : RD) : Prop := d.bad = false → W1 d.tab ∧ (∀ y ∈ d.roots, y < d.tab.length) ∧ 0 < d.lines.length ∧ ((rNamesAll d).1 = none → W2 (rNamesAll d).2)

end Go.Proofs.YtdcjogpkogidaaaGreatDoor

namespace Go.Proofs.YtdcjogpkogidaaaGreatDoor
open Go.RowKit

/-- Both readers tell the same of every text. -/
def Agree : Prop := ∀ s : ByteArray, s.size ≤ 400 → Fine (rAll s) ∧ checkP s = checkR s
theorem Agree.all (h : Agree) (s : ByteArray) : (s.size ≤ 400 → Fine (rAll s)) ∧ checkP s = checkR s := by
  refine ⟨fun hs => (h s hs).1, ?_⟩
  by_cases hs : 400 < s.size
  · unfold checkP checkR; rw [if_pos hs, if_pos hs]
  · exact (h s (by omega)).2

end Go.Proofs.YtdcjogpkogidaaaGreatDoor
end
section
namespace Go.Proofs.YtdcjogpkogidaaaGreatDoor

def vlAt (vs : List (PT × Option Nat)) (y : Nat) : PT × Option Nat := (vs[y]?).getD (PT.dummy, none)
def wLoop (vs : List (PT × Option Nat)) (t : RT) : Nat → Nat → Option Nat
  | 0, _ => none
  | m + 1, k => if dup t.names k = true then some (numAt t.ats k) else
    match (vlAt vs (numAt t.of k)).2 with
    | some a => some a
    | none => wLoop vs t m (k + 1)
def dMax (vs : List (PT × Option Nat)) (l : List Nat) : Nat := l.foldl (fun c y => max c (vlAt vs y).1.depth) 0
def namesR (t : RT) : List ByteArray := if t.names.isEmpty = true then t.of.map (fun _ => ⟨#[]⟩) else t.names
def treeR (vs : List (PT × Option Nat)) (t : RT) : PT := ⟨t.kind, dMax vs t.of + 1, namesR t, t.of.map (fun y => (vlAt vs y).1)⟩
def vRow (lines : List (ByteArray × PT)) (vs : List (PT × Option Nat)) (t : RT) : PT × Option Nat :=
  if t.kind = 11 then
    match lineOf (textAt t.names 0) lines with
    | some q => (q, none)
    | none => (PT.dummy, some (numAt t.ats 0))
  else (treeR vs t, wLoop vs t t.of.length 0)
def vList (lines : List (ByteArray × PT)) (tab : List RT) : Nat → List (PT × Option Nat)
  | 0 => []
  | k + 1 => vList lines tab k ++ [vRow lines (vList lines tab k) (rowAt tab k)]
def vOf (lines : List (ByteArray × PT)) (tab : List RT) (x : Nat) : PT × Option Nat := vRow lines (vList lines tab x) (rowAt tab x)
def orO (a b : Option Nat) : Option Nat := match a with
  | some x => some x
  | none => b

theorem rowAt_app {tab new : List RT} {x : Nat} (h : x < tab.length) : rowAt (tab ++ new) x = rowAt tab x := by
  unfold rowAt; rw [List.getElem?_append_left h]
theorem rowAt_last (tab : List RT) (t : RT) : rowAt (tab ++ [t]) tab.length = t := by
  unfold rowAt; simp
/-- Rows from lo on look among themselves alone. -/
def RowsOK (lo : Nat) (tab : List RT) : Prop := ∀ x, lo ≤ x → x < tab.length →
  ((rowAt tab x).kind ≠ 11 → (∀ y ∈ (rowAt tab x).of, lo ≤ y ∧ y < x) ∧ (((rowAt tab x).names = [] ∧ (rowAt tab x).kind ≤ 8) ∨ ((rowAt tab x).names.length = (rowAt tab x).of.length ∧ (rowAt tab x).ats.length = (rowAt tab x).of.length))) ∧
  ((rowAt tab x).kind = 11 → (rowAt tab x).names.length = 1 ∧ (rowAt tab x).ats.length = 1 ∧ (rowAt tab x).of = [])

theorem RowsOK.snoc {lo : Nat} {tab : List RT} (h : RowsOK lo tab) {t : RT}
    (h1 : t.kind ≠ 11 → (∀ y ∈ t.of, lo ≤ y ∧ y < tab.length) ∧ ((t.names = [] ∧ t.kind ≤ 8) ∨ (t.names.length = t.of.length ∧ t.ats.length = t.of.length))) (h2 : t.kind = 11 → t.names.length = 1 ∧ t.ats.length = 1 ∧ t.of = []) : RowsOK lo (tab ++ [t]) := by
  intro x hlo hx
  by_cases e : x < tab.length
  · rw [rowAt_app e]; exact h x hlo e
  · have : x = tab.length := by simp at hx; omega
    subst this
    rw [rowAt_last]
    exact ⟨h1, h2⟩
theorem RowsOK.nil (tab : List RT) : RowsOK tab.length tab := fun x h1 h2 => by omega

def GoodJ (lines : List (ByteArray × PT)) (tab0 : List RT) (lo : Nat) (b0 : Option Nat) (p : Res) (r : RS × Nat) : Prop :=
  (∃ new, r.1.tab = tab0 ++ new) ∧ RowsOK lo r.1.tab ∧ tab0.length ≤ r.2 ∧ r.2 < r.1.tab.length ∧ p.t = (vOf lines r.1.tab r.2).1 ∧ p.bad = orO b0 (vOf lines r.1.tab r.2).2

def J (s : ByteArray) (lines : List (ByteArray × PT)) (tab0 : List RT) (lo : Nat) (b0 : Option Nat) (p : Res) (r : RS × Nat) : Prop :=
  p.n = r.1.n ∧ p.n ≤ s.size ∧ ((p.ok = true ∧ r.1.bad = false ∧ GoodJ lines tab0 lo b0 p r) ∨ (r.1.bad = true ∧ (p.ok = false ∨ isLetter s p.n = true)))

end Go.Proofs.YtdcjogpkogidaaaGreatDoor

namespace Go.Proofs.YtdcjogpkogidaaaGreatDoor

end Go.Proofs.YtdcjogpkogidaaaGreatDoor

namespace Go.Proofs.YtdcjogpkogidaaaGreatDoor

end Go.Proofs.YtdcjogpkogidaaaGreatDoor

namespace Go.Proofs.YtdcjogpkogidaaaGreatDoor

/-- What is wrong with the names of the i-th line. -/
def cAt (tab : List RT) (lines : List (ByteArray × PT)) (roots ats : List Nat) (i : Nat) : Option Nat :=
  orO (if ((lines.take i).map (·.1)).any (fun z => decide (z = textAt (lines.map (·.1)) i)) = true then some (numAt ats i) else none) (vOf (lines.take i) tab (numAt roots i)).2
def eAt (tab : List RT) (lines : List (ByteArray × PT)) (roots ats : List Nat) (i : Nat) : Option Nat :=
  if 12 < (vOf (lines.take i) tab (numAt roots i)).1.depth then some (numAt ats i) else none
def firstOf (c : Nat → Option Nat) : Nat → Option Nat
  | 0 => none
  | k + 1 => orO (firstOf c k) (c k)

/-- The i-th line's rows. -/
def Seg (tab : List RT) (lines : List (ByteArray × PT)) (roots : List Nat) (i : Nat) : Prop :=
  ∃ lo, lo ≤ numAt roots i ∧ numAt roots i < tab.length ∧ RowsOK lo (tab.take (numAt roots i + 1)) ∧ (∀ j, j < i → numAt roots j < lo) ∧ (∃ q, lines[i]? = some q ∧ q.2 = (vOf (lines.take i) tab (numAt roots i)).1)

structure Inv (d : RD) (lines : List (ByteArray × PT)) (bad deep : Option Nat) : Prop where
  nms : d.lines = lines.map (·.1)
  la : d.ats.length = lines.length
  lr : d.roots.length = lines.length
  seg : ∀ i, i < lines.length → Seg d.tab lines d.roots i
  bad : bad = firstOf (cAt d.tab lines d.roots d.ats) lines.length
  deep : deep = firstOf (eAt d.tab lines d.roots d.ats) lines.length
  wf : W1 d.tab
  em : ∀ x, (rowAt d.tab x).kind = 11 → (rowAt d.tab x).of = []

theorem RowsOK.take {lo : Nat} {tab : List RT} (h : RowsOK lo tab) (m : Nat) : RowsOK lo (tab.take m) := by
  intro x hlo hx
  rw [List.length_take] at hx
  have e : rowAt (tab.take m) x = rowAt tab x := by unfold rowAt; rw [List.getElem?_take_of_lt (by omega)]
  rw [e]
  exact h x hlo (by omega)

end Go.Proofs.YtdcjogpkogidaaaGreatDoor

namespace Go.Proofs.YtdcjogpkogidaaaGreatDoor

theorem Inv.nil (n : Nat) (b : Bool) : Inv ⟨n, b, [], [], [], []⟩ [] none none := by
  refine ⟨rfl, rfl, rfl, fun i hi => by simp at hi, rfl, rfl, fun x t h => by simp at h, fun x _ => rfl⟩

end Go.Proofs.YtdcjogpkogidaaaGreatDoor

namespace Go.Proofs.YtdcjogpkogidaaaGreatDoor

def dOf (tb : List RT) (x : Nat) : Nat := depthOf (rDepths tb x) (rowAt tb x)
/-- The same table, but that rows of names may have been told what they stand for. -/
structure Ext (tb tb' : List RT) : Prop where
  len : tb'.length = tb.length
  row : ∀ y, (rowAt tb' y).kind = (rowAt tb y).kind ∧ (rowAt tb' y).names = (rowAt tb y).names ∧ (rowAt tb' y).ats = (rowAt tb y).ats ∧ (((rowAt tb y).kind = 11 ∧ (rowAt tb y).of = []) ∨ (rowAt tb' y).of = (rowAt tb y).of)
theorem Ext.refl (tb : List RT) : Ext tb tb := ⟨rfl, fun _ => ⟨rfl, rfl, rfl, .inr rfl⟩⟩
theorem Ext.trans {a b c : List RT} (h : Ext a b) (k : Ext b c) : Ext a c := by
  refine ⟨k.len.trans h.len, fun y => ?_⟩
  obtain ⟨h1, h2, h3, h4⟩ := h.row y
  obtain ⟨k1, k2, k3, k4⟩ := k.row y
  refine ⟨k1.trans h1, k2.trans h2, k3.trans h3, ?_⟩
  rcases h4 with h4 | h4
  · exact .inl h4
  · rcases k4 with ⟨k4, k5⟩ | k4
    · exact .inl ⟨h1.symm.trans k4, h4.symm.trans k5⟩
    · exact .inr (k4.trans h4)
theorem RT.eq {a b : RT} (h1 : a.kind = b.kind) (h2 : a.of = b.of) (h3 : a.names = b.names) (h4 : a.ats = b.ats) : a = b := by
  cases a; cases b; simp at *; exact ⟨h1, h2, h3, h4⟩
theorem Ext.same {a b : List RT} (h : Ext a b) {x : Nat} (hk : (rowAt a x).kind ≠ 11) : rowAt b x = rowAt a x := by
  obtain ⟨h1, h2, h3, h4⟩ := h.row x
  rcases h4 with ⟨h4, _⟩ | h4
  · exact absurd h4 hk
  · exact RT.eq h1 h4 h2 h3
/-- What the x-th type of a table stands for. -/
inductive Is (tb : List RT) : Nat → PT → Prop
  | name {x y : Nat} {t : PT} : x < tb.length → (rowAt tb x).kind = 11 → (rowAt tb x).of = [y] → y < x → Is tb y t → Is tb x t
  | row {x : Nat} {t : PT} : x < tb.length → (rowAt tb x).kind ≠ 11 → (rowAt tb x).kind = t.kind → namesR (rowAt tb x) = t.names → (rowAt tb x).of.length = t.subs.length → (9 ≤ (rowAt tb x).kind → (rowAt tb x).names.length = (rowAt tb x).of.length) →
      (∀ i, i < t.subs.length → Is tb (numAt (rowAt tb x).of i) ((t.subs[i]?).getD PT.dummy)) → Is tb x t

def Dn (v : PT) (tb : List RT) (x : Nat) : Prop := ∀ tb', Ext tb tb' → dOf tb' x = v.depth ∧ Is tb' x v
theorem Dn.keep {v : PT} {tb tb' : List RT} {x : Nat} (h : Dn v tb x) (e : Ext tb tb') : Dn v tb' x := fun t k => h t (e.trans k)

end Go.Proofs.YtdcjogpkogidaaaGreatDoor

namespace Go.Proofs.YtdcjogpkogidaaaGreatDoor

end Go.Proofs.YtdcjogpkogidaaaGreatDoor
end
section
namespace Go.Proofs.YtdcjogpkogidaaaGreatDoor
open Go.RowKit

/-- A description in memory, all of it below B. -/
def DF (w : World) (B db : Nat) (tab : List RT) (roots : List Nat) : Prop :=
  ∃ (w0 : World) (X : Nat → Prop) (s : ByteArray) (n : Nat) (tv lv av rv : Value) (lines : List ByteArray) (ats : List Nat) (B0 : Nat), w0.heap.size ≤ B ∧ Fr (From B) w0 w ∧ DS w0 X db s n false tv lv av rv tab ∧ LD w0 B0 lv av rv lines ats roots

theorem DF.keep {w w' : World} {B db : Nat} {tab : List RT} {roots : List Nat} (h : DF w B db tab roots) (hf : Fr (From B) w w') : DF w' B db tab roots := by
  obtain ⟨w0, X, s, n, tv, lv, av, rv, lines, ats, B0, h1, h2, h3, h4⟩ := h
  exact ⟨w0, X, s, n, tv, lv, av, rv, lines, ats, B0, h1, h2.trans hf, h3, h4⟩

theorem Fr.cellB {w0 w : World} {B : Nat} (hB : w0.heap.size ≤ B) (hf : Fr (From B) w0 w) {a : Addr} {v : Value} (h : w0.cell? a = some v) : w.cell? a = some v := by
  have hl := World.block_lt_of_cell? w0 _ h
  rw [hf.cell hl (fun e => by unfold From at e; omega)]
  exact h

theorem DF.row {w : World} {B db : Nat} {tab : List RT} {roots : List Nat} (h : DF w B db tab roots) {x : Nat} (hx : x < tab.length) :
    ∃ (g cap : Nat) (o nv a : Value), w.cell? ⟨db, 2, none⟩ = some (.slice (some ⟨g, 0, none⟩) tab.length cap) ∧ w.cell? ⟨g, x * 4, none⟩ = some (.int .i64 (rowAt tab x).kind) ∧ w.cell? ⟨g, x * 4 + 1, none⟩ = some o ∧ w.cell? ⟨g, x * 4 + 2, none⟩ = some nv ∧ w.cell? ⟨g, x * 4 + 3, none⟩ = some a ∧
      RTR w (From B) ⟨(rowAt tab x).kind, o, nv, a⟩ (rowAt tab x) := by
  obtain ⟨w0, X, s, n, tv, lv, av, rv, lines, ats, B0, h1, h2, h3, h4⟩ := h
  obtain ⟨g, cap, o, nv, a, e1, e2, e3, e4, e5, e6, _⟩ := h3.row hx
  have c2 := h3.1.at2
  rw [e1] at c2
  exact ⟨g, cap, o, nv, a, h2.cellB h1 c2, h2.cellB h1 e2, h2.cellB h1 e3, h2.cellB h1 e4, h2.cellB h1 e5, (e6.avoid (Y := From B) (fun b hb hy => by unfold From at hy; omega)).keep h2⟩

theorem Is.lt {tab : List RT} {x : Nat} {t : PT} (h : Is tab x t) : x < tab.length := by cases h <;> assumption

end Go.Proofs.YtdcjogpkogidaaaGreatDoor

namespace Go.Proofs.YtdcjogpkogidaaaGreatDoor
open Go.RowKit

def numCells (l : List (Bs × Int)) : List Value := l.flatMap fun p => [.string (ba p.1), .int .i64 p.2]
def wayCells (l : List (Bs × Bs)) : List Value := l.flatMap fun p => [.string (ba p.1), .string (ba p.2)]

theorem numCells_snoc (l : List (Bs × Int)) (p : Bs × Int) : numCells (l ++ [p]) = numCells l ++ [.string (ba p.1), .int .i64 p.2] := by simp [numCells]
/-- The reader's block: what is left, whether it can stand. -/
structure KB (w : World) (tb db : Nat) (s : ByteArray) (l : Bs) (bad : Bool) (nv wv : Value) : Prop where
  len : l.length ≤ s.size
  tail : tl s (pos s l) = l
  block : w.heap[tb]? = some (.cells #[.pointer (some ⟨db, 0, none⟩), .string s, .int .i64 (pos s l), .bool bad, nv, wv] 183 (0, 0))

section
variable {w w' : World} {tb db : Nat} {s : ByteArray} {l : Bs} {bad : Bool} {nv wv : Value}
theorem KB.at0 (h : KB w tb db s l bad nv wv) : w.cell? ⟨tb, 0, none⟩ = some (.pointer (some ⟨db, 0, none⟩)) := by rw [cell_of_heap h.block]; rfl
theorem KB.at1 (h : KB w tb db s l bad nv wv) : w.cell? ⟨tb, 1, none⟩ = some (.string s) := by rw [cell_of_heap h.block]; rfl
theorem KB.at2 (h : KB w tb db s l bad nv wv) : w.cell? ⟨tb, 2, none⟩ = some (.int .i64 (pos s l)) := by rw [cell_of_heap h.block]; rfl
theorem KB.at3 (h : KB w tb db s l bad nv wv) : w.cell? ⟨tb, 3, none⟩ = some (.bool bad) := by rw [cell_of_heap h.block]; rfl
theorem KB.at4 (h : KB w tb db s l bad nv wv) : w.cell? ⟨tb, 4, none⟩ = some nv := by rw [cell_of_heap h.block]; rfl
theorem KB.at5 (h : KB w tb db s l bad nv wv) : w.cell? ⟨tb, 5, none⟩ = some wv := by rw [cell_of_heap h.block]; rfl
theorem KB.free (h : KB w tb db s l bad nv wv) (o : Nat) : w.frozen? ⟨tb, o, none⟩ = false := free_of_heap h.block
theorem KB.lt (h : KB w tb db s l bad nv wv) : tb < w.heap.size := lt_of_heap h.block
theorem KB.keep (h : KB w tb db s l bad nv wv) {X : Nat → Prop} (hf : Fr X w w') (hx : ¬ X tb) : KB w' tb db s l bad nv wv := ⟨h.len, h.tail, hf.keep h.block hx⟩
theorem KB.posle (_h : KB w tb db s l bad nv wv) : pos s l ≤ s.size := Nat.sub_le _ _
theorem KB.next {b : UInt8} {r : Bs} (h : KB w tb db s (b :: r) bad nv wv) : pos s (b :: r) < s.size ∧ pos s r = pos s (b :: r) + 1 ∧ tl s (pos s r) = r ∧ (∀ hn : pos s (b :: r) < s.size, s[pos s (b :: r)] = b) := by
  have hl := h.len
  have ht := h.tail
  simp only [List.length_cons] at hl
  have hp : pos s (b :: r) < s.size := by simp only [pos, List.length_cons]; omega
  have hp1 : pos s r = pos s (b :: r) + 1 := by simp only [pos, List.length_cons]; omega
  rw [tl_cons hp] at ht
  simp only [List.cons.injEq] at ht
  exact ⟨hp, hp1, by rw [hp1]; exact ht.2, fun _ => ht.1⟩
theorem KB.end (h : KB w tb db s [] bad nv wv) : pos s [] = s.size := by have := h.len; simp [pos]
theorem KB.move {r : Bs} (h : KB w tb db s l bad nv wv) (hl : r.length ≤ s.size) (ht : tl s (pos s r) = r) : KB (w.setCell ⟨tb, 2, none⟩ (.int .i64 (pos s r))) tb db s r bad nv wv := by
  refine ⟨hl, ht, ?_⟩
  rw [heap_setCell_same h.block]; rfl
theorem KB.nums (h : KB w tb db s l bad nv wv) (v : Value) : KB (w.setCell ⟨tb, 4, none⟩ v) tb db s l bad v wv := by
  refine ⟨h.len, h.tail, ?_⟩
  rw [heap_setCell_same h.block]; rfl
theorem KB.ways (h : KB w tb db s l bad nv wv) (v : Value) : KB (w.setCell ⟨tb, 5, none⟩ v) tb db s l bad nv v := by
  refine ⟨h.len, h.tail, ?_⟩
  rw [heap_setCell_same h.block]; rfl
end

/-- The reader, and what it has told: all from B on. -/
def KS (w : World) (B tb db : Nat) (s : ByteArray) (l : Bs) (bad : Bool) (nums : List (Bs × Int)) (ways : List (Bs × Bs)) : Prop :=
  ∃ nv wv, KB w tb db s l bad nv wv ∧ B ≤ tb ∧ w.ownsRow B 314 2 nv nums.length (numCells nums) ∧ w.ownsRow B 179 2 wv ways.length (wayCells ways)

theorem own_ne {w : World} {base k n : Nat} {e ty : TypeId} {v : Value} {xs : List Value} {tb : Nat} {cs : Array Value} {fz : Nat × Nat} (h : w.ownsRow base e k v n xs) (hb : w.heap[tb]? = some (.cells cs ty fz)) (hne : e ≠ ty) : v.ownBlock ≠ some tb := fun hg => by
  rcases h.2 with ⟨rfl, _⟩ | ⟨g, cap, cur, rfl, _, hg2, _⟩
  · simp [Value.ownBlock] at hg
  · simp [Value.ownBlock] at hg
    subst hg
    rw [hb] at hg2
    simp at hg2
    exact hne hg2.2.1.symm

/-- The reader's own cells may be written; what it has told stays. -/
theorem KS.cells {w w' : World} {B tb db : Nat} {s : ByteArray} {l r : Bs} {bad bad' : Bool} {nums : List (Bs × Int)} {ways : List (Bs × Bs)} (h : KS w B tb db s l bad nums ways)
    (hk : ∀ nv wv, KB w tb db s l bad nv wv → KB w' tb db s r bad' nv wv) (hf : Fr (One tb) w w') : KS w' B tb db s r bad' nums ways := by
  obtain ⟨nv, wv, h1, h2, h3, h4⟩ := h
  exact ⟨nv, wv, hk nv wv h1, h2, ownsRow_keep h3 hf (fun g hg e => own_ne h3 h1.block (by decide) (by rw [hg]; exact congrArg some e)), ownsRow_keep h4 hf (fun g hg e => own_ne h4 h1.block (by decide) (by rw [hg]; exact congrArg some e))⟩

/-- What a call of the reader may write: its own block, what it has told. -/
def KX (w : World) (tb : Nat) : Nat → Prop := fun k => k = tb ∨ (∃ v, w.cell? ⟨tb, 4, none⟩ = some v ∧ v.ownBlock = some k) ∨ (∃ v, w.cell? ⟨tb, 5, none⟩ = some v ∧ v.ownBlock = some k)
structure KFr (tb : Nat) (w w' : World) : Prop where
  fr : Fr (KX w tb) w w'
  own : ∀ k, k < w.heap.size → KX w' tb k → KX w tb k
theorem KFr.refl (tb : Nat) (w : World) : KFr tb w w := ⟨Fr.refl _ _, fun _ _ h => h⟩
theorem KFr.trans {tb : Nat} {a b c : World} (h : KFr tb a b) (k : KFr tb b c) : KFr tb a c :=
  ⟨⟨k.fr.os.trans h.fr.os, k.fr.tape.trans h.fr.tape, k.fr.output.trans h.fr.output, Nat.le_trans h.fr.size k.fr.size, fun i hi hx => (k.fr.block i (Nat.lt_of_lt_of_le hi h.fr.size) (fun e => hx (h.own i hi e))).trans (h.fr.block i hi hx)⟩,
    fun i hi e => h.own i hi (k.own i (Nat.lt_of_lt_of_le hi h.fr.size) e)⟩
theorem KX.same {w w' : World} {tb : Nat} (h4 : w'.cell? ⟨tb, 4, none⟩ = w.cell? ⟨tb, 4, none⟩) (h5 : w'.cell? ⟨tb, 5, none⟩ = w.cell? ⟨tb, 5, none⟩) (k : Nat) : KX w' tb k ↔ KX w tb k := by
  unfold KX; rw [h4, h5]
/-- Nothing of the reader is written. -/
theorem KFr.quiet {tb : Nat} {w w' : World} (hf : Fr Zero w w') (hb : tb < w.heap.size) : KFr tb w w' :=
  ⟨hf.of0, fun k _ h => (KX.same (hf.cell hb (fun h => h)) (hf.cell hb (fun h => h)) k).1 h⟩
/-- The reader's own cells are written, but not those of what it has told. -/
theorem KFr.cells {tb db db' : Nat} {w w' : World} {s s' : ByteArray} {l r : Bs} {bad bad' : Bool} {nv wv : Value} (h : KB w tb db s l bad nv wv) (h' : KB w' tb db' s' r bad' nv wv) (hf : Fr (One tb) w w') : KFr tb w w' :=
  ⟨hf.mono (fun _k _ e => .inl e), fun k _ e => (KX.same (h'.at4.trans h.at4.symm) (h'.at5.trans h.at5.symm) k).1 e⟩
theorem KX.of {w : World} {tb db : Nat} {s : ByteArray} {l : Bs} {bad : Bool} {nv wv : Value} (h : KB w tb db s l bad nv wv) {k : Nat} (hk : KX w tb k) : k = tb ∨ nv.ownBlock = some k ∨ wv.ownBlock = some k := by
  rcases hk with e | ⟨v, e1, e2⟩ | ⟨v, e1, e2⟩
  · exact .inl e
  · rw [h.at4] at e1; simp at e1; subst e1; exact .inr (.inl e2)
  · rw [h.at5] at e1; simp at e1; subst e1; exact .inr (.inr e2)
theorem KS.from {w : World} {B tb db : Nat} {s : ByteArray} {l : Bs} {bad : Bool} {nums : List (Bs × Int)} {ways : List (Bs × Bs)} (h : KS w B tb db s l bad nums ways) {k : Nat} (hk : KX w tb k) : B ≤ k := by
  obtain ⟨nv, wv, h1, h2, h3, h4⟩ := h
  rcases KX.of h1 hk with e | e | e
  · omega
  · exact (h3.lt k e).1
  · exact (h4.lt k e).1
theorem KS.lt {w : World} {B tb db : Nat} {s : ByteArray} {l : Bs} {bad : Bool} {nums : List (Bs × Int)} {ways : List (Bs × Bs)} (h : KS w B tb db s l bad nums ways) : tb < w.heap.size := by
  obtain ⟨nv, wv, h1, _⟩ := h; exact h1.lt
theorem KS.len {w : World} {B tb db : Nat} {s : ByteArray} {l : Bs} {bad : Bool} {nums : List (Bs × Int)} {ways : List (Bs × Bs)} (h : KS w B tb db s l bad nums ways) : l.length ≤ s.size := by
  obtain ⟨nv, wv, h1, _⟩ := h; exact h1.len
/-- A quiet call keeps the reader. -/
theorem KS.quiet {w w' : World} {B tb db : Nat} {s : ByteArray} {l : Bs} {bad : Bool} {nums : List (Bs × Int)} {ways : List (Bs × Bs)} (h : KS w B tb db s l bad nums ways) (hf : Fr Zero w w') : KS w' B tb db s l bad nums ways := by
  obtain ⟨nv, wv, h1, h2, h3, h4⟩ := h
  exact ⟨nv, wv, h1.keep hf (fun h => h), h2, ownsRow_keep h3 hf (fun g _ h => h), ownsRow_keep h4 hf (fun g _ h => h)⟩

end Go.Proofs.YtdcjogpkogidaaaGreatDoor

namespace Go.Proofs.YtdcjogpkogidaaaGreatDoor
open Go.RowKit

/-- What a call may write that keeps a row of its own: the reader's block, and new ones. -/
def TX (tb : Nat) (w : World) : Nat → Prop := fun k => k = tb ∨ w.heap.size ≤ k
theorem Fr.tx {tb : Nat} {w w' : World} (h : Fr (One tb) w w') : Fr (TX tb w) w w' := h.mono (fun _ _ e => .inl e)
end Go.Proofs.YtdcjogpkogidaaaGreatDoor
end
section
namespace Go.Proofs.YtdcjogpkogidaaaGreatDoor
open Go.RowKit

end Go.Proofs.YtdcjogpkogidaaaGreatDoor

namespace Go.Proofs.YtdcjogpkogidaaaGreatDoor
open Go.RowKit

/-- The reader's block is there, with what stands in it. -/
theorem KS.block {w : World} {B tb db : Nat} {s : ByteArray} {l : Bs} {bad : Bool} {nums : List (Bs × Int)} {ways : List (Bs × Bs)} (h : KS w B tb db s l bad nums ways) : ∃ nv wv, KB w tb db s l bad nv wv := by
  obtain ⟨nv, wv, h1, _⟩ := h
  exact ⟨nv, wv, h1⟩

end Go.Proofs.YtdcjogpkogidaaaGreatDoor

namespace Go.Proofs.YtdcjogpkogidaaaGreatDoor
open Go.RowKit

end Go.Proofs.YtdcjogpkogidaaaGreatDoor
end
