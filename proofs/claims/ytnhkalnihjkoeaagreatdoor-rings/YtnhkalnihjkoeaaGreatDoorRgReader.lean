/- What the calls of a row's reader do to the two cells of a reader in memory: the place and the bytes. What Since tells. Types as trees, what a call keeps of memory, a parser in memory, and its reader's calls there. What the parser's letters tells, and where it stands then. -/
import Derived.Test.YtnhkalnihjkoeaaGreatDoorProg
import Derived.WalkKit
import Derived.WalkSpells
import Derived.Deep.QuietTactic
import Derived.BigQuiet
namespace Go.Proofs.YtnhkalnihjkoeaaGreatDoor
open Go.RowKit

theorem hide {p : Prop} (h : p) : Hid p := h
theorem at_any (b : Nat) (n : Int) (w : World) (hat : w.cell? ⟨b, 0, none⟩ = some (.int .i64 n)) :
    Calls Tryz.prog 111 #[.pointer (some ⟨b, 0, none⟩)] w fun e w' => e = .returned (.int .i64 n) ∧ w' = w := by
  go_enter Tryz.func111, Tryz.ntmps111
  go_wp2
  go_ret
  exact ⟨rfl, rfl⟩

theorem step_any (b : Nat) (n k : Int) (w : World) (hat : w.cell? ⟨b, 0, none⟩ = some (.int .i64 n)) (hfz : w.frozen? ⟨b, 0, none⟩ = false)
    (h0 : 0 ≤ n + k) (h1 : n + k ≤ 9223372036854775807) :
    Calls Tryz.prog 263 #[.pointer (some ⟨b, 0, none⟩), .int .i64 k] w fun e w' => e = .returned (.tuple #[]) ∧ w' = w.setCell ⟨b, 0, none⟩ (.int .i64 (n + k)) := by
  go_enter Tryz.func263, Tryz.ntmps263
  go_wp2
  go_end0
  exact ⟨rfl, rfl⟩

end Go.Proofs.YtnhkalnihjkoeaaGreatDoor

namespace Go.Proofs.YtnhkalnihjkoeaaGreatDoor
open Go.RowKit

end Go.Proofs.YtnhkalnihjkoeaaGreatDoor

namespace Go.Proofs.YtnhkalnihjkoeaaGreatDoor
open Go.RowKit

/-- All blocks that were there, but those of X, are as they were. -/
structure Fr (X : Nat → Prop) (w w' : World) : Prop where
  os : w'.os = w.os
  tape : w'.tape = w.tape
  output : w'.output = w.output
  size : w.heap.size ≤ w'.heap.size
  block : ∀ k, k < w.heap.size → ¬ X k → w'.heap[k]? = w.heap[k]?

def One (b : Nat) : Nat → Prop := fun k => k = b
def Zero : Nat → Prop := fun _ => False

theorem Fr.refl (X : Nat → Prop) (w : World) : Fr X w w := ⟨rfl, rfl, rfl, Nat.le_refl _, fun _ _ _ => rfl⟩
theorem Fr.trans {X : Nat → Prop} {a b c : World} (h : Fr X a b) (k : Fr X b c) : Fr X a c :=
  ⟨k.os.trans h.os, k.tape.trans h.tape, k.output.trans h.output, Nat.le_trans h.size k.size, fun i hi hx => (k.block i (Nat.lt_of_lt_of_le hi h.size) hx).trans (h.block i hi hx)⟩
theorem Fr.mono {X Y : Nat → Prop} {a b : World} (h : Fr X a b) (hx : ∀ k, k < a.heap.size → X k → Y k) : Fr Y a b :=
  ⟨h.os, h.tape, h.output, h.size, fun i hi hy => h.block i hi (fun e => hy (hx i hi e))⟩
theorem Fr.of0 {X : Nat → Prop} {a b : World} (h : Fr Zero a b) : Fr X a b := h.mono (fun _ _ e => e.elim)
theorem Fr.below {X : Nat → Prop} {a b : World} (h : Fr X a b) {B : Nat} (hB : B ≤ a.heap.size) (hx : ∀ k, X k → B ≤ k) : Below B a b :=
  ⟨h.os, h.tape, h.output, h.size, fun i hi => h.block i (by omega) (fun e => by have := hx i e; omega)⟩
theorem Fr.drewN (X : Nat → Prop) (w : World) (k : Nat) : Fr X w (w.drewN k) := ⟨rfl, rfl, rfl, Nat.le_refl _, fun _ _ _ => rfl⟩
theorem Fr.alloc (X : Nat → Prop) (w : World) (o : Obj) : Fr X w (w.alloc o) := ⟨rfl, rfl, rfl, by simp, fun i hi _ => Below.heap_alloc _ _ _ hi⟩
theorem Fr.setCell (X : Nat → Prop) (w : World) (a : Addr) (v : Value) (hx : X a.block) : Fr X w (w.setCell a v) :=
  ⟨rfl, rfl, rfl, by simp [World.setCell], fun i _ hi => Below.heap_setCell _ _ _ _ (fun e => hi (e ▸ hx))⟩
theorem Fr.grown {X : Nat → Prop} {w w' : World} {row : Option Nat} (hg : w.grownBy w' row) (hr : ∀ k, row = some k → k < w.heap.size → X k) : Fr X w w' :=
  ⟨hg.os, hg.tape, hg.output, hg.size, fun i hi hx => hg.block i hi (fun e => hx (hr i e.symm hi))⟩
theorem lt_of_heap {w : World} {b : Nat} {o : Obj} (h : w.heap[b]? = some o) : b < w.heap.size := by
  rcases Nat.lt_or_ge b w.heap.size with h' | h'
  · exact h'
  · rw [Array.getElem?_eq_none h'] at h; cases h
theorem Fr.keep {X : Nat → Prop} {w w' : World} (h : Fr X w w') {b : Nat} {o : Obj} (hb : w.heap[b]? = some o) (hx : ¬ X b) : w'.heap[b]? = some o :=
  (h.block b (lt_of_heap hb) hx).trans hb
theorem Fr.cell {X : Nat → Prop} {w w' : World} (h : Fr X w w') {a : Addr} (hb : a.block < w.heap.size) (hx : ¬ X a.block) : w'.cell? a = w.cell? a :=
  World.cell?_of_block (h.block _ hb hx)
theorem heap_setCell_same {w : World} {b o : Nat} {v : Value} {c : Array Value} {t : TypeId} {f : Nat × Nat} (h : w.heap[b]? = some (.cells c t f)) :
    (w.setCell ⟨b, o, none⟩ v).heap[b]? = some (.cells (c.setIfInBounds o v) t f) := by
  simp [World.setCell, Array.getElem?_modify, h]
theorem cell_of_heap {w : World} {b o : Nat} {c : Array Value} {t : TypeId} {f : Nat × Nat} (h : w.heap[b]? = some (.cells c t f)) : w.cell? ⟨b, o, none⟩ = c[o]? := by
  simp [World.cell?, h]
theorem free_of_heap {w : World} {b o : Nat} {c : Array Value} {t : TypeId} (h : w.heap[b]? = some (.cells c t (0, 0))) : w.frozen? ⟨b, o, none⟩ = false := by
  simp [World.frozen?, h]

theorem heap_new_at {w : World} {k : Nat} (h : w.heap.size = k) (o : Obj) : (w.alloc o).heap[k]? = some o := by
  subst h; exact heap_alloc_new w o

/-- A parser in memory. -/
def PB (w : World) (pb : Nat) (s : ByteArray) (n : Nat) (lv bn td : Value) : Prop :=
  w.heap[pb]? = some (.cells #[.int .i64 n, .string s, lv, bn, td] 216 (0, 0))

section
variable {w w' : World} {pb : Nat} {s : ByteArray} {n : Nat} {lv bn td : Value}
theorem PB.at0 (h : PB w pb s n lv bn td) : w.cell? ⟨pb, 0, none⟩ = some (.int .i64 n) := by rw [cell_of_heap h]; rfl
theorem PB.at1 (h : PB w pb s n lv bn td) : w.cell? ⟨pb, 1, none⟩ = some (.string s) := by rw [cell_of_heap h]; rfl
theorem PB.at2 (h : PB w pb s n lv bn td) : w.cell? ⟨pb, 2, none⟩ = some lv := by rw [cell_of_heap h]; rfl
theorem PB.at3 (h : PB w pb s n lv bn td) : w.cell? ⟨pb, 3, none⟩ = some bn := by rw [cell_of_heap h]; rfl
theorem PB.at4 (h : PB w pb s n lv bn td) : w.cell? ⟨pb, 4, none⟩ = some td := by rw [cell_of_heap h]; rfl
theorem PB.free (h : PB w pb s n lv bn td) (o : Nat) : w.frozen? ⟨pb, o, none⟩ = false := free_of_heap h
theorem PB.drewN (h : PB w pb s n lv bn td) (k : Nat) : PB (w.drewN k) pb s n lv bn td := h
theorem PB.alloc (h : PB w pb s n lv bn td) (o : Obj) : PB (w.alloc o) pb s n lv bn td := by
  unfold PB; rw [Below.heap_alloc _ _ _ (lt_of_heap h)]; exact h
theorem PB.keep (h : PB w pb s n lv bn td) {X : Nat → Prop} (hf : Fr X w w') (hx : ¬ X pb) : PB w' pb s n lv bn td := hf.keep h hx
theorem PB.ne (h : PB w pb s n lv bn td) {b : Nat} {c : Array Value} {t : TypeId} {f : Nat × Nat} (hb : w.heap[b]? = some (.cells c t f)) (ht : t ≠ 216) : ¬ One pb b := by
  intro e
  have e' : b = pb := e
  subst e'
  unfold PB at h
  rw [h] at hb
  simp at hb
  exact ht hb.2.1.symm
end

end Go.Proofs.YtnhkalnihjkoeaaGreatDoor

namespace Go.Proofs.YtnhkalnihjkoeaaGreatDoor
open Go.RowKit

end Go.Proofs.YtnhkalnihjkoeaaGreatDoor
