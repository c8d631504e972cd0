/- The parser's small calls, told of the parser's whole state. What compound makes of a row of parts. What namedType, around and part do. What part does. -/
import Derived.Test.YtnhkalnihjkoeaaGreatDoorRgWordType
namespace Go.Proofs.YtnhkalnihjkoeaaGreatDoor
open Go.RowKit

theorem PS.at0 {w : World} {X : Nat → Prop} {pb : Nat} {s : ByteArray} {n : Nat} {lv : Value} {lines : List (ByteArray × PT)} {bad deep : Option Nat} (h : PS w X pb s n lv lines bad deep) : w.cell? ⟨pb, 0, none⟩ = some (.int .i64 n) := by
  obtain ⟨bn, td, rows, hP, _⟩ := h
  exact hP.at0

end Go.Proofs.YtnhkalnihjkoeaaGreatDoor

namespace Go.Proofs.YtnhkalnihjkoeaaGreatDoor
open Go.RowKit

theorem TR.depth {w : World} {X : Nat → Prop} {a : Addr} {t : PT} (h : TR w X a t) : ∃ b, a = ⟨b, 0, none⟩ ∧ b < w.heap.size ∧ ¬ X b ∧ w.cell? ⟨b, 2, none⟩ = some (.int .i64 t.depth) := by
  obtain ⟨k, h⟩ := h
  cases k with
  | zero => exact h.elim
  | succ k =>
    obtain ⟨b, sv, rows, h1, h2, h3, _⟩ := h
    exact ⟨b, h1, lt_of_heap h2, h3, by rw [cell_of_heap h2]; rfl⟩

end Go.Proofs.YtnhkalnihjkoeaaGreatDoor

namespace Go.Proofs.YtnhkalnihjkoeaaGreatDoor
open Go.RowKit

end Go.Proofs.YtnhkalnihjkoeaaGreatDoor

namespace Go.Proofs.YtnhkalnihjkoeaaGreatDoor
open Go.RowKit

theorem RefV.keepT {w w' : World} {errno : Int} {v : Value} {r : Option Nat} {rb : Nat} {c : Array Value} {t : TypeId} {fz : Nat × Nat} (h : RefV w errno v r) (hrb : w.heap[rb]? = some (.cells c t fz)) (ht : t ≠ 132) (hf : Fr (One rb) w w') : RefV w' errno v r := by
  cases r with
  | none => exact h
  | some m =>
    obtain ⟨b, hv, hb⟩ := h
    refine ⟨b, hv, hf.keep hb (fun e => ?_)⟩
    have e' : b = rb := e
    subst e'
    rw [hb] at hrb
    simp at hrb
    exact ht hrb.2.1.symm

theorem PS.other {w w' : World} {X : Nat → Prop} {pb rb : Nat} {s : ByteArray} {n : Nat} {lv : Value} {lines : List (ByteArray × PT)} {bad deep : Option Nat} {c : Array Value} {fz : Nat × Nat} (h : PS w X pb s n lv lines bad deep) (hrb : w.heap[rb]? = some (.cells c 218 fz)) (hXr : X rb) (hl : ∀ g, lv.ownBlock = some g → g ≠ rb) (hf : Fr (One rb) w w') : PS w' X pb s n lv lines bad deep := by
  obtain ⟨bn, td, rows, hP, hO, hlx, hL, hb, hd⟩ := h
  refine ⟨bn, td, rows, hf.keep hP (fun e => ?_), ownsRow_keep hO hf (fun g hg e => hl g hg e), hlx, hL.keep (hf.one hXr), hb.keepT hrb (by decide) hf, hd.keepT hrb (by decide) hf⟩
  have e' : pb = rb := e
  subst e'
  unfold PB at hP
  rw [hP] at hrb
  simp at hrb

/-- X, and one block more. -/
def More (X : Nat → Prop) (b : Nat) : Nat → Prop := fun k => X k ∨ k = b

theorem More.lt {X : Nat → Prop} {w : World} (hX : ∀ b, X b → b < w.heap.size) (o : Obj) : ∀ b, More X w.heap.size b → b < (w.alloc o).heap.size := by
  intro b hb
  rcases hb with h | h
  · have := hX b h; simp; omega
  · simp; omega
theorem More.old {X : Nat → Prop} {w : World} : ∀ b, b < w.heap.size → More X w.heap.size b → X b := by
  intro b hb h
  rcases h with h | h
  · exact h
  · omega

end Go.Proofs.YtnhkalnihjkoeaaGreatDoor
