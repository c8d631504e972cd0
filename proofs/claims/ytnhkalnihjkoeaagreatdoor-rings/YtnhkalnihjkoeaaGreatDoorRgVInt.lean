/- How numbers are written as text. -/
import Derived.Shelf.LaysM
import Derived.Shelf.Strconv.AppendIntPublic10
import Derived.Test.YtnhkalnihjkoeaaGreatDoorProg
import Derived.Test.YtnhkalnihjkoeaaGreatDoorRgVOut
namespace Go.Proofs.YtnhkalnihjkoeaaGreatDoor
open Go.RowKit

/-- The library's table of powers, in memory. -/
def PowT (w : World) : Prop := Lib.TabIs Tryz.prog w "internal/strconv.uint64pow10" .u64 Lib.pow10Tab
theorem gPow : Tryz.prog.globalNamed "internal/strconv.uint64pow10" = some 5 := by kernel_rfl
theorem PowT.heap {w w' : World} (h : PowT w) (e : w'.heap[5]? = w.heap[5]?) : PowT w' := by
  unfold PowT Lib.TabIs World.var? at *
  simp only [gPow, Option.bind_some] at h ⊢
  rw [e]
  exact h
theorem PowT.lt {w : World} (h : PowT w) : 5 < w.heap.size := by
  unfold PowT Lib.TabIs World.var? at h
  simp only [gPow, Option.bind_some] at h
  rcases Nat.lt_or_ge 5 w.heap.size with h' | h'
  · exact h'
  · rw [Array.getElem?_eq_none h'] at h; simp at h
theorem PowT.keep {X : Nat → Prop} {w w' : World} (h : PowT w) (hf : Fr X w w') (hx : ¬ X 5) : PowT w' := h.heap (hf.block _ h.lt hx)
end Go.Proofs.YtnhkalnihjkoeaaGreatDoor
