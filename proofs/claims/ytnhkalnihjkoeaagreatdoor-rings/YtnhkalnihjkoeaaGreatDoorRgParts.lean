/- What parts does. What anyType does, by how much text is left. What line does. -/
import Derived.Deep.RegionLaw
import Derived.Test.YtnhkalnihjkoeaaGreatDoorRgState
namespace Go.Proofs.YtnhkalnihjkoeaaGreatDoor
open Go.RowKit

/-- X, and the array of a slice. -/
def XO (X : Nat → Prop) (v : Value) : Nat → Prop := fun k => X k ∨ v.ownBlock = some k

theorem Fr.past {X : Nat → Prop} {w w1 w2 : World} (h : Fr X w w1) (k : Fr (fun b => w.heap.size ≤ b) w1 w2) : Fr X w w2 :=
  ⟨k.os.trans h.os, k.tape.trans h.tape, k.output.trans h.output, Nat.le_trans h.size k.size, fun i hi hx => (k.block i (Nat.lt_of_lt_of_le hi h.size) (by intro h'; omega)).trans (h.block i hi hx)⟩

end Go.Proofs.YtnhkalnihjkoeaaGreatDoor

namespace Go.Proofs.YtnhkalnihjkoeaaGreatDoor
open Go.RowKit

end Go.Proofs.YtnhkalnihjkoeaaGreatDoor

namespace Go.Proofs.YtnhkalnihjkoeaaGreatDoor
open Go.RowKit

end Go.Proofs.YtnhkalnihjkoeaaGreatDoor
