/- errors.As at a refusal of a description: a nil error is none; a refusal is taken apart. errors.As at a refusal: it is set, and true is told. What parse and Check of package sluice tell. -/
import Derived.LaidEql
import Derived.Stop.Asserts
import Derived.RowKitTokens
import Derived.Test.YtnhkalnihjkoeaaGreatDoorRgParse
namespace Go.Proofs.YtnhkalnihjkoeaaGreatDoor
open Go.RowKit Go.Extern.Stop Go.Stop Go.Extern

end Go.Proofs.YtnhkalnihjkoeaaGreatDoor

namespace Go.Proofs.YtnhkalnihjkoeaaGreatDoor
open Go.RowKit Go.Extern.Stop Go.Stop Go.Extern

end Go.Proofs.YtnhkalnihjkoeaaGreatDoor

namespace Go.Proofs.YtnhkalnihjkoeaaGreatDoor
open Go.RowKit

/-- The variable errors.errorType, as it is laid. -/
def ErrT (w : World) : Prop := w.cell? ⟨0, 0, none⟩ = some (.iface 301 (.agg #[.pointer (some ⟨8, 125, none⟩)]))

theorem ErrT.keep {w w' : World} {X : Nat → Prop} (h : ErrT w) (hf : Fr X w w') (hx : ¬ X 0) : ErrT w' :=
  (hf.cell (a := ⟨0, 0, none⟩) (World.block_lt_of_cell? w _ h) hx).trans h

end Go.Proofs.YtnhkalnihjkoeaaGreatDoor
