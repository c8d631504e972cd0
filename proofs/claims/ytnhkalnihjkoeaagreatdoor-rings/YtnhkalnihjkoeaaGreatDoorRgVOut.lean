/- How bytes are appended to a row of bytes: a byte, two, those of a string. -/
import Derived.Deep.AppendSrc
import Derived.Test.YtnhkalnihjkoeaaGreatDoorRgVText
import Derived.Test.YtnhkalnihjkoeaaGreatDoorRgVWrite
namespace Go.Proofs.YtnhkalnihjkoeaaGreatDoor
open Go.RowKit

/-- All from B on. -/
def From (B : Nat) : Nat → Prop := fun k => B ≤ k
end Go.Proofs.YtnhkalnihjkoeaaGreatDoor
