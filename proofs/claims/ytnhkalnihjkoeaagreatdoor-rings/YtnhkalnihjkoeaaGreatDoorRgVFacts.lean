/- A row's closed facts, one by one: all at once they outgrow the memory that a build may take. -/
import Derived.Test.YtnhkalnihjkoeaaGreatDoorRgVLiftZ
namespace Go.Proofs.YtnhkalnihjkoeaaGreatDoor

theorem and_t {a b : Bool} (h1 : a = true) (h2 : b = true) : (a && b) = true := by rw [h1, h2]; rfl
theorem pLaidOut : laidOutB Tryz.checked.prog = true := by kernel_rfl
theorem pMapsRowed : mapsRowed Tryz.checked.prog = true := by kernel_rfl
theorem pStopsHeard : Tryz.checked.prog.stopsHeard = true := by kernel_rfl
theorem pMayEnter : Tryz.checked.prog.mayEnter = true := by kernel_rfl

end Go.Proofs.YtnhkalnihjkoeaaGreatDoor
