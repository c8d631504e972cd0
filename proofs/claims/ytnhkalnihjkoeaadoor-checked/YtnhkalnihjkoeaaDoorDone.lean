/- Proved: whatever two texts Checked is called with, it answers true, that is, Check tells of each text, and of the first once more, the same error and place as the plain reader tells, and the texts stay as they were; its condition is the card's own, that the listed package variables start as the program's text lays them. -/
import Derived.Test.YtnhkalnihjkoeaaDoorCard
import Derived.Test.YtnhkalnihjkoeaaDoorPure
namespace Go.Proofs.YtnhkalnihjkoeaaDoor

theorem checked_holds : Rows.CheckedCardSaid := checked_card agree

end Go.Proofs.YtnhkalnihjkoeaaDoor
