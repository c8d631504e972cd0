/-
  DERIVED. GIVEN WITH THE SEED: THE CARDS: each row of YtdcjogpkogidaaaGreatDoorRows.lean that lists a variable, with what it lists TIED to the program's text (the seventh form; the later family's looks); each row that meets fmt, with fmt's text TOLD by the authors' own Lean function (tested against real Go, not proved from fmt's source: count such statements apart). THE CARD IS WHAT COUNTS. Prove the row's statement (the work); the ties are given (YtdcjogpkogidaaaGreatDoorTie.lean); close each card by the builder's one call (the guide's Derived/Test/ToyasCard.lean, 'card_holds'). Laid BY PROGRAM, IN A SANDBOX (cutbox-door.mjs). By AI agents, Wed Nov 11 2026. No macro, syntax, notation, axiom, sorry.
-/
import Derived.Test.YtdcjogpkogidaaaGreatDoorRows
import GoSem.ClaimSeven
namespace Go.Proofs.YtdcjogpkogidaaaGreatDoor
namespace Rows

/-- THE TIED CARD OF 'sluicekeep.Cut'. -/
def cutCard : Claim7 := { stood := { row := cutRow, standIns := [], harness := (true, "bf7d89ea7e02612453c696c52fe34ca8808e1b779e8ac2197ca94086e1350160"), looks := true }, kinds := [], alts := [], laidByText := true, laidKinds := [.data, .data, .data, .data, .handle, .data, .pinned], laidTests := true, laidLooks := .later }
def CutCardSaid : Prop := Claim7.holds Tryz.pinned (.plain (OpenSpec.ofChange cutSpec)) cutCard

/-- THE TIED CARD OF 'sluicelaw.Got'. -/
def gotCard : Claim7 := { stood := { row := gotRow, standIns := [], harness := (true, "bf7d89ea7e02612453c696c52fe34ca8808e1b779e8ac2197ca94086e1350160"), looks := true }, kinds := [], alts := [], laidByText := true, laidKinds := [.data, .data, .data, .data, .handle, .data, .pinned], laidTests := true, laidLooks := .later }
def GotCardSaid : Prop := Claim7.holds Tryz.pinned (.plain (OpenSpec.ofChange gotSpec)) gotCard

/-- THE TIED CARD OF 'sluicekeep.Made'. -/
def madeCard : Claim7 := { stood := { row := madeRow, standIns := [], harness := (true, "bf7d89ea7e02612453c696c52fe34ca8808e1b779e8ac2197ca94086e1350160"), looks := true }, kinds := [], alts := [], laidByText := true, laidKinds := [.data, .data, .data, .data, .handle, .data, .pinned], laidTests := true, laidLooks := .later }
def MadeCardSaid : Prop := Claim7.holds Tryz.pinned (.plain (OpenSpec.ofChange madeSpec)) madeCard

/-- THE TIED CARD OF 'sluicelaw.Rings'. -/
def ringsCard : Claim7 := { stood := { row := ringsRow, standIns := [], harness := (true, "bf7d89ea7e02612453c696c52fe34ca8808e1b779e8ac2197ca94086e1350160"), looks := true }, kinds := [], alts := [], laidByText := true, laidKinds := [.data, .data, .data, .data, .handle, .data, .pinned], laidTests := true, laidLooks := .later }
def RingsCardSaid : Prop := Claim7.holds Tryz.pinned (.plain (OpenSpec.ofChange ringsSpec)) ringsCard

/-- THE SECOND FORM's CARD OF 'sluicekeep.Cut'. -/
def cutUptoCard : Claim7 := { stood := { row := cutUptoRow, standIns := [], harness := (true, "bf7d89ea7e02612453c696c52fe34ca8808e1b779e8ac2197ca94086e1350160"), looks := true }, kinds := [], alts := [], laidByText := true, laidKinds := [.data, .data, .data, .data, .handle, .data, .pinned], laidTests := true, laidLooks := .later }
def CutUptoCardSaid : Prop := Claim7.holds Tryz.pinned (.plain (OpenSpec.upto cutSpec)) cutUptoCard

/-- THE SECOND FORM's CARD OF 'sluicelaw.Got'. -/
def gotUptoCard : Claim7 := { stood := { row := gotUptoRow, standIns := [], harness := (true, "bf7d89ea7e02612453c696c52fe34ca8808e1b779e8ac2197ca94086e1350160"), looks := true }, kinds := [], alts := [], laidByText := true, laidKinds := [.data, .data, .data, .data, .handle, .data, .pinned], laidTests := true, laidLooks := .later }
def GotUptoCardSaid : Prop := Claim7.holds Tryz.pinned (.plain (OpenSpec.upto gotSpec)) gotUptoCard

/-- THE SECOND FORM's CARD OF 'sluicekeep.Made'. -/
def madeUptoCard : Claim7 := { stood := { row := madeUptoRow, standIns := [], harness := (true, "bf7d89ea7e02612453c696c52fe34ca8808e1b779e8ac2197ca94086e1350160"), looks := true }, kinds := [], alts := [], laidByText := true, laidKinds := [.data, .data, .data, .data, .handle, .data, .pinned], laidTests := true, laidLooks := .later }
def MadeUptoCardSaid : Prop := Claim7.holds Tryz.pinned (.plain (OpenSpec.upto madeSpec)) madeUptoCard

/-- THE SECOND FORM's CARD OF 'sluicelaw.Rings'. -/
def ringsUptoCard : Claim7 := { stood := { row := ringsUptoRow, standIns := [], harness := (true, "bf7d89ea7e02612453c696c52fe34ca8808e1b779e8ac2197ca94086e1350160"), looks := true }, kinds := [], alts := [], laidByText := true, laidKinds := [.data, .data, .data, .data, .handle, .data, .pinned], laidTests := true, laidLooks := .later }
def RingsUptoCardSaid : Prop := Claim7.holds Tryz.pinned (.plain (OpenSpec.upto ringsSpec)) ringsUptoCard
end Rows
end Go.Proofs.YtdcjogpkogidaaaGreatDoor
