/-
  DERIVED. GIVEN WITH THE SEED: THE CARDS: each row of YtnhkalnihjkoeaaGreatDoorRows.lean that lists a variable, with what it lists TIED to the program's text (the seventh form; the later family's looks); each row that meets fmt, with fmt's text TOLD by the authors' own Lean function (tested against real Go, not proved from fmt's source: count such statements apart). THE CARD IS WHAT COUNTS. Prove the row's statement (the work); the ties are given (YtnhkalnihjkoeaaGreatDoorTie.lean); close each card by the builder's one call (the guide's Derived/Test/ToyasCard.lean, 'card_holds'). Laid BY PROGRAM, IN A SANDBOX (cutbox-door.mjs). By AI agents, Wed Nov 11 2026. No macro, syntax, notation, axiom, sorry.
-/
import Derived.Test.YtnhkalnihjkoeaaGreatDoorRows
import GoSem.ClaimSeven
namespace Go.Proofs.YtnhkalnihjkoeaaGreatDoor
namespace Rows

/-- THE TIED CARD OF 'sluicelaw.Encoded'. -/
def encodedCard : Claim7 := { stood := { row := encodedRow, standIns := [], harness := (true, "24e7c397d4dc7af5da3e5a68655773181295344857bef407342d266222f89096"), looks := true }, kinds := [], alts := [], goes := true, laidByText := true, laidKinds := [.handle, .data], laidTests := true, laidLooks := .later }
def EncodedCardSaid : Prop := Claim7.holds Tryz.pinned (.plain (OpenSpec.ofChange encodedSpec)) encodedCard

/-- THE TIED CARD OF 'sluicelaw.Decoded'. -/
def decodedCard : Claim7 := { stood := { row := decodedRow, standIns := [], harness := (true, "24e7c397d4dc7af5da3e5a68655773181295344857bef407342d266222f89096"), looks := true }, kinds := [], alts := [], goes := true, laidByText := true, laidKinds := [.data, .data, .data, .data, .handle, .data, .pinned], laidTests := true, laidLooks := .later }
def DecodedCardSaid : Prop := Claim7.holds Tryz.pinned (.plain (OpenSpec.ofChange decodedSpec)) decodedCard

/-- THE TIED CARD OF 'sluicekeep.Back'. -/
def backCard : Claim7 := { stood := { row := backRow, standIns := [], harness := (true, "24e7c397d4dc7af5da3e5a68655773181295344857bef407342d266222f89096"), looks := true }, kinds := [], alts := [], goes := true, laidByText := true, laidKinds := [.data, .data, .data, .data, .handle, .data, .pinned], laidTests := true, laidLooks := .later }
def BackCardSaid : Prop := Claim7.holds Tryz.pinned (.plain (OpenSpec.ofChange backSpec)) backCard

/-- THE TIED CARD OF 'sluicekeep.Cut'. -/
def cutCard : Claim7 := { stood := { row := cutRow, standIns := [], harness := (true, "24e7c397d4dc7af5da3e5a68655773181295344857bef407342d266222f89096"), looks := true }, kinds := [], alts := [], goes := true, laidByText := true, laidKinds := [.data, .data, .data, .data, .handle, .data, .pinned], laidTests := true, laidLooks := .later }
def CutCardSaid : Prop := Claim7.holds Tryz.pinned (.plain (OpenSpec.ofChange cutSpec)) cutCard

/-- THE TIED CARD OF 'sluicelaw.Got'. -/
def gotCard : Claim7 := { stood := { row := gotRow, standIns := [], harness := (true, "24e7c397d4dc7af5da3e5a68655773181295344857bef407342d266222f89096"), looks := true }, kinds := [], alts := [], goes := true, laidByText := true, laidKinds := [.data, .data, .data, .data, .handle, .data, .pinned], laidTests := true, laidLooks := .later }
def GotCardSaid : Prop := Claim7.holds Tryz.pinned (.plain (OpenSpec.ofChange gotSpec)) gotCard

/-- THE TIED CARD OF 'sluicelaw.Tallied'. -/
def talliedCard : Claim7 := { stood := { row := talliedRow, standIns := [], harness := (true, "24e7c397d4dc7af5da3e5a68655773181295344857bef407342d266222f89096"), looks := true }, kinds := [], alts := [], goes := true, laidByText := true, laidKinds := [.data, .data, .data, .handle, .data], laidTests := true, laidLooks := .later }
def TalliedCardSaid : Prop := Claim7.holds Tryz.pinned (.plain (OpenSpec.ofChange talliedSpec)) talliedCard

/-- THE TIED CARD OF 'sluicekeep.Made'. -/
def madeCard : Claim7 := { stood := { row := madeRow, standIns := [], harness := (true, "24e7c397d4dc7af5da3e5a68655773181295344857bef407342d266222f89096"), looks := true }, kinds := [], alts := [], goes := true, laidByText := true, laidKinds := [.data, .data, .data, .data, .handle, .data, .pinned], laidTests := true, laidLooks := .later }
def MadeCardSaid : Prop := Claim7.holds Tryz.pinned (.plain (OpenSpec.ofChange madeSpec)) madeCard

/-- THE TIED CARD OF 'sluicekeep.Added'. -/
def addedCard : Claim7 := { stood := { row := addedRow, standIns := [], harness := (true, "24e7c397d4dc7af5da3e5a68655773181295344857bef407342d266222f89096"), looks := true }, kinds := [], alts := [], goes := true, laidByText := true, laidKinds := [.data, .data, .data, .data, .handle, .data, .pinned], laidTests := true, laidLooks := .later }
def AddedCardSaid : Prop := Claim7.holds Tryz.pinned (.plain (OpenSpec.ofChange addedSpec)) addedCard

/-- THE TIED CARD OF 'sluicelaw.Rings'. -/
def ringsCard : Claim7 := { stood := { row := ringsRow, standIns := [], harness := (true, "24e7c397d4dc7af5da3e5a68655773181295344857bef407342d266222f89096"), looks := true }, kinds := [], alts := [], goes := true, laidByText := true, laidKinds := [.data, .data, .data, .data, .handle, .data, .pinned], laidTests := true, laidLooks := .later }
def RingsCardSaid : Prop := Claim7.holds Tryz.pinned (.plain (OpenSpec.ofChange ringsSpec)) ringsCard

/-- THE TIED CARD OF 'sluicelaw.Buses'. -/
def busesCard : Claim7 := { stood := { row := busesRow, standIns := [], harness := (true, "24e7c397d4dc7af5da3e5a68655773181295344857bef407342d266222f89096"), looks := true }, kinds := [], alts := [], goes := true, laidByText := true, laidKinds := [.data, .data, .data, .data, .handle, .data, .pinned], laidTests := true, laidLooks := .later }
def BusesCardSaid : Prop := Claim7.holds Tryz.pinned (.plain (OpenSpec.ofChange busesSpec)) busesCard

/-- THE SECOND FORM's CARD OF 'sluicelaw.Encoded'. -/
def encodedUptoCard : Claim7 := { stood := { row := encodedUptoRow, standIns := [], harness := (true, "24e7c397d4dc7af5da3e5a68655773181295344857bef407342d266222f89096"), looks := true }, kinds := [], alts := [], goes := true, laidByText := true, laidKinds := [.handle, .data], laidTests := true, laidLooks := .later }
def EncodedUptoCardSaid : Prop := Claim7.holds Tryz.pinned (.plain (OpenSpec.upto encodedSpec)) encodedUptoCard

/-- THE SECOND FORM's CARD OF 'sluicelaw.Decoded'. -/
def decodedUptoCard : Claim7 := { stood := { row := decodedUptoRow, standIns := [], harness := (true, "24e7c397d4dc7af5da3e5a68655773181295344857bef407342d266222f89096"), looks := true }, kinds := [], alts := [], goes := true, laidByText := true, laidKinds := [.data, .data, .data, .data, .handle, .data, .pinned], laidTests := true, laidLooks := .later }
def DecodedUptoCardSaid : Prop := Claim7.holds Tryz.pinned (.plain (OpenSpec.upto decodedSpec)) decodedUptoCard

/-- THE SECOND FORM's CARD OF 'sluicekeep.Back'. -/
def backUptoCard : Claim7 := { stood := { row := backUptoRow, standIns := [], harness := (true, "24e7c397d4dc7af5da3e5a68655773181295344857bef407342d266222f89096"), looks := true }, kinds := [], alts := [], goes := true, laidByText := true, laidKinds := [.data, .data, .data, .data, .handle, .data, .pinned], laidTests := true, laidLooks := .later }
def BackUptoCardSaid : Prop := Claim7.holds Tryz.pinned (.plain (OpenSpec.upto backSpec)) backUptoCard

/-- THE SECOND FORM's CARD OF 'sluicekeep.Cut'. -/
def cutUptoCard : Claim7 := { stood := { row := cutUptoRow, standIns := [], harness := (true, "24e7c397d4dc7af5da3e5a68655773181295344857bef407342d266222f89096"), looks := true }, kinds := [], alts := [], goes := true, laidByText := true, laidKinds := [.data, .data, .data, .data, .handle, .data, .pinned], laidTests := true, laidLooks := .later }
def CutUptoCardSaid : Prop := Claim7.holds Tryz.pinned (.plain (OpenSpec.upto cutSpec)) cutUptoCard

/-- THE SECOND FORM's CARD OF 'sluicelaw.Got'. -/
def gotUptoCard : Claim7 := { stood := { row := gotUptoRow, standIns := [], harness := (true, "24e7c397d4dc7af5da3e5a68655773181295344857bef407342d266222f89096"), looks := true }, kinds := [], alts := [], goes := true, laidByText := true, laidKinds := [.data, .data, .data, .data, .handle, .data, .pinned], laidTests := true, laidLooks := .later }
def GotUptoCardSaid : Prop := Claim7.holds Tryz.pinned (.plain (OpenSpec.upto gotSpec)) gotUptoCard

/-- THE SECOND FORM's CARD OF 'sluicelaw.Tallied'. -/
def talliedUptoCard : Claim7 := { stood := { row := talliedUptoRow, standIns := [], harness := (true, "24e7c397d4dc7af5da3e5a68655773181295344857bef407342d266222f89096"), looks := true }, kinds := [], alts := [], goes := true, laidByText := true, laidKinds := [.data, .data, .data, .handle, .data], laidTests := true, laidLooks := .later }
def TalliedUptoCardSaid : Prop := Claim7.holds Tryz.pinned (.plain (OpenSpec.upto talliedSpec)) talliedUptoCard

/-- THE SECOND FORM's CARD OF 'sluicekeep.Made'. -/
def madeUptoCard : Claim7 := { stood := { row := madeUptoRow, standIns := [], harness := (true, "24e7c397d4dc7af5da3e5a68655773181295344857bef407342d266222f89096"), looks := true }, kinds := [], alts := [], goes := true, laidByText := true, laidKinds := [.data, .data, .data, .data, .handle, .data, .pinned], laidTests := true, laidLooks := .later }
def MadeUptoCardSaid : Prop := Claim7.holds Tryz.pinned (.plain (OpenSpec.upto madeSpec)) madeUptoCard

/-- THE SECOND FORM's CARD OF 'sluicekeep.Added'. -/
def addedUptoCard : Claim7 := { stood := { row := addedUptoRow, standIns := [], harness := (true, "24e7c397d4dc7af5da3e5a68655773181295344857bef407342d266222f89096"), looks := true }, kinds := [], alts := [], goes := true, laidByText := true, laidKinds := [.data, .data, .data, .data, .handle, .data, .pinned], laidTests := true, laidLooks := .later }
def AddedUptoCardSaid : Prop := Claim7.holds Tryz.pinned (.plain (OpenSpec.upto addedSpec)) addedUptoCard

/-- THE SECOND FORM's CARD OF 'sluicelaw.Rings'. -/
def ringsUptoCard : Claim7 := { stood := { row := ringsUptoRow, standIns := [], harness := (true, "24e7c397d4dc7af5da3e5a68655773181295344857bef407342d266222f89096"), looks := true }, kinds := [], alts := [], goes := true, laidByText := true, laidKinds := [.data, .data, .data, .data, .handle, .data, .pinned], laidTests := true, laidLooks := .later }
def RingsUptoCardSaid : Prop := Claim7.holds Tryz.pinned (.plain (OpenSpec.upto ringsSpec)) ringsUptoCard

/-- THE SECOND FORM's CARD OF 'sluicelaw.Buses'. -/
def busesUptoCard : Claim7 := { stood := { row := busesUptoRow, standIns := [], harness := (true, "24e7c397d4dc7af5da3e5a68655773181295344857bef407342d266222f89096"), looks := true }, kinds := [], alts := [], goes := true, laidByText := true, laidKinds := [.data, .data, .data, .data, .handle, .data, .pinned], laidTests := true, laidLooks := .later }
def BusesUptoCardSaid : Prop := Claim7.holds Tryz.pinned (.plain (OpenSpec.upto busesSpec)) busesUptoCard
end Rows
end Go.Proofs.YtnhkalnihjkoeaaGreatDoor
