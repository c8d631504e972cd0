/-
  DERIVED. GIVEN WITH THE SEED: THE CARDS: each row of YtnhkalnihjkoeaaDoorRows.lean that lists a variable, with what it lists TIED to the program's text (the seventh form; the later family's looks); each row that meets fmt, with fmt's text TOLD by the authors' own Lean function (tested against real Go, not proved from fmt's source: count such statements apart). THE CARD IS WHAT COUNTS. Prove the row's statement (the work); the ties are given (YtnhkalnihjkoeaaDoorTie.lean); close each card by the builder's one call (the guide's Derived/Test/ToyasCard.lean, 'card_holds'). Laid BY PROGRAM, IN A SANDBOX (cutbox-door.mjs). By AI agents, Wed Nov 11 2026. No macro, syntax, notation, axiom, sorry.
-/
import Derived.Test.YtnhkalnihjkoeaaDoorRows
import GoSem.ClaimSeven
namespace Go.Proofs.YtnhkalnihjkoeaaDoor
namespace Rows

/-- THE TIED CARD OF 'sluicelaw.Checked'. -/
def checkedCard : Claim7 := { stood := { row := checkedRow, standIns := [], harness := (true, "b77af1202dd0c421b0b40f114a16932735b1ca811bf59967b8668a5fe8bb6de1"), looks := true }, kinds := [], alts := [], laidByText := true, laidKinds := [.handle, .data], laidTests := true, laidLooks := .later }
def CheckedCardSaid : Prop := Claim7.holds Tryd.pinned (.plain (OpenSpec.ofChange checkedSpec)) checkedCard

/-- THE SECOND FORM's CARD OF 'sluicelaw.Checked'. -/
def checkedUptoCard : Claim7 := { stood := { row := checkedUptoRow, standIns := [], harness := (true, "b77af1202dd0c421b0b40f114a16932735b1ca811bf59967b8668a5fe8bb6de1"), looks := true }, kinds := [], alts := [], laidByText := true, laidKinds := [.handle, .data], laidTests := true, laidLooks := .later }
def CheckedUptoCardSaid : Prop := Claim7.holds Tryd.pinned (.plain (OpenSpec.upto checkedSpec)) checkedUptoCard
end Rows
end Go.Proofs.YtnhkalnihjkoeaaDoor
