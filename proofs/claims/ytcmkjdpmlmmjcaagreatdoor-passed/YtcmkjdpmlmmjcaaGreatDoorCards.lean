/-
  DERIVED. GIVEN WITH THE SEED: THE CARDS: each row of YtcmkjdpmlmmjcaaGreatDoorRows.lean that lists a variable, with what it lists TIED to the program's text (the seventh form; the later family's looks); each row that meets fmt, with fmt's text TOLD by the authors' own Lean function (tested against real Go, not proved from fmt's source: count such statements apart). THE CARD IS WHAT COUNTS. Prove the row's statement (the work); the ties are given (YtcmkjdpmlmmjcaaGreatDoorTie.lean); close each card by the builder's one call (the guide's Derived/Test/ToyasCard.lean, 'card_holds'). Laid BY PROGRAM, IN A SANDBOX (cutbox-door.mjs). By AI agents, Wed Nov 11 2026. No macro, syntax, notation, axiom, sorry.
-/
import Derived.Test.YtcmkjdpmlmmjcaaGreatDoorRows
import GoSem.ClaimSeven
namespace Go.Proofs.YtcmkjdpmlmmjcaaGreatDoor
namespace Rows

/-- THE TIED CARD OF 'sluicekeep.Passed'. -/
def passedCard : Claim7 := { stood := { row := passedRow, standIns := [], harness := (true, "ddb4821307747d70996b95e6b378b33380a5ccc354f30ea2e5b390913c9e31a0"), looks := true }, kinds := [], alts := [], laidByText := true, laidKinds := [.data, .data, .data, .data, .handle, .data, .pinned], laidTests := true, laidLooks := .later }
def PassedCardSaid : Prop := Claim7.holds Tryz.pinned (.plain (OpenSpec.ofChange passedSpec)) passedCard

/-- THE SECOND FORM's CARD OF 'sluicekeep.Passed'. -/
def passedUptoCard : Claim7 := { stood := { row := passedUptoRow, standIns := [], harness := (true, "ddb4821307747d70996b95e6b378b33380a5ccc354f30ea2e5b390913c9e31a0"), looks := true }, kinds := [], alts := [], laidByText := true, laidKinds := [.data, .data, .data, .data, .handle, .data, .pinned], laidTests := true, laidLooks := .later }
def PassedUptoCardSaid : Prop := Claim7.holds Tryz.pinned (.plain (OpenSpec.upto passedSpec)) passedUptoCard
end Rows
end Go.Proofs.YtcmkjdpmlmmjcaaGreatDoor
