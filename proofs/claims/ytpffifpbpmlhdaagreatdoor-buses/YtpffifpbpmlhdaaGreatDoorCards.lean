/-
  DERIVED. GIVEN WITH THE SEED: THE CARDS: each row of YtpffifpbpmlhdaaGreatDoorRows.lean that lists a variable, with what it lists TIED to the program's text (the seventh form; the later family's looks); each row that meets fmt, with fmt's text TOLD by the authors' own Lean function (tested against real Go, not proved from fmt's source: count such statements apart). THE CARD IS WHAT COUNTS. Prove the row's statement (the work); the ties are given (YtpffifpbpmlhdaaGreatDoorTie.lean); close each card by the builder's one call (the guide's Derived/Test/ToyasCard.lean, 'card_holds'). Laid BY PROGRAM, IN A SANDBOX (cutbox-door.mjs). By AI agents, Wed Nov 11 2026. No macro, syntax, notation, axiom, sorry.
-/
import Derived.Test.YtpffifpbpmlhdaaGreatDoorRows
import GoSem.ClaimSeven
namespace Go.Proofs.YtpffifpbpmlhdaaGreatDoor
namespace Rows

/-- THE TIED CARD OF 'sluicelaw.Buses'. -/
def busesCard : Claim7 := { stood := { row := busesRow, standIns := [], harness := (true, "3b56349751b0c4082cf8e0f6331ffb391fe252dbc7c42af535ddea52ec8b2d0a"), looks := true }, kinds := [], alts := [], laidByText := true, laidKinds := [.data, .data, .data, .data, .handle, .data, .pinned], laidTests := true, laidLooks := .later }
def BusesCardSaid : Prop := Claim7.holds Tryz.pinned (.plain (OpenSpec.ofChange busesSpec)) busesCard

/-- THE SECOND FORM's CARD OF 'sluicelaw.Buses'. -/
def busesUptoCard : Claim7 := { stood := { row := busesUptoRow, standIns := [], harness := (true, "3b56349751b0c4082cf8e0f6331ffb391fe252dbc7c42af535ddea52ec8b2d0a"), looks := true }, kinds := [], alts := [], laidByText := true, laidKinds := [.data, .data, .data, .data, .handle, .data, .pinned], laidTests := true, laidLooks := .later }
def BusesUptoCardSaid : Prop := Claim7.holds Tryz.pinned (.plain (OpenSpec.upto busesSpec)) busesUptoCard
end Rows
end Go.Proofs.YtpffifpbpmlhdaaGreatDoor
