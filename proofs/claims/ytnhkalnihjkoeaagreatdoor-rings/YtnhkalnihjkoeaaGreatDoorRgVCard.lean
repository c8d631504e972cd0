/- How a card is closed whose call can start goroutines. -/
import Derived.Test.YtnhkalnihjkoeaaGreatDoorTie
import Derived.Test.YtnhkalnihjkoeaaGreatDoorCards
import Derived.SevenTiedAt
import Derived.Test.YtnhkalnihjkoeaaGreatDoorRgVLiftZ
namespace Go.Proofs.YtnhkalnihjkoeaaGreatDoor
open Go

/-- The builder for tied rows, where the call can start goroutines. -/
theorem holds_tied_goes {p : Pinned} {s : OpenSpec} {c : OpenClaim} (kinds : List LaidKind) (tests : Bool) (har : Bool × String) (lk : Bool)
    (hc : c.holds p s) (hw : c.wfByText s = true) (htie : c.laidByTextAt .later p kinds tests)
    (hst : c.start = .entering) (hnb : c.noBlocks = false ∧ c.again = false) (hm : p.checked.prog.mainIs = some (har.1, har.2.toList)) (hn : (!har.1 && har.2.isEmpty && !lk) = false)
    (hl : ∀ f fn, p.checked.prog.funcNamed c.func = some f → p.checked.prog.funcs[f]? = some fn → lk = p.checked.prog.looks [] ∧ ∀ (j : Nat) t, fn.params[j]? = some t → p.checked.prog.wantsStandIn t = false)
    (hg : true = c.goesBy p.checked.prog) :
    Claim7.holds p (.plain s) { stood := { row := c, standIns := [], harness := har, looks := lk }, kinds := [], alts := [], goes := true, laidByText := true, laidKinds := kinds, laidTests := tests, laidLooks := .later } := by
  have h6 : Claim7.isSixth { stood := { row := c, standIns := [], harness := har, looks := lk }, kinds := [] } = false := by simpa [Claim7.isSixth] using hn
  have h1 := Claim7.tied_new_at .later kinds tests (Claim7.new_of_sixth hc har lk hst hnb hm h6 hl) hw
  exact And.intro h1 (And.intro (fun D hD => absurd hD (List.not_mem_nil)) (And.intro htie (And.intro (fun h => absurd (show (false : Bool) = true from h) (by decide)) hg)))

end Go.Proofs.YtnhkalnihjkoeaaGreatDoor
