/- Got (P6), the whole claim: of every description, all bytes and every path Get tells what the document's own answer tells: the part's text, the error, the place; of other bytes, another path and by another description besides, and again. For all strings within the form's reach; no other condition. The listed package variables hold what the program's text lays (the card's tie, over the pruned copy of the project). -/
import Derived.Test.YtnhkalnihjkoeaaGreatDoorTie
import Derived.Test.YtnhkalnihjkoeaaGreatDoorCards
import Derived.SevenTiedAt
import Derived.Test.YtnhkalnihjkoeaaGreatDoorGtVLiftZ
import Derived.Test.YtnhkalnihjkoeaaGreatDoorGtGGotLift
section
namespace Go.Proofs.YtnhkalnihjkoeaaGreatDoor
open Go

/-- The builder for tied rows, where the call can start goroutines. -/
theorem holds_tied_goes {p : Pinned} {s : OpenSpec} {c : OpenClaim} (kinds : List LaidKind) (tests : Bool) (har : Bool × String) (lk : Bool)
    (hc : c.holds p s) (hw : c.wfByText s = true) (htie : c.laidByTextAt .later p kinds tests)
    (hst : c.start = .entering) (hnb : c.noBlocks = false ∧ c.again = false) (hm : p.checked.prog.mainIs = some (har.1, har.2.toList)) (hn : (!har.1 && har.2.isEmpty && !lk) = false)
    (hl : ∀ f fn, p.checked.prog.funcNamed c.func = some f → p.checked.prog.funcs[f]? = some fn → lk = p.checked.prog.looks [] ∧ ∀ (j : Nat) t, fn.params[j]? = some t → p.checked.prog.wantsStandIn t = false)
    (hg : true = c.goesBy p.checked.prog) :
    Claim7.holds p (.plain s) { stood := { row := c, standIns := [], harness := har, looks := lk }, kinds := [], alts := [], goes := true, laidByText := true, laidKinds := kinds, laidTests := tests, laidLooks := .later } := by
  have h6 : Claim7.isSixth { stood := { row := c, standIns := [], harness := har, looks := lk }, kinds := [] } = false := by simpa [Claim7.isSixth] using hn
  have h1 := Claim7.tied_new_at .later kinds tests (Claim7.new_of_sixth hc har lk hst hnb hm h6 hl) hw
  exact And.intro h1 (And.intro (fun D hD => absurd hD (List.not_mem_nil)) (And.intro htie (And.intro (fun h => absurd (show (false : Bool) = true from h) (by decide)) hg)))

end Go.Proofs.YtnhkalnihjkoeaaGreatDoor
end
section
namespace Go.Proofs.YtnhkalnihjkoeaaGreatDoor
open Go

theorem got_holds : Rows.GotCardSaid :=
  holds_tied_goes [.data, .data, .data, .data, .handle, .data, .pinned] true (true, "24e7c397d4dc7af5da3e5a68655773181295344857bef407342d266222f89096") true
    got_row (by kernel_rfl) got_row_tie rfl ⟨rfl, rfl⟩ (by kernel_rfl) rfl
    (fun f fn hf hfn => by
      obtain rfl : f = 7 := Option.some.inj ((show Tryz.prog.funcNamed Rows.gotRow.func = some 7 by kernel_rfl).symm.trans hf) |>.symm
      obtain rfl : fn = Tryz.f7 := (Option.some.inj (Tryz.func7.symm.trans hfn)).symm
      exact ⟨by kernel_rfl, fun j t ht => by
        rw [Tryz.params7] at ht
        have h9 : t = 9 := by
          rcases j with _ | _ | _ | _ | _ | _ | j
          · simpa using ht.symm
          · simpa using ht.symm
          · simpa using ht.symm
          · simpa using ht.symm
          · simpa using ht.symm
          · simpa using ht.symm
          · simp at ht
        subst h9
        exact (show Tryz.prog.wantsStandIn 9 = false by kernel_rfl)⟩)
    (by kernel_rfl)

end Go.Proofs.YtnhkalnihjkoeaaGreatDoor
end
