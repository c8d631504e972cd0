/- Back (P11, P4, P5), the whole claim: of every description, every value's text and all bytes: what Encode writes Decode reads as the same text, what Decode reads Encode writes as the same bytes; both refuse with Check's error and place where Check does, tell nothing where they refuse, and the first example's answers are the document's. For all strings within the form's reach; no other condition. The listed package variables hold what the program's text lays (the card's tie, over the pruned copy of the project). -/
import Derived.Test.YtnhkalnihjkoeaaGreatDoorVBackLift
import Derived.Test.YtnhkalnihjkoeaaGreatDoorVCard
namespace Go.Proofs.YtnhkalnihjkoeaaGreatDoor
open Go

theorem back_holds : Rows.BackCardSaid :=
  holds_tied_goes [.data, .data, .data, .data, .handle, .data, .pinned] true (true, "24e7c397d4dc7af5da3e5a68655773181295344857bef407342d266222f89096") true
    back_row (by kernel_rfl) back_row_tie rfl ⟨rfl, rfl⟩ (by kernel_rfl) rfl
    (fun f fn hf hfn => by
      obtain rfl : f = 5 := Option.some.inj ((show Tryz.prog.funcNamed Rows.backRow.func = some 5 by kernel_rfl).symm.trans hf) |>.symm
      obtain rfl : fn = Tryz.f5 := (Option.some.inj (Tryz.func5.symm.trans hfn)).symm
      exact ⟨by kernel_rfl, fun j t ht => by
        rw [Tryz.params5] at ht
        have h9 : t = 9 := by
          rcases j with _ | _ | _ | j
          · simpa using ht.symm
          · simpa using ht.symm
          · simpa using ht.symm
          · simp at ht
        subst h9
        exact (show Tryz.prog.wantsStandIn 9 = false by kernel_rfl)⟩)
    (by kernel_rfl)

end Go.Proofs.YtnhkalnihjkoeaaGreatDoor
