/- Encoded (P4), up to the bound, the whole claim: of every description and every value's text Encode tells what the document's own maker tells: the bytes, the error, the place; of another text and by another description besides, and again. Its conditions: the four texts have together at most 1048576 letters, each text itself counted once more; the listed package variables hold what the program's text lays (the card's tie, over the pruned copy of the project). -/
import Derived.Test.YtnhkalnihjkoeaaGreatDoorEUpto
import Derived.Test.YtnhkalnihjkoeaaGreatDoorVCard
namespace Go.Proofs.YtnhkalnihjkoeaaGreatDoor
open Go

theorem encoded_holds : Rows.EncodedUptoCardSaid :=
  holds_tied_goes [.handle, .data] true (true, "24e7c397d4dc7af5da3e5a68655773181295344857bef407342d266222f89096") true
    encoded_row (by kernel_rfl) encodedUpto_row_tie rfl ⟨rfl, rfl⟩ (by kernel_rfl) rfl
    (fun f fn hf hfn => by
      obtain rfl : f = 3 := Option.some.inj ((show Tryz.prog.funcNamed Rows.encodedUptoRow.func = some 3 by kernel_rfl).symm.trans hf) |>.symm
      obtain rfl : fn = Tryz.f3 := (Option.some.inj (Tryz.func3.symm.trans hfn)).symm
      exact ⟨by kernel_rfl, fun j t ht => by
        rw [Tryz.params3] at ht
        have h9 : t = 9 := by
          rcases j with _ | _ | _ | _ | j
          · simpa using ht.symm
          · simpa using ht.symm
          · simpa using ht.symm
          · simpa using ht.symm
          · simp at ht
        subst h9
        exact (show Tryz.prog.wantsStandIn 9 = false by kernel_rfl)⟩)
    (by kernel_rfl)

end Go.Proofs.YtnhkalnihjkoeaaGreatDoor
