/- Decoded (P5), the whole claim: of every description and all bytes Decode tells what the document's own reader tells: the text, the error, the place; of other bytes and by another description besides, and again. For all strings within the form's reach; no other condition. The listed package variables hold what the program's text lays (the card's tie, over the pruned copy of the project). -/
import Derived.Test.YtnhkalnihjkoeaaGreatDoorDDecodedLift
import Derived.Test.YtnhkalnihjkoeaaGreatDoorVCard
namespace Go.Proofs.YtnhkalnihjkoeaaGreatDoor
open Go

theorem decoded_holds : Rows.DecodedCardSaid :=
  holds_tied_goes [.data, .data, .data, .data, .handle, .data, .pinned] true (true, "24e7c397d4dc7af5da3e5a68655773181295344857bef407342d266222f89096") true
    decoded_row (by kernel_rfl) decoded_row_tie rfl ⟨rfl, rfl⟩ (by kernel_rfl) rfl
    (fun f fn hf hfn => by
      obtain rfl : f = 4 := Option.some.inj ((show Tryz.prog.funcNamed Rows.decodedRow.func = some 4 by kernel_rfl).symm.trans hf) |>.symm
      obtain rfl : fn = Tryz.f4 := (Option.some.inj (Tryz.func4.symm.trans hfn)).symm
      exact ⟨by kernel_rfl, fun j t ht => by
        rw [Tryz.params4] at ht
        have h9 : t = 9 := by
          rcases j with _ | _ | _ | _ | j
          · simpa using ht.symm
          · simpa using ht.symm
          · simpa using ht.symm
          · simpa using ht.symm
          · simp at ht
        subst h9
        exact (show Tryz.prog.wantsStandIn 9 = false by kernel_rfl)⟩)
    (by kernel_rfl)

end Go.Proofs.YtnhkalnihjkoeaaGreatDoor
