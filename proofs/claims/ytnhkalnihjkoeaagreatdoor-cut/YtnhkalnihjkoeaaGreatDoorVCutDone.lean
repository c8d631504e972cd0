/- Cut (P4, P5), the whole claim: of every description, every value's text, all bytes and every further byte: where Encode or Decode refuses and tells a place within what was handed in, what lies ahead of that place can be gone on with, and with the byte at that place it cannot, whatever comes behind. For all strings within the form's reach and every int; no other condition. The listed package variables hold what the program's text lays (the card's tie, over the pruned copy of the project). -/
import Derived.Test.YtnhkalnihjkoeaaGreatDoorVCutLift
import Derived.Test.YtnhkalnihjkoeaaGreatDoorVCard
namespace Go.Proofs.YtnhkalnihjkoeaaGreatDoor
open Go

theorem cut_holds : Rows.CutCardSaid :=
  holds_tied_goes [.data, .data, .data, .data, .handle, .data, .pinned] true (true, "24e7c397d4dc7af5da3e5a68655773181295344857bef407342d266222f89096") true
    cut_row (by kernel_rfl) cut_row_tie rfl ⟨rfl, rfl⟩ (by kernel_rfl) rfl
    (fun f fn hf hfn => by
      obtain rfl : f = 6 := Option.some.inj ((show Tryz.prog.funcNamed Rows.cutRow.func = some 6 by kernel_rfl).symm.trans hf) |>.symm
      obtain rfl : fn = Tryz.f6 := (Option.some.inj (Tryz.func6.symm.trans hfn)).symm
      exact ⟨by kernel_rfl, fun j t ht => by
        rw [Tryz.params6] at ht
        have h9 : t = 9 ∨ t = 3 := by
          rcases j with _ | _ | _ | _ | j
          · exact Or.inl (by simpa using ht.symm)
          · exact Or.inl (by simpa using ht.symm)
          · exact Or.inl (by simpa using ht.symm)
          · exact Or.inr (by simpa using ht.symm)
          · simp at ht
        rcases h9 with rfl | rfl
        · exact (show Tryz.prog.wantsStandIn 9 = false by kernel_rfl)
        · exact (show Tryz.prog.wantsStandIn 3 = false by kernel_rfl)⟩)
    (by kernel_rfl)

end Go.Proofs.YtnhkalnihjkoeaaGreatDoor
