/- Rings (P8, P9), the whole claim: whatever the script of steps on rings (new ones, frames put in, taken, viewed, released, shut, room asked, in every order, several rings side by side), each answer of the program is the document's own; in the end too, when all frames that are held are looked at and all that wait are taken. For all scripts within the form's reach; no other condition. The listed package variables hold what the program's text lays (the card's tie, over the pruned copy of the project). -/
import Derived.Test.YtnhkalnihjkoeaaGreatDoorRgSLift
import Derived.Test.YtnhkalnihjkoeaaGreatDoorRgVCard
namespace Go.Proofs.YtnhkalnihjkoeaaGreatDoor
open Go

theorem rings_holds : Rows.RingsCardSaid :=
  holds_tied_goes [.data, .data, .data, .data, .handle, .data, .pinned] true (true, "24e7c397d4dc7af5da3e5a68655773181295344857bef407342d266222f89096") true
    rings_row (by kernel_rfl) rings_row_tie rfl ⟨rfl, rfl⟩ (by kernel_rfl) rfl
    (fun f fn hf hfn => by
      obtain rfl : f = 11 := Option.some.inj ((show Tryz.prog.funcNamed Rows.ringsRow.func = some 11 by kernel_rfl).symm.trans hf) |>.symm
      obtain rfl : fn = Tryz.f11 := (Option.some.inj (Tryz.func11.symm.trans hfn)).symm
      exact ⟨by kernel_rfl, fun j t ht => by
        rw [Tryz.params11] at ht
        have h9 : t = 61 := by
          rcases j with _ | j
          · simpa using ht.symm
          · simp at ht
        subst h9
        exact (show Tryz.prog.wantsStandIn 61 = false by kernel_rfl)⟩)
    (by kernel_rfl)

end Go.Proofs.YtnhkalnihjkoeaaGreatDoor
