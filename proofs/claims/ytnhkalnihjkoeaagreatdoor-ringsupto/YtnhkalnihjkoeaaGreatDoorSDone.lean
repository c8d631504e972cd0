/- Rings (P8, P9), up to the bound, the whole claim: whatever the script of steps on rings (new ones, frames put in, taken, viewed, released, shut, room asked, in every order, several rings side by side), each answer of the program is the document's own; in the end too, when all frames that are held are looked at and all that wait are taken. Its conditions: the script holds together at most 1048576 values and letters; the package-level variables are as the program's text lays them. -/
import Derived.Test.YtnhkalnihjkoeaaGreatDoorSUpto
import Derived.Test.YtnhkalnihjkoeaaGreatDoorVCard
namespace Go.Proofs.YtnhkalnihjkoeaaGreatDoor
open Go

theorem rings_holds : Rows.RingsUptoCardSaid :=
  holds_tied_goes [.data, .data, .data, .data, .handle, .data, .pinned] true (true, "24e7c397d4dc7af5da3e5a68655773181295344857bef407342d266222f89096") true
    rings_row (by kernel_rfl) ringsUpto_row_tie rfl ⟨rfl, rfl⟩ (by kernel_rfl) rfl
    (fun f fn hf hfn => by
      obtain rfl : f = 11 := Option.some.inj ((show Tryz.prog.funcNamed Rows.ringsUptoRow.func = some 11 by kernel_rfl).symm.trans hf) |>.symm
      obtain rfl : fn = Tryz.f11 := (Option.some.inj (Tryz.func11.symm.trans hfn)).symm
      exact ⟨by kernel_rfl, fun j t ht => by
        rw [Tryz.params11] at ht
        have h9 : t = 61 := by
          rcases j with _ | j
          · simpa using ht.symm
          · simp at ht
        subst h9
        exact (show Tryz.prog.wantsStandIn 61 = false by kernel_rfl)⟩)
    (by kernel_rfl)

end Go.Proofs.YtnhkalnihjkoeaaGreatDoor
