/- The given card, where both readers agree. -/
import Derived.Test.YtnhkalnihjkoeaaDoorLift
import Derived.Test.YtnhkalnihjkoeaaDoorTie
import Derived.Test.YtnhkalnihjkoeaaDoorCards
import Derived.SevenTiedAt
namespace Go.Proofs.YtnhkalnihjkoeaaDoor
open Go

theorem checked_card (hA : Agree) : Rows.CheckedCardSaid :=
  Claim7.holds_tied_plain_at .later [] [.handle, .data] true (true, "b77af1202dd0c421b0b40f114a16932735b1ca811bf59967b8668a5fe8bb6de1") true
    (checked_row hA) (fun _ h => by cases h) (by kernel_rfl) (fun _ h => by cases h) checked_row_tie rfl ⟨rfl, rfl⟩ (by kernel_rfl) rfl
    (fun f fn hf hfn => by
      obtain rfl : f = 3 := Option.some.inj ((show Tryd.prog.funcNamed Rows.checkedRow.func = some 3 by kernel_rfl).symm.trans hf) |>.symm
      obtain rfl : fn = Tryd.f3 := (Option.some.inj (Tryd.func3.symm.trans hfn)).symm
      exact ⟨by kernel_rfl, fun j t ht => by
        rw [Tryd.params3] at ht
        have h9 : t = 9 := by
          rcases j with _ | _ | j
          · simpa using ht.symm
          · simpa using ht.symm
          · simp at ht
        subst h9
        exact (show Tryd.prog.wantsStandIn 9 = false by kernel_rfl)⟩)
    (by kernel_rfl)

end Go.Proofs.YtnhkalnihjkoeaaDoor
