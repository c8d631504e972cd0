/- The law, out of what Check and Read tell: where both tell the same of every text, it is true. -/
import Derived.Test.YtnhkalnihjkoeaaDoorRRead
namespace Go.Proofs.YtnhkalnihjkoeaaDoor
open Go.RowKit

set_option maxHeartbeats 4000000 in
theorem lawCheck_any (hA : Agree) (s : ByteArray) (w : World) (hw : Words w) (het : ErrT w) (hs : s.size ≤ maxLen) :
    Calls Tryd.prog 4 #[.string s] w fun e w' => e = .returned (.bool true) ∧ Fr Zero w w' := by
  have HA := hide (hA.all s)
  have HW := hide hw
  have HE := hide het
  have hle := checkP_le s
  clear hA hw het
  go_enter Tryd.func4, Tryd.ntmps4
  go_wp2_with fail
  refine (check_any s _ HW HE hs).mono ?_
  rintro e w1 ⟨hF1, rfl⟩
  have HF1 := hide hF1
  clear hF1
  go_wp2_with fail
  refine (read_any s _ hs HA.out.1).mono ?_
  unfold RPost
  rw [← HA.out.2]
  generalize checkP s = c at *
  rintro e w2 ⟨hF2, a, rfl, _⟩
  have HF2 := hide (HF1.out.trans hF2)
  clear hF2
  go_wp2_with fail
  refine (num_any c.1 _ (by omega) (by omega)).mono ?_
  rintro e w3 ⟨rfl, e3⟩
  obtain rfl := e3.symm
  have q1 : ((c.1 : Int) == (c.1 : Int)) = true := by simp
  have q2 : ((c.2 : Int) == (c.2 : Int)) = true := by simp
  go_wp2_with fail
  go_ret
  exact ⟨by simp, HF2⟩

set_option maxHeartbeats 4000000 in
theorem checked_any (hA : Agree) (s o : ByteArray) (w : World) (hw : Words w) (het : ErrT w) (hs : s.size ≤ maxLen) (ho : o.size ≤ maxLen) :
    Calls Tryd.prog 3 #[.string s, .string o] w fun e w' => e = .returned (.bool true) ∧ Fr Zero w w' := by
  have HW := hide hw
  have HE := hide het
  have HA := hide hA
  clear hw het hA
  have key : ∀ (x : ByteArray) (w1 : World), Fr Zero w w1 → x.size ≤ maxLen → Calls Tryd.prog 4 #[.string x] w1 fun e w' => e = .returned (.bool true) ∧ Fr Zero w w' := fun x w1 hF hx =>
    (lawCheck_any HA.out x w1 (HW.out.keep hF (fun h => h)) (HE.out.keep hF (fun h => h)) hx).mono (fun e w' h => ⟨h.1, hF.trans h.2⟩)
  have HK := hide key
  clear key
  go_enter Tryd.func3, Tryd.ntmps3
  go_wp2_with fail
  refine (HK.out s w (Fr.refl _ _) hs).mono ?_
  rintro e w1 ⟨rfl, hF1⟩
  have HF1 := hide hF1
  clear hF1
  go_wp2_with fail
  refine (HK.out o w1 HF1.out ho).mono ?_
  rintro e w2 ⟨rfl, hF2⟩
  have HF2 := hide hF2
  clear hF2
  go_wp2_with fail
  refine (HK.out s w2 HF2.out hs).mono ?_
  rintro e w3 ⟨rfl, hF3⟩
  have HF3 := hide hF3
  clear hF3
  go_wp2_with fail
  refine (HK.out _ w3 HF3.out (by decide)).mono ?_
  rintro e w4 ⟨rfl, hF4⟩
  have HF4 := hide hF4
  clear hF4
  go_wp2_with fail
  refine (HK.out _ w4 HF4.out (by decide)).mono ?_
  rintro e w5 ⟨rfl, hF5⟩
  have HF5 := hide hF5
  clear hF5
  go_wp2_with fail
  go_ret
  exact ⟨rfl, HF5⟩

end Go.Proofs.YtnhkalnihjkoeaaDoor
