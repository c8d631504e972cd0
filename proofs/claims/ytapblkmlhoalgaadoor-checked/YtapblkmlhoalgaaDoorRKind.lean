/- The other reader's wordKind. -/
import Derived.Test.YtapblkmlhoalgaaDoorRBase
namespace Go.Proofs.YtapblkmlhoalgaaDoor
open Go.RowKit

theorem wdl0 (nm : ByteArray) : (([98, 121, 116, 101] : List UInt8) == nm.toList) = decide (wd 0 = nm) := by rw [← strEq, ByteArray.toList_eq (wd 0)]; rfl
theorem wdl1 (nm : ByteArray) : (([115, 104, 111, 114, 116] : List UInt8) == nm.toList) = decide (wd 1 = nm) := by rw [← strEq, ByteArray.toList_eq (wd 1)]; rfl
theorem wdl2 (nm : ByteArray) : (([119, 111, 114, 100] : List UInt8) == nm.toList) = decide (wd 2 = nm) := by rw [← strEq, ByteArray.toList_eq (wd 2)]; rfl
theorem wdl3 (nm : ByteArray) : (([105, 110, 116] : List UInt8) == nm.toList) = decide (wd 3 = nm) := by rw [← strEq, ByteArray.toList_eq (wd 3)]; rfl
theorem wdl4 (nm : ByteArray) : (([98, 111, 111, 108] : List UInt8) == nm.toList) = decide (wd 4 = nm) := by rw [← strEq, ByteArray.toList_eq (wd 4)]; rfl
theorem wdl5 (nm : ByteArray) : (([116, 101, 120, 116] : List UInt8) == nm.toList) = decide (wd 5 = nm) := by rw [← strEq, ByteArray.toList_eq (wd 5)]; rfl
theorem wdl6 (nm : ByteArray) : (([98, 121, 116, 101, 115] : List UInt8) == nm.toList) = decide (wd 6 = nm) := by rw [← strEq, ByteArray.toList_eq (wd 6)]; rfl

set_option maxRecDepth 100000 in
set_option maxHeartbeats 4000000 in
theorem wordKind_no (nm : ByteArray) (w : World) (hno : ∀ i, i < 7 → wd i ≠ nm) :
    Calls Tryd.prog 26 #[.string nm] w fun e w' => e = .returned (.int .i64 (-1)) ∧ Fr Zero w w' := by
  have n0 : (([98, 121, 116, 101] : List UInt8) == nm.toList) = false := by rw [wdl0]; exact decide_eq_false (hno 0 (by omega))
  have n1 : (([115, 104, 111, 114, 116] : List UInt8) == nm.toList) = false := by rw [wdl1]; exact decide_eq_false (hno 1 (by omega))
  have n2 : (([119, 111, 114, 100] : List UInt8) == nm.toList) = false := by rw [wdl2]; exact decide_eq_false (hno 2 (by omega))
  have n3 : (([105, 110, 116] : List UInt8) == nm.toList) = false := by rw [wdl3]; exact decide_eq_false (hno 3 (by omega))
  have n4 : (([98, 111, 111, 108] : List UInt8) == nm.toList) = false := by rw [wdl4]; exact decide_eq_false (hno 4 (by omega))
  have n5 : (([116, 101, 120, 116] : List UInt8) == nm.toList) = false := by rw [wdl5]; exact decide_eq_false (hno 5 (by omega))
  have n6 : (([98, 121, 116, 101, 115] : List UInt8) == nm.toList) = false := by rw [wdl6]; exact decide_eq_false (hno 6 (by omega))
  clear hno
  go_enter Tryd.func26, Tryd.ntmps26
  go_wp2
  refine wp_loop_rounds 8 ?_
  rw [rounds_succ]; go_wp2
  rw [rounds_succ]; go_wp2
  rw [rounds_succ]; go_wp2
  rw [rounds_succ]; go_wp2
  rw [rounds_succ]; go_wp2
  rw [rounds_succ]; go_wp2
  rw [rounds_succ]; go_wp2
  rw [rounds_succ]; go_wp2
  go_ret
  exact ⟨rfl, Fr.alloc _ _ _⟩

set_option maxRecDepth 100000 in
set_option maxHeartbeats 4000000 in
theorem wordKind_yes0 (w : World) :
    Calls Tryd.prog 26 #[.string (wd 0)] w fun e w' => e = .returned (.int .i64 0) ∧ Fr Zero w w' := by
  have n0 : (([98, 121, 116, 101] : List UInt8) == (wd 0).toList) = true := by rw [wdl0]; exact decide_eq_true rfl
  generalize wd 0 = nm at *
  go_enter Tryd.func26, Tryd.ntmps26
  go_wp2
  refine wp_loop_rounds 8 ?_
  rw [rounds_succ]; go_wp2
  go_ret
  exact ⟨rfl, Fr.alloc _ _ _⟩

set_option maxRecDepth 100000 in
set_option maxHeartbeats 4000000 in
theorem wordKind_yes1 (w : World) :
    Calls Tryd.prog 26 #[.string (wd 1)] w fun e w' => e = .returned (.int .i64 1) ∧ Fr Zero w w' := by
  have n0 : (([98, 121, 116, 101] : List UInt8) == (wd 1).toList) = false := by rw [wdl0]; exact decide_eq_false (wd_ne 0 (by omega) 1 (by omega) (by omega))
  have n1 : (([115, 104, 111, 114, 116] : List UInt8) == (wd 1).toList) = true := by rw [wdl1]; exact decide_eq_true rfl
  generalize wd 1 = nm at *
  go_enter Tryd.func26, Tryd.ntmps26
  go_wp2
  refine wp_loop_rounds 8 ?_
  rw [rounds_succ]; go_wp2
  rw [rounds_succ]; go_wp2
  go_ret
  exact ⟨rfl, Fr.alloc _ _ _⟩

set_option maxRecDepth 100000 in
set_option maxHeartbeats 4000000 in
theorem wordKind_yes2 (w : World) :
    Calls Tryd.prog 26 #[.string (wd 2)] w fun e w' => e = .returned (.int .i64 2) ∧ Fr Zero w w' := by
  have n0 : (([98, 121, 116, 101] : List UInt8) == (wd 2).toList) = false := by rw [wdl0]; exact decide_eq_false (wd_ne 0 (by omega) 2 (by omega) (by omega))
  have n1 : (([115, 104, 111, 114, 116] : List UInt8) == (wd 2).toList) = false := by rw [wdl1]; exact decide_eq_false (wd_ne 1 (by omega) 2 (by omega) (by omega))
  have n2 : (([119, 111, 114, 100] : List UInt8) == (wd 2).toList) = true := by rw [wdl2]; exact decide_eq_true rfl
  generalize wd 2 = nm at *
  go_enter Tryd.func26, Tryd.ntmps26
  go_wp2
  refine wp_loop_rounds 8 ?_
  rw [rounds_succ]; go_wp2
  rw [rounds_succ]; go_wp2
  rw [rounds_succ]; go_wp2
  go_ret
  exact ⟨rfl, Fr.alloc _ _ _⟩

set_option maxRecDepth 100000 in
set_option maxHeartbeats 4000000 in
theorem wordKind_yes3 (w : World) :
    Calls Tryd.prog 26 #[.string (wd 3)] w fun e w' => e = .returned (.int .i64 3) ∧ Fr Zero w w' := by
  have n0 : (([98, 121, 116, 101] : List UInt8) == (wd 3).toList) = false := by rw [wdl0]; exact decide_eq_false (wd_ne 0 (by omega) 3 (by omega) (by omega))
  have n1 : (([115, 104, 111, 114, 116] : List UInt8) == (wd 3).toList) = false := by rw [wdl1]; exact decide_eq_false (wd_ne 1 (by omega) 3 (by omega) (by omega))
  have n2 : (([119, 111, 114, 100] : List UInt8) == (wd 3).toList) = false := by rw [wdl2]; exact decide_eq_false (wd_ne 2 (by omega) 3 (by omega) (by omega))
  have n3 : (([105, 110, 116] : List UInt8) == (wd 3).toList) = true := by rw [wdl3]; exact decide_eq_true rfl
  generalize wd 3 = nm at *
  go_enter Tryd.func26, Tryd.ntmps26
  go_wp2
  refine wp_loop_rounds 8 ?_
  rw [rounds_succ]; go_wp2
  rw [rounds_succ]; go_wp2
  rw [rounds_succ]; go_wp2
  rw [rounds_succ]; go_wp2
  go_ret
  exact ⟨rfl, Fr.alloc _ _ _⟩

set_option maxRecDepth 100000 in
set_option maxHeartbeats 4000000 in
theorem wordKind_yes4 (w : World) :
    Calls Tryd.prog 26 #[.string (wd 4)] w fun e w' => e = .returned (.int .i64 4) ∧ Fr Zero w w' := by
  have n0 : (([98, 121, 116, 101] : List UInt8) == (wd 4).toList) = false := by rw [wdl0]; exact decide_eq_false (wd_ne 0 (by omega) 4 (by omega) (by omega))
  have n1 : (([115, 104, 111, 114, 116] : List UInt8) == (wd 4).toList) = false := by rw [wdl1]; exact decide_eq_false (wd_ne 1 (by omega) 4 (by omega) (by omega))
  have n2 : (([119, 111, 114, 100] : List UInt8) == (wd 4).toList) = false := by rw [wdl2]; exact decide_eq_false (wd_ne 2 (by omega) 4 (by omega) (by omega))
  have n3 : (([105, 110, 116] : List UInt8) == (wd 4).toList) = false := by rw [wdl3]; exact decide_eq_false (wd_ne 3 (by omega) 4 (by omega) (by omega))
  have n4 : (([98, 111, 111, 108] : List UInt8) == (wd 4).toList) = true := by rw [wdl4]; exact decide_eq_true rfl
  generalize wd 4 = nm at *
  go_enter Tryd.func26, Tryd.ntmps26
  go_wp2
  refine wp_loop_rounds 8 ?_
  rw [rounds_succ]; go_wp2
  rw [rounds_succ]; go_wp2
  rw [rounds_succ]; go_wp2
  rw [rounds_succ]; go_wp2
  rw [rounds_succ]; go_wp2
  go_ret
  exact ⟨rfl, Fr.alloc _ _ _⟩

set_option maxRecDepth 100000 in
set_option maxHeartbeats 4000000 in
theorem wordKind_yes5 (w : World) :
    Calls Tryd.prog 26 #[.string (wd 5)] w fun e w' => e = .returned (.int .i64 5) ∧ Fr Zero w w' := by
  have n0 : (([98, 121, 116, 101] : List UInt8) == (wd 5).toList) = false := by rw [wdl0]; exact decide_eq_false (wd_ne 0 (by omega) 5 (by omega) (by omega))
  have n1 : (([115, 104, 111, 114, 116] : List UInt8) == (wd 5).toList) = false := by rw [wdl1]; exact decide_eq_false (wd_ne 1 (by omega) 5 (by omega) (by omega))
  have n2 : (([119, 111, 114, 100] : List UInt8) == (wd 5).toList) = false := by rw [wdl2]; exact decide_eq_false (wd_ne 2 (by omega) 5 (by omega) (by omega))
  have n3 : (([105, 110, 116] : List UInt8) == (wd 5).toList) = false := by rw [wdl3]; exact decide_eq_false (wd_ne 3 (by omega) 5 (by omega) (by omega))
  have n4 : (([98, 111, 111, 108] : List UInt8) == (wd 5).toList) = false := by rw [wdl4]; exact decide_eq_false (wd_ne 4 (by omega) 5 (by omega) (by omega))
  have n5 : (([116, 101, 120, 116] : List UInt8) == (wd 5).toList) = true := by rw [wdl5]; exact decide_eq_true rfl
  generalize wd 5 = nm at *
  go_enter Tryd.func26, Tryd.ntmps26
  go_wp2
  refine wp_loop_rounds 8 ?_
  rw [rounds_succ]; go_wp2
  rw [rounds_succ]; go_wp2
  rw [rounds_succ]; go_wp2
  rw [rounds_succ]; go_wp2
  rw [rounds_succ]; go_wp2
  rw [rounds_succ]; go_wp2
  go_ret
  exact ⟨rfl, Fr.alloc _ _ _⟩

set_option maxRecDepth 100000 in
set_option maxHeartbeats 4000000 in
theorem wordKind_yes6 (w : World) :
    Calls Tryd.prog 26 #[.string (wd 6)] w fun e w' => e = .returned (.int .i64 6) ∧ Fr Zero w w' := by
  have n0 : (([98, 121, 116, 101] : List UInt8) == (wd 6).toList) = false := by rw [wdl0]; exact decide_eq_false (wd_ne 0 (by omega) 6 (by omega) (by omega))
  have n1 : (([115, 104, 111, 114, 116] : List UInt8) == (wd 6).toList) = false := by rw [wdl1]; exact decide_eq_false (wd_ne 1 (by omega) 6 (by omega) (by omega))
  have n2 : (([119, 111, 114, 100] : List UInt8) == (wd 6).toList) = false := by rw [wdl2]; exact decide_eq_false (wd_ne 2 (by omega) 6 (by omega) (by omega))
  have n3 : (([105, 110, 116] : List UInt8) == (wd 6).toList) = false := by rw [wdl3]; exact decide_eq_false (wd_ne 3 (by omega) 6 (by omega) (by omega))
  have n4 : (([98, 111, 111, 108] : List UInt8) == (wd 6).toList) = false := by rw [wdl4]; exact decide_eq_false (wd_ne 4 (by omega) 6 (by omega) (by omega))
  have n5 : (([116, 101, 120, 116] : List UInt8) == (wd 6).toList) = false := by rw [wdl5]; exact decide_eq_false (wd_ne 5 (by omega) 6 (by omega) (by omega))
  have n6 : (([98, 121, 116, 101, 115] : List UInt8) == (wd 6).toList) = true := by rw [wdl6]; exact decide_eq_true rfl
  generalize wd 6 = nm at *
  go_enter Tryd.func26, Tryd.ntmps26
  go_wp2
  refine wp_loop_rounds 8 ?_
  rw [rounds_succ]; go_wp2
  rw [rounds_succ]; go_wp2
  rw [rounds_succ]; go_wp2
  rw [rounds_succ]; go_wp2
  rw [rounds_succ]; go_wp2
  rw [rounds_succ]; go_wp2
  rw [rounds_succ]; go_wp2
  go_ret
  exact ⟨rfl, Fr.alloc _ _ _⟩

/-- The number of a word; -1: none. -/
def kindOf (nm : ByteArray) : Int := match wordIdx nm with
  | some k => (k : Int)
  | none => -1

theorem wordKind_any (nm : ByteArray) (w : World) :
    Calls Tryd.prog 26 #[.string nm] w fun e w' => e = .returned (.int .i64 (kindOf nm)) ∧ Fr Zero w w' := by
  unfold kindOf
  rcases hk : wordIdx nm with _ | k
  · exact wordKind_no nm w (wordIdx_none hk)
  · obtain ⟨h7, rfl⟩ := wordIdx_some hk
    match k, h7 with
    | 0, _ => exact wordKind_yes0 w
    | 1, _ => exact wordKind_yes1 w
    | 2, _ => exact wordKind_yes2 w
    | 3, _ => exact wordKind_yes3 w
    | 4, _ => exact wordKind_yes4 w
    | 5, _ => exact wordKind_yes5 w
    | 6, _ => exact wordKind_yes6 w

end Go.Proofs.YtapblkmlhoalgaaDoor
