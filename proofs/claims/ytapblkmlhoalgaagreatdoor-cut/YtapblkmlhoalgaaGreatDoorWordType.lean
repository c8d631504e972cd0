/- What wordType tells of a word, and of what is none. -/
import Derived.Test.YtapblkmlhoalgaaGreatDoorLetters
namespace Go.Proofs.YtapblkmlhoalgaaGreatDoor
open Go.RowKit

/-- The words that mean types, by their numbers. -/
def wd : Nat → ByteArray
  | 0 => ⟨#[98, 121, 116, 101]⟩
  | 1 => ⟨#[115, 104, 111, 114, 116]⟩
  | 2 => ⟨#[119, 111, 114, 100]⟩
  | 3 => ⟨#[105, 110, 116]⟩
  | 4 => ⟨#[98, 111, 111, 108]⟩
  | 5 => ⟨#[116, 101, 120, 116]⟩
  | 6 => ⟨#[98, 121, 116, 101, 115]⟩
  | _ => ⟨#[]⟩

theorem wd_ne : ∀ i, i < 7 → ∀ j, j < 7 → i ≠ j → wd i ≠ wd j := by decide +kernel

/-- The table of words lies in memory. -/
def Words (w : World) : Prop := ∀ i, i < 7 → w.cell? ⟨5, i, none⟩ = some (.string (wd i))

theorem Words.keep {w w' : World} {X : Nat → Prop} (h : Words w) (hf : Fr X w w') (hx : ¬ X 5) : Words w' := fun i hi =>
  (hf.cell (a := ⟨5, i, none⟩) (World.block_lt_of_cell? w _ (h 0 (by omega)) : 5 < w.heap.size) hx).trans (h i hi)

theorem idx0 (a0 a1 a2 a3 a4 a5 a6 : ByteArray) (w : World) : (Instr.index 350 (.agg #[.string a0, .string a1, .string a2, .string a3, .string a4, .string a5, .string a6]) (.int .i64 0)).run Tryz.prog w = .ok (.string a0) w := by kernel_rfl
theorem idx1 (a0 a1 a2 a3 a4 a5 a6 : ByteArray) (w : World) : (Instr.index 350 (.agg #[.string a0, .string a1, .string a2, .string a3, .string a4, .string a5, .string a6]) (.int .i64 1)).run Tryz.prog w = .ok (.string a1) w := by kernel_rfl
theorem idx2 (a0 a1 a2 a3 a4 a5 a6 : ByteArray) (w : World) : (Instr.index 350 (.agg #[.string a0, .string a1, .string a2, .string a3, .string a4, .string a5, .string a6]) (.int .i64 2)).run Tryz.prog w = .ok (.string a2) w := by kernel_rfl
theorem idx3 (a0 a1 a2 a3 a4 a5 a6 : ByteArray) (w : World) : (Instr.index 350 (.agg #[.string a0, .string a1, .string a2, .string a3, .string a4, .string a5, .string a6]) (.int .i64 3)).run Tryz.prog w = .ok (.string a3) w := by kernel_rfl
theorem idx4 (a0 a1 a2 a3 a4 a5 a6 : ByteArray) (w : World) : (Instr.index 350 (.agg #[.string a0, .string a1, .string a2, .string a3, .string a4, .string a5, .string a6]) (.int .i64 4)).run Tryz.prog w = .ok (.string a4) w := by kernel_rfl
theorem idx5 (a0 a1 a2 a3 a4 a5 a6 : ByteArray) (w : World) : (Instr.index 350 (.agg #[.string a0, .string a1, .string a2, .string a3, .string a4, .string a5, .string a6]) (.int .i64 5)).run Tryz.prog w = .ok (.string a5) w := by kernel_rfl
theorem idx6 (a0 a1 a2 a3 a4 a5 a6 : ByteArray) (w : World) : (Instr.index 350 (.agg #[.string a0, .string a1, .string a2, .string a3, .string a4, .string a5, .string a6]) (.int .i64 6)).run Tryz.prog w = .ok (.string a6) w := by kernel_rfl

set_option maxRecDepth 100000 in
set_option maxHeartbeats 4000000 in
theorem wordType_no' (a0 a1 a2 a3 a4 a5 a6 nm : ByteArray) (w : World) (c0 : w.cell? ⟨5, 0, none⟩ = some (.string a0)) (c1 : w.cell? ⟨5, 1, none⟩ = some (.string a1)) (c2 : w.cell? ⟨5, 2, none⟩ = some (.string a2)) (c3 : w.cell? ⟨5, 3, none⟩ = some (.string a3))
    (c4 : w.cell? ⟨5, 4, none⟩ = some (.string a4)) (c5 : w.cell? ⟨5, 5, none⟩ = some (.string a5)) (c6 : w.cell? ⟨5, 6, none⟩ = some (.string a6))
    (n0 : (a0.toList == nm.toList) = false) (n1 : (a1.toList == nm.toList) = false) (n2 : (a2.toList == nm.toList) = false) (n3 : (a3.toList == nm.toList) = false) (n4 : (a4.toList == nm.toList) = false) (n5 : (a5.toList == nm.toList) = false) (n6 : (a6.toList == nm.toList) = false) :
    Calls Tryz.prog 253 #[.string nm] w fun e w' => e = .returned (.tuple #[.pointer none, .bool false]) ∧ w' = w := by
  have e0 := idx0 a0 a1 a2 a3 a4 a5 a6
  have e1 := idx1 a0 a1 a2 a3 a4 a5 a6
  have e2 := idx2 a0 a1 a2 a3 a4 a5 a6
  have e3 := idx3 a0 a1 a2 a3 a4 a5 a6
  have e4 := idx4 a0 a1 a2 a3 a4 a5 a6
  have e5 := idx5 a0 a1 a2 a3 a4 a5 a6
  have e6 := idx6 a0 a1 a2 a3 a4 a5 a6
  go_enter Tryz.func253, Tryz.ntmps253
  go_wp2
  refine wp_loop_rounds 8 ?_
  rw [rounds_succ]; go_wp2
  rw [rounds_succ]; go_wp2
  rw [rounds_succ]; go_wp2
  rw [rounds_succ]; go_wp2
  rw [rounds_succ]; go_wp2
  rw [rounds_succ]; go_wp2
  rw [rounds_succ]; go_wp2
  rw [rounds_succ]; go_wp2
  go_ret2
  exact ⟨rfl, rfl⟩

set_option maxRecDepth 100000 in
set_option maxHeartbeats 4000000 in
theorem wordType_yes0 (a0 a1 a2 a3 a4 a5 a6 nm : ByteArray) (w : World) (c0 : w.cell? ⟨5, 0, none⟩ = some (.string a0)) (c1 : w.cell? ⟨5, 1, none⟩ = some (.string a1)) (c2 : w.cell? ⟨5, 2, none⟩ = some (.string a2)) (c3 : w.cell? ⟨5, 3, none⟩ = some (.string a3))
    (c4 : w.cell? ⟨5, 4, none⟩ = some (.string a4)) (c5 : w.cell? ⟨5, 5, none⟩ = some (.string a5)) (c6 : w.cell? ⟨5, 6, none⟩ = some (.string a6))  (n0 : (a0.toList == nm.toList) = true) :
    Calls Tryz.prog 253 #[.string nm] w fun e w' => e = .returned (.tuple #[.pointer (some ⟨w.heap.size, 0, none⟩), .bool true]) ∧ w' = w.alloc (.cells #[.int .i64 0, .slice none 0 0, .int .i64 1] 196) := by
  have e0 := idx0 a0 a1 a2 a3 a4 a5 a6
  go_enter Tryz.func253, Tryz.ntmps253
  go_wp2
  refine wp_loop_rounds 8 ?_
  rw [rounds_succ]; go_wp2
  go_ret2
  exact ⟨rfl, rfl⟩

set_option maxRecDepth 100000 in
set_option maxHeartbeats 4000000 in
theorem wordType_yes1 (a0 a1 a2 a3 a4 a5 a6 nm : ByteArray) (w : World) (c0 : w.cell? ⟨5, 0, none⟩ = some (.string a0)) (c1 : w.cell? ⟨5, 1, none⟩ = some (.string a1)) (c2 : w.cell? ⟨5, 2, none⟩ = some (.string a2)) (c3 : w.cell? ⟨5, 3, none⟩ = some (.string a3))
    (c4 : w.cell? ⟨5, 4, none⟩ = some (.string a4)) (c5 : w.cell? ⟨5, 5, none⟩ = some (.string a5)) (c6 : w.cell? ⟨5, 6, none⟩ = some (.string a6)) (n0 : (a0.toList == nm.toList) = false) (n1 : (a1.toList == nm.toList) = true) :
    Calls Tryz.prog 253 #[.string nm] w fun e w' => e = .returned (.tuple #[.pointer (some ⟨w.heap.size, 0, none⟩), .bool true]) ∧ w' = w.alloc (.cells #[.int .i64 1, .slice none 0 0, .int .i64 1] 196) := by
  have e0 := idx0 a0 a1 a2 a3 a4 a5 a6
  have e1 := idx1 a0 a1 a2 a3 a4 a5 a6
  go_enter Tryz.func253, Tryz.ntmps253
  go_wp2
  refine wp_loop_rounds 8 ?_
  rw [rounds_succ]; go_wp2
  rw [rounds_succ]; go_wp2
  go_ret2
  exact ⟨rfl, rfl⟩

set_option maxRecDepth 100000 in
set_option maxHeartbeats 4000000 in
theorem wordType_yes2 (a0 a1 a2 a3 a4 a5 a6 nm : ByteArray) (w : World) (c0 : w.cell? ⟨5, 0, none⟩ = some (.string a0)) (c1 : w.cell? ⟨5, 1, none⟩ = some (.string a1)) (c2 : w.cell? ⟨5, 2, none⟩ = some (.string a2)) (c3 : w.cell? ⟨5, 3, none⟩ = some (.string a3))
    (c4 : w.cell? ⟨5, 4, none⟩ = some (.string a4)) (c5 : w.cell? ⟨5, 5, none⟩ = some (.string a5)) (c6 : w.cell? ⟨5, 6, none⟩ = some (.string a6)) (n0 : (a0.toList == nm.toList) = false) (n1 : (a1.toList == nm.toList) = false) (n2 : (a2.toList == nm.toList) = true) :
    Calls Tryz.prog 253 #[.string nm] w fun e w' => e = .returned (.tuple #[.pointer (some ⟨w.heap.size, 0, none⟩), .bool true]) ∧ w' = w.alloc (.cells #[.int .i64 2, .slice none 0 0, .int .i64 1] 196) := by
  have e0 := idx0 a0 a1 a2 a3 a4 a5 a6
  have e1 := idx1 a0 a1 a2 a3 a4 a5 a6
  have e2 := idx2 a0 a1 a2 a3 a4 a5 a6
  go_enter Tryz.func253, Tryz.ntmps253
  go_wp2
  refine wp_loop_rounds 8 ?_
  rw [rounds_succ]; go_wp2
  rw [rounds_succ]; go_wp2
  rw [rounds_succ]; go_wp2
  go_ret2
  exact ⟨rfl, rfl⟩

set_option maxRecDepth 100000 in
set_option maxHeartbeats 4000000 in
theorem wordType_yes3 (a0 a1 a2 a3 a4 a5 a6 nm : ByteArray) (w : World) (c0 : w.cell? ⟨5, 0, none⟩ = some (.string a0)) (c1 : w.cell? ⟨5, 1, none⟩ = some (.string a1)) (c2 : w.cell? ⟨5, 2, none⟩ = some (.string a2)) (c3 : w.cell? ⟨5, 3, none⟩ = some (.string a3))
    (c4 : w.cell? ⟨5, 4, none⟩ = some (.string a4)) (c5 : w.cell? ⟨5, 5, none⟩ = some (.string a5)) (c6 : w.cell? ⟨5, 6, none⟩ = some (.string a6)) (n0 : (a0.toList == nm.toList) = false) (n1 : (a1.toList == nm.toList) = false) (n2 : (a2.toList == nm.toList) = false) (n3 : (a3.toList == nm.toList) = true) :
    Calls Tryz.prog 253 #[.string nm] w fun e w' => e = .returned (.tuple #[.pointer (some ⟨w.heap.size, 0, none⟩), .bool true]) ∧ w' = w.alloc (.cells #[.int .i64 3, .slice none 0 0, .int .i64 1] 196) := by
  have e0 := idx0 a0 a1 a2 a3 a4 a5 a6
  have e1 := idx1 a0 a1 a2 a3 a4 a5 a6
  have e2 := idx2 a0 a1 a2 a3 a4 a5 a6
  have e3 := idx3 a0 a1 a2 a3 a4 a5 a6
  go_enter Tryz.func253, Tryz.ntmps253
  go_wp2
  refine wp_loop_rounds 8 ?_
  rw [rounds_succ]; go_wp2
  rw [rounds_succ]; go_wp2
  rw [rounds_succ]; go_wp2
  rw [rounds_succ]; go_wp2
  go_ret2
  exact ⟨rfl, rfl⟩

set_option maxRecDepth 100000 in
set_option maxHeartbeats 4000000 in
theorem wordType_yes4 (a0 a1 a2 a3 a4 a5 a6 nm : ByteArray) (w : World) (c0 : w.cell? ⟨5, 0, none⟩ = some (.string a0)) (c1 : w.cell? ⟨5, 1, none⟩ = some (.string a1)) (c2 : w.cell? ⟨5, 2, none⟩ = some (.string a2)) (c3 : w.cell? ⟨5, 3, none⟩ = some (.string a3))
    (c4 : w.cell? ⟨5, 4, none⟩ = some (.string a4)) (c5 : w.cell? ⟨5, 5, none⟩ = some (.string a5)) (c6 : w.cell? ⟨5, 6, none⟩ = some (.string a6)) (n0 : (a0.toList == nm.toList) = false) (n1 : (a1.toList == nm.toList) = false) (n2 : (a2.toList == nm.toList) = false) (n3 : (a3.toList == nm.toList) = false) (n4 : (a4.toList == nm.toList) = true) :
    Calls Tryz.prog 253 #[.string nm] w fun e w' => e = .returned (.tuple #[.pointer (some ⟨w.heap.size, 0, none⟩), .bool true]) ∧ w' = w.alloc (.cells #[.int .i64 4, .slice none 0 0, .int .i64 1] 196) := by
  have e0 := idx0 a0 a1 a2 a3 a4 a5 a6
  have e1 := idx1 a0 a1 a2 a3 a4 a5 a6
  have e2 := idx2 a0 a1 a2 a3 a4 a5 a6
  have e3 := idx3 a0 a1 a2 a3 a4 a5 a6
  have e4 := idx4 a0 a1 a2 a3 a4 a5 a6
  go_enter Tryz.func253, Tryz.ntmps253
  go_wp2
  refine wp_loop_rounds 8 ?_
  rw [rounds_succ]; go_wp2
  rw [rounds_succ]; go_wp2
  rw [rounds_succ]; go_wp2
  rw [rounds_succ]; go_wp2
  rw [rounds_succ]; go_wp2
  go_ret2
  exact ⟨rfl, rfl⟩

set_option maxRecDepth 100000 in
set_option maxHeartbeats 4000000 in
theorem wordType_yes5 (a0 a1 a2 a3 a4 a5 a6 nm : ByteArray) (w : World) (c0 : w.cell? ⟨5, 0, none⟩ = some (.string a0)) (c1 : w.cell? ⟨5, 1, none⟩ = some (.string a1)) (c2 : w.cell? ⟨5, 2, none⟩ = some (.string a2)) (c3 : w.cell? ⟨5, 3, none⟩ = some (.string a3))
    (c4 : w.cell? ⟨5, 4, none⟩ = some (.string a4)) (c5 : w.cell? ⟨5, 5, none⟩ = some (.string a5)) (c6 : w.cell? ⟨5, 6, none⟩ = some (.string a6)) (n0 : (a0.toList == nm.toList) = false) (n1 : (a1.toList == nm.toList) = false) (n2 : (a2.toList == nm.toList) = false) (n3 : (a3.toList == nm.toList) = false) (n4 : (a4.toList == nm.toList) = false) (n5 : (a5.toList == nm.toList) = true) :
    Calls Tryz.prog 253 #[.string nm] w fun e w' => e = .returned (.tuple #[.pointer (some ⟨w.heap.size, 0, none⟩), .bool true]) ∧ w' = w.alloc (.cells #[.int .i64 5, .slice none 0 0, .int .i64 1] 196) := by
  have e0 := idx0 a0 a1 a2 a3 a4 a5 a6
  have e1 := idx1 a0 a1 a2 a3 a4 a5 a6
  have e2 := idx2 a0 a1 a2 a3 a4 a5 a6
  have e3 := idx3 a0 a1 a2 a3 a4 a5 a6
  have e4 := idx4 a0 a1 a2 a3 a4 a5 a6
  have e5 := idx5 a0 a1 a2 a3 a4 a5 a6
  go_enter Tryz.func253, Tryz.ntmps253
  go_wp2
  refine wp_loop_rounds 8 ?_
  rw [rounds_succ]; go_wp2
  rw [rounds_succ]; go_wp2
  rw [rounds_succ]; go_wp2
  rw [rounds_succ]; go_wp2
  rw [rounds_succ]; go_wp2
  rw [rounds_succ]; go_wp2
  go_ret2
  exact ⟨rfl, rfl⟩

set_option maxRecDepth 100000 in
set_option maxHeartbeats 4000000 in
theorem wordType_yes6 (a0 a1 a2 a3 a4 a5 a6 nm : ByteArray) (w : World) (c0 : w.cell? ⟨5, 0, none⟩ = some (.string a0)) (c1 : w.cell? ⟨5, 1, none⟩ = some (.string a1)) (c2 : w.cell? ⟨5, 2, none⟩ = some (.string a2)) (c3 : w.cell? ⟨5, 3, none⟩ = some (.string a3))
    (c4 : w.cell? ⟨5, 4, none⟩ = some (.string a4)) (c5 : w.cell? ⟨5, 5, none⟩ = some (.string a5)) (c6 : w.cell? ⟨5, 6, none⟩ = some (.string a6)) (n0 : (a0.toList == nm.toList) = false) (n1 : (a1.toList == nm.toList) = false) (n2 : (a2.toList == nm.toList) = false) (n3 : (a3.toList == nm.toList) = false) (n4 : (a4.toList == nm.toList) = false) (n5 : (a5.toList == nm.toList) = false) (n6 : (a6.toList == nm.toList) = true) :
    Calls Tryz.prog 253 #[.string nm] w fun e w' => e = .returned (.tuple #[.pointer (some ⟨w.heap.size, 0, none⟩), .bool true]) ∧ w' = w.alloc (.cells #[.int .i64 6, .slice none 0 0, .int .i64 1] 196) := by
  have e0 := idx0 a0 a1 a2 a3 a4 a5 a6
  have e1 := idx1 a0 a1 a2 a3 a4 a5 a6
  have e2 := idx2 a0 a1 a2 a3 a4 a5 a6
  have e3 := idx3 a0 a1 a2 a3 a4 a5 a6
  have e4 := idx4 a0 a1 a2 a3 a4 a5 a6
  have e5 := idx5 a0 a1 a2 a3 a4 a5 a6
  have e6 := idx6 a0 a1 a2 a3 a4 a5 a6
  go_enter Tryz.func253, Tryz.ntmps253
  go_wp2
  refine wp_loop_rounds 8 ?_
  rw [rounds_succ]; go_wp2
  rw [rounds_succ]; go_wp2
  rw [rounds_succ]; go_wp2
  rw [rounds_succ]; go_wp2
  rw [rounds_succ]; go_wp2
  rw [rounds_succ]; go_wp2
  rw [rounds_succ]; go_wp2
  go_ret2
  exact ⟨rfl, rfl⟩

end Go.Proofs.YtapblkmlhoalgaaGreatDoor
