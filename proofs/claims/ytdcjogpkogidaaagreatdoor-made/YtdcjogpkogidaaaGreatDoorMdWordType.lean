/- What wordType tells of a word, and of what is none. An append that tells whether its array is the old one or a new one. What find finds in a row of parts, and refuseName, refuseDepth. Types as trees: what a description's text is read as, and how such a tree lies in memory. -/
import Derived.ArgAppend
import Derived.Test.YtdcjogpkogidaaaGreatDoorMdReader
namespace Go.Proofs.YtdcjogpkogidaaaGreatDoor
open Go.RowKit

/-- The words that mean types, by their numbers. -/
def wd : Nat → ByteArray
  | 0 => ⟨#[98, 121, 116, 101]⟩
  | 1 => ⟨#[115, 104, 111, 114, 116]⟩
  | 2 => ⟨#[119, 111, 114, 100]⟩
  | 3 => ⟨#[105, 110, 116]⟩
  | 4 => ⟨#[98, 111, 111, 108]⟩
  | 5 => ⟨#[116, 101, 120, 116]⟩
  | 6 => ⟨#[98, 121, 116, 101, 115]⟩
  | _ => ⟨#[]⟩

theorem wd_ne : ∀ i, i < 7 → ∀ j, j < 7 → i ≠ j → wd i ≠ wd j := by decide +kernel

/-- The table of words lies in memory. -/
def Words (w : World) : Prop := ∀ i, i < 7 → w.cell? ⟨4, i, none⟩ = some (.string (wd i))

theorem Words.keep {w w' : World} {X : Nat → Prop} (h : Words w) (hf : Fr X w w') (hx : ¬ X 4) : Words w' := fun i hi =>
  (hf.cell (a := ⟨4, i, none⟩) (World.block_lt_of_cell? w _ (h 0 (by omega)) : 4 < w.heap.size) hx).trans (h i hi)

theorem idx0 (a0 a1 a2 a3 a4 a5 a6 : ByteArray) (w : World) : (Instr.index 326 (.agg #[.string a0, .string a1, .string a2, .string a3, .string a4, .string a5, .string a6]) (.int .i64 0)).run Tryz.prog w = .ok (.string a0) w := by kernel_rfl
theorem idx1 (a0 a1 a2 a3 a4 a5 a6 : ByteArray) (w : World) : (Instr.index 326 (.agg #[.string a0, .string a1, .string a2, .string a3, .string a4, .string a5, .string a6]) (.int .i64 1)).run Tryz.prog w = .ok (.string a1) w := by kernel_rfl
theorem idx2 (a0 a1 a2 a3 a4 a5 a6 : ByteArray) (w : World) : (Instr.index 326 (.agg #[.string a0, .string a1, .string a2, .string a3, .string a4, .string a5, .string a6]) (.int .i64 2)).run Tryz.prog w = .ok (.string a2) w := by kernel_rfl
theorem idx3 (a0 a1 a2 a3 a4 a5 a6 : ByteArray) (w : World) : (Instr.index 326 (.agg #[.string a0, .string a1, .string a2, .string a3, .string a4, .string a5, .string a6]) (.int .i64 3)).run Tryz.prog w = .ok (.string a3) w := by kernel_rfl
theorem idx4 (a0 a1 a2 a3 a4 a5 a6 : ByteArray) (w : World) : (Instr.index 326 (.agg #[.string a0, .string a1, .string a2, .string a3, .string a4, .string a5, .string a6]) (.int .i64 4)).run Tryz.prog w = .ok (.string a4) w := by kernel_rfl
theorem idx5 (a0 a1 a2 a3 a4 a5 a6 : ByteArray) (w : World) : (Instr.index 326 (.agg #[.string a0, .string a1, .string a2, .string a3, .string a4, .string a5, .string a6]) (.int .i64 5)).run Tryz.prog w = .ok (.string a5) w := by kernel_rfl
theorem idx6 (a0 a1 a2 a3 a4 a5 a6 : ByteArray) (w : World) : (Instr.index 326 (.agg #[.string a0, .string a1, .string a2, .string a3, .string a4, .string a5, .string a6]) (.int .i64 6)).run Tryz.prog w = .ok (.string a6) w := by kernel_rfl

set_option maxRecDepth 100000 in
set_option maxHeartbeats 4000000 in
theorem wordType_no' (a0 a1 a2 a3 a4 a5 a6 nm : ByteArray) (w : World) (c0 : w.cell? ⟨4, 0, none⟩ = some (.string a0)) (c1 : w.cell? ⟨4, 1, none⟩ = some (.string a1)) (c2 : w.cell? ⟨4, 2, none⟩ = some (.string a2)) (c3 : w.cell? ⟨4, 3, none⟩ = some (.string a3))
    (c4 : w.cell? ⟨4, 4, none⟩ = some (.string a4)) (c5 : w.cell? ⟨4, 5, none⟩ = some (.string a5)) (c6 : w.cell? ⟨4, 6, none⟩ = some (.string a6))
    (n0 : (a0.toList == nm.toList) = false) (n1 : (a1.toList == nm.toList) = false) (n2 : (a2.toList == nm.toList) = false) (n3 : (a3.toList == nm.toList) = false) (n4 : (a4.toList == nm.toList) = false) (n5 : (a5.toList == nm.toList) = false) (n6 : (a6.toList == nm.toList) = false) :
    Calls Tryz.prog 215 #[.string nm] w fun e w' => e = .returned (.tuple #[.pointer none, .bool false]) ∧ w' = w := by
  have e0 := idx0 a0 a1 a2 a3 a4 a5 a6
  have e1 := idx1 a0 a1 a2 a3 a4 a5 a6
  have e2 := idx2 a0 a1 a2 a3 a4 a5 a6
  have e3 := idx3 a0 a1 a2 a3 a4 a5 a6
  have e4 := idx4 a0 a1 a2 a3 a4 a5 a6
  have e5 := idx5 a0 a1 a2 a3 a4 a5 a6
  have e6 := idx6 a0 a1 a2 a3 a4 a5 a6
  go_enter Tryz.func215, Tryz.ntmps215
  go_wp2
  refine wp_loop_rounds 8 ?_
  rw [rounds_succ]; go_wp2
  rw [rounds_succ]; go_wp2
  rw [rounds_succ]; go_wp2
  rw [rounds_succ]; go_wp2
  rw [rounds_succ]; go_wp2
  rw [rounds_succ]; go_wp2
  rw [rounds_succ]; go_wp2
  rw [rounds_succ]; go_wp2
  go_ret2
  exact ⟨rfl, rfl⟩

set_option maxRecDepth 100000 in
set_option maxHeartbeats 4000000 in
theorem wordType_yes0 (a0 a1 a2 a3 a4 a5 a6 nm : ByteArray) (w : World) (c0 : w.cell? ⟨4, 0, none⟩ = some (.string a0)) (c1 : w.cell? ⟨4, 1, none⟩ = some (.string a1)) (c2 : w.cell? ⟨4, 2, none⟩ = some (.string a2)) (c3 : w.cell? ⟨4, 3, none⟩ = some (.string a3))
    (c4 : w.cell? ⟨4, 4, none⟩ = some (.string a4)) (c5 : w.cell? ⟨4, 5, none⟩ = some (.string a5)) (c6 : w.cell? ⟨4, 6, none⟩ = some (.string a6))  (n0 : (a0.toList == nm.toList) = true) :
    Calls Tryz.prog 215 #[.string nm] w fun e w' => e = .returned (.tuple #[.pointer (some ⟨w.heap.size, 0, none⟩), .bool true]) ∧ w' = w.alloc (.cells #[.int .i64 0, .slice none 0 0, .int .i64 1] 230) := by
  have e0 := idx0 a0 a1 a2 a3 a4 a5 a6
  go_enter Tryz.func215, Tryz.ntmps215
  go_wp2
  refine wp_loop_rounds 8 ?_
  rw [rounds_succ]; go_wp2
  go_ret2
  exact ⟨rfl, rfl⟩

set_option maxRecDepth 100000 in
set_option maxHeartbeats 4000000 in
theorem wordType_yes1 (a0 a1 a2 a3 a4 a5 a6 nm : ByteArray) (w : World) (c0 : w.cell? ⟨4, 0, none⟩ = some (.string a0)) (c1 : w.cell? ⟨4, 1, none⟩ = some (.string a1)) (c2 : w.cell? ⟨4, 2, none⟩ = some (.string a2)) (c3 : w.cell? ⟨4, 3, none⟩ = some (.string a3))
    (c4 : w.cell? ⟨4, 4, none⟩ = some (.string a4)) (c5 : w.cell? ⟨4, 5, none⟩ = some (.string a5)) (c6 : w.cell? ⟨4, 6, none⟩ = some (.string a6)) (n0 : (a0.toList == nm.toList) = false) (n1 : (a1.toList == nm.toList) = true) :
    Calls Tryz.prog 215 #[.string nm] w fun e w' => e = .returned (.tuple #[.pointer (some ⟨w.heap.size, 0, none⟩), .bool true]) ∧ w' = w.alloc (.cells #[.int .i64 1, .slice none 0 0, .int .i64 1] 230) := by
  have e0 := idx0 a0 a1 a2 a3 a4 a5 a6
  have e1 := idx1 a0 a1 a2 a3 a4 a5 a6
  go_enter Tryz.func215, Tryz.ntmps215
  go_wp2
  refine wp_loop_rounds 8 ?_
  rw [rounds_succ]; go_wp2
  rw [rounds_succ]; go_wp2
  go_ret2
  exact ⟨rfl, rfl⟩

set_option maxRecDepth 100000 in
set_option maxHeartbeats 4000000 in
theorem wordType_yes2 (a0 a1 a2 a3 a4 a5 a6 nm : ByteArray) (w : World) (c0 : w.cell? ⟨4, 0, none⟩ = some (.string a0)) (c1 : w.cell? ⟨4, 1, none⟩ = some (.string a1)) (c2 : w.cell? ⟨4, 2, none⟩ = some (.string a2)) (c3 : w.cell? ⟨4, 3, none⟩ = some (.string a3))
    (c4 : w.cell? ⟨4, 4, none⟩ = some (.string a4)) (c5 : w.cell? ⟨4, 5, none⟩ = some (.string a5)) (c6 : w.cell? ⟨4, 6, none⟩ = some (.string a6)) (n0 : (a0.toList == nm.toList) = false) (n1 : (a1.toList == nm.toList) = false) (n2 : (a2.toList == nm.toList) = true) :
    Calls Tryz.prog 215 #[.string nm] w fun e w' => e = .returned (.tuple #[.pointer (some ⟨w.heap.size, 0, none⟩), .bool true]) ∧ w' = w.alloc (.cells #[.int .i64 2, .slice none 0 0, .int .i64 1] 230) := by
  have e0 := idx0 a0 a1 a2 a3 a4 a5 a6
  have e1 := idx1 a0 a1 a2 a3 a4 a5 a6
  have e2 := idx2 a0 a1 a2 a3 a4 a5 a6
  go_enter Tryz.func215, Tryz.ntmps215
  go_wp2
  refine wp_loop_rounds 8 ?_
  rw [rounds_succ]; go_wp2
  rw [rounds_succ]; go_wp2
  rw [rounds_succ]; go_wp2
  go_ret2
  exact ⟨rfl, rfl⟩

set_option maxRecDepth 100000 in
set_option maxHeartbeats 4000000 in
theorem wordType_yes3 (a0 a1 a2 a3 a4 a5 a6 nm : ByteArray) (w : World) (c0 : w.cell? ⟨4, 0, none⟩ = some (.string a0)) (c1 : w.cell? ⟨4, 1, none⟩ = some (.string a1)) (c2 : w.cell? ⟨4, 2, none⟩ = some (.string a2)) (c3 : w.cell? ⟨4, 3, none⟩ = some (.string a3))
    (c4 : w.cell? ⟨4, 4, none⟩ = some (.string a4)) (c5 : w.cell? ⟨4, 5, none⟩ = some (.string a5)) (c6 : w.cell? ⟨4, 6, none⟩ = some (.string a6)) (n0 : (a0.toList == nm.toList) = false) (n1 : (a1.toList == nm.toList) = false) (n2 : (a2.toList == nm.toList) = false) (n3 : (a3.toList == nm.toList) = true) :
    Calls Tryz.prog 215 #[.string nm] w fun e w' => e = .returned (.tuple #[.pointer (some ⟨w.heap.size, 0, none⟩), .bool true]) ∧ w' = w.alloc (.cells #[.int .i64 3, .slice none 0 0, .int .i64 1] 230) := by
  have e0 := idx0 a0 a1 a2 a3 a4 a5 a6
  have e1 := idx1 a0 a1 a2 a3 a4 a5 a6
  have e2 := idx2 a0 a1 a2 a3 a4 a5 a6
  have e3 := idx3 a0 a1 a2 a3 a4 a5 a6
  go_enter Tryz.func215, Tryz.ntmps215
  go_wp2
  refine wp_loop_rounds 8 ?_
  rw [rounds_succ]; go_wp2
  rw [rounds_succ]; go_wp2
  rw [rounds_succ]; go_wp2
  rw [rounds_succ]; go_wp2
  go_ret2
  exact ⟨rfl, rfl⟩

set_option maxRecDepth 100000 in
set_option maxHeartbeats 4000000 in
theorem wordType_yes4 (a0 a1 a2 a3 a4 a5 a6 nm : ByteArray) (w : World) (c0 : w.cell? ⟨4, 0, none⟩ = some (.string a0)) (c1 : w.cell? ⟨4, 1, none⟩ = some (.string a1)) (c2 : w.cell? ⟨4, 2, none⟩ = some (.string a2)) (c3 : w.cell? ⟨4, 3, none⟩ = some (.string a3))
    (c4 : w.cell? ⟨4, 4, none⟩ = some (.string a4)) (c5 : w.cell? ⟨4, 5, none⟩ = some (.string a5)) (c6 : w.cell? ⟨4, 6, none⟩ = some (.string a6)) (n0 : (a0.toList == nm.toList) = false) (n1 : (a1.toList == nm.toList) = false) (n2 : (a2.toList == nm.toList) = false) (n3 : (a3.toList == nm.toList) = false) (n4 : (a4.toList == nm.toList) = true) :
    Calls Tryz.prog 215 #[.string nm] w fun e w' => e = .returned (.tuple #[.pointer (some ⟨w.heap.size, 0, none⟩), .bool true]) ∧ w' = w.alloc (.cells #[.int .i64 4, .slice none 0 0, .int .i64 1] 230) := by
  have e0 := idx0 a0 a1 a2 a3 a4 a5 a6
  have e1 := idx1 a0 a1 a2 a3 a4 a5 a6
  have e2 := idx2 a0 a1 a2 a3 a4 a5 a6
  have e3 := idx3 a0 a1 a2 a3 a4 a5 a6
  have e4 := idx4 a0 a1 a2 a3 a4 a5 a6
  go_enter Tryz.func215, Tryz.ntmps215
  go_wp2
  refine wp_loop_rounds 8 ?_
  rw [rounds_succ]; go_wp2
  rw [rounds_succ]; go_wp2
  rw [rounds_succ]; go_wp2
  rw [rounds_succ]; go_wp2
  rw [rounds_succ]; go_wp2
  go_ret2
  exact ⟨rfl, rfl⟩

set_option maxRecDepth 100000 in
set_option maxHeartbeats 4000000 in
theorem wordType_yes5 (a0 a1 a2 a3 a4 a5 a6 nm : ByteArray) (w : World) (c0 : w.cell? ⟨4, 0, none⟩ = some (.string a0)) (c1 : w.cell? ⟨4, 1, none⟩ = some (.string a1)) (c2 : w.cell? ⟨4, 2, none⟩ = some (.string a2)) (c3 : w.cell? ⟨4, 3, none⟩ = some (.string a3))
    (c4 : w.cell? ⟨4, 4, none⟩ = some (.string a4)) (c5 : w.cell? ⟨4, 5, none⟩ = some (.string a5)) (c6 : w.cell? ⟨4, 6, none⟩ = some (.string a6)) (n0 : (a0.toList == nm.toList) = false) (n1 : (a1.toList == nm.toList) = false) (n2 : (a2.toList == nm.toList) = false) (n3 : (a3.toList == nm.toList) = false) (n4 : (a4.toList == nm.toList) = false) (n5 : (a5.toList == nm.toList) = true) :
    Calls Tryz.prog 215 #[.string nm] w fun e w' => e = .returned (.tuple #[.pointer (some ⟨w.heap.size, 0, none⟩), .bool true]) ∧ w' = w.alloc (.cells #[.int .i64 5, .slice none 0 0, .int .i64 1] 230) := by
  have e0 := idx0 a0 a1 a2 a3 a4 a5 a6
  have e1 := idx1 a0 a1 a2 a3 a4 a5 a6
  have e2 := idx2 a0 a1 a2 a3 a4 a5 a6
  have e3 := idx3 a0 a1 a2 a3 a4 a5 a6
  have e4 := idx4 a0 a1 a2 a3 a4 a5 a6
  have e5 := idx5 a0 a1 a2 a3 a4 a5 a6
  go_enter Tryz.func215, Tryz.ntmps215
  go_wp2
  refine wp_loop_rounds 8 ?_
  rw [rounds_succ]; go_wp2
  rw [rounds_succ]; go_wp2
  rw [rounds_succ]; go_wp2
  rw [rounds_succ]; go_wp2
  rw [rounds_succ]; go_wp2
  rw [rounds_succ]; go_wp2
  go_ret2
  exact ⟨rfl, rfl⟩

set_option maxRecDepth 100000 in
set_option maxHeartbeats 4000000 in
theorem wordType_yes6 (a0 a1 a2 a3 a4 a5 a6 nm : ByteArray) (w : World) (c0 : w.cell? ⟨4, 0, none⟩ = some (.string a0)) (c1 : w.cell? ⟨4, 1, none⟩ = some (.string a1)) (c2 : w.cell? ⟨4, 2, none⟩ = some (.string a2)) (c3 : w.cell? ⟨4, 3, none⟩ = some (.string a3))
    (c4 : w.cell? ⟨4, 4, none⟩ = some (.string a4)) (c5 : w.cell? ⟨4, 5, none⟩ = some (.string a5)) (c6 : w.cell? ⟨4, 6, none⟩ = some (.string a6)) (n0 : (a0.toList == nm.toList) = false) (n1 : (a1.toList == nm.toList) = false) (n2 : (a2.toList == nm.toList) = false) (n3 : (a3.toList == nm.toList) = false) (n4 : (a4.toList == nm.toList) = false) (n5 : (a5.toList == nm.toList) = false) (n6 : (a6.toList == nm.toList) = true) :
    Calls Tryz.prog 215 #[.string nm] w fun e w' => e = .returned (.tuple #[.pointer (some ⟨w.heap.size, 0, none⟩), .bool true]) ∧ w' = w.alloc (.cells #[.int .i64 6, .slice none 0 0, .int .i64 1] 230) := by
  have e0 := idx0 a0 a1 a2 a3 a4 a5 a6
  have e1 := idx1 a0 a1 a2 a3 a4 a5 a6
  have e2 := idx2 a0 a1 a2 a3 a4 a5 a6
  have e3 := idx3 a0 a1 a2 a3 a4 a5 a6
  have e4 := idx4 a0 a1 a2 a3 a4 a5 a6
  have e5 := idx5 a0 a1 a2 a3 a4 a5 a6
  have e6 := idx6 a0 a1 a2 a3 a4 a5 a6
  go_enter Tryz.func215, Tryz.ntmps215
  go_wp2
  refine wp_loop_rounds 8 ?_
  rw [rounds_succ]; go_wp2
  rw [rounds_succ]; go_wp2
  rw [rounds_succ]; go_wp2
  rw [rounds_succ]; go_wp2
  rw [rounds_succ]; go_wp2
  rw [rounds_succ]; go_wp2
  rw [rounds_succ]; go_wp2
  go_ret2
  exact ⟨rfl, rfl⟩

end Go.Proofs.YtdcjogpkogidaaaGreatDoor

namespace Go.Proofs.YtdcjogpkogidaaaGreatDoor
open Go.RowKit

theorem strEq (a b : ByteArray) : (a.toList == b.toList) = decide (a = b) := by
  rw [Bool.eq_iff_iff]
  simp only [beq_iff_eq, decide_eq_true_eq]
  rw [ByteArray.toList_eq, ByteArray.toList_eq]
  constructor
  · intro h; exact Go.WideShapes.bytes_inj h
  · intro h; rw [h]

theorem run_append_mine {P : Program} (w : World) (base : Nat) (t ty e : TypeId) (i : TypeInfo) (z : Value) (size bytes : Nat) (ht : P.underlying t = some (.slice e)) (hi : P.info? e = some i) (hz : i.zero = some z)
    (hsize : i.size = size) (hby : i.bytes = bytes) (hzs : z.cells.size = size) (hsz : 0 < size)
    (v : Value) (n : Nat) (xs : List Value) (hown : w.ownsRow base e size v n xs)
    (a : Addr) (m c : Nat) (hm : 0 < m) (news : List Value) (hl : news.length = m * size) (hnews : ∀ j u, news[j]? = some u → w.cell? (a.add j) = some u) (h1 : ∀ u ∈ news, u.oneCell' = true)
    (h63 : n + m ≤ maxLen) (hbytes : (n + m) * bytes ≤ 140737488355328) (hbase : base ≤ w.heap.size) :
    ∃ v' w', (Builtin.append_ #[t, t] ty #[v, .slice (some a) m c]).run P w = .ok v' w' ∧ w'.ownsRow base e size v' (n + m) (xs ++ news) ∧ w.grownBy w' v.ownBlock ∧
      (∃ g cap, v' = .slice (some ⟨g, 0, none⟩) (n + m) cap ∧ (v.ownBlock = some g ∨ w.heap.size ≤ g)) := by
  have hown' := hown
  rcases hown.2 with ⟨rfl, rfl⟩ | ⟨g, cap, cur, rfl, hbg, hg, hnc, hcm, hcs, htake⟩
  · have hx : xs = [] := List.eq_nil_of_length_eq_zero (by simpa using hown.1)
    subst hx
    obtain ⟨v', w', hr, ho, hgr, hn⟩ := run_append_own (P := P) w w.heap.size t ty e i z size bytes ht hi hz hsize hby hzs hsz _ 0 [] (World.ownsRow_nil w _ e size) a m c news hl hnews h1 h63 hbytes (Nat.le_refl _)
    refine ⟨v', w', hr, ⟨ho.1, ?_⟩, hgr, ?_⟩
    · rcases ho.2 with h | ⟨g, cap, cur, q1, q2, q3⟩
      · exact .inl h
      · exact .inr ⟨g, cap, cur, q1, Nat.le_trans hbase q2, q3⟩
    · rcases ho.2 with ⟨_, h⟩ | ⟨g, cap, cur, q1, q2, q3⟩
      · omega
      · exact ⟨g, cap, q1, .inr q2⟩
  · by_cases hroom : n + m ≤ cap
    · obtain ⟨w', hr, ho, hgr⟩ := run_append_fits (P := P) w base t ty e i size ht hi hsize g n cap xs hown a m c news hl hnews h1 hroom
      exact ⟨_, w', hr, ho, hgr, g, cap, rfl, .inl rfl⟩
    · have holds : ∀ j u, xs[j]? = some u → w.cell? ((⟨g, 0, none⟩ : Addr).add j) = some u := hown.cells (g := g) rfl
      obtain ⟨v', w', hr, ho, hgr⟩ := run_append_arg_grows (P := P) w t ty e i z size bytes ht hi hz hsize hby hzs hsz ⟨g, 0, none⟩ n cap xs hown.1 holds a m c news hl hnews (by omega) h63 hbytes
      refine ⟨v', w', hr, ⟨ho.1, ?_⟩, ⟨hgr.os, hgr.tape, hgr.output, hgr.size, fun k hk _ => hgr.block k hk (by simp)⟩, ?_⟩
      · rcases ho.2 with h | ⟨g, cap, cur, q1, q2, q3⟩
        · exact .inl h
        · exact .inr ⟨g, cap, cur, q1, Nat.le_trans hbase q2, q3⟩
      · rcases ho.2 with ⟨_, h⟩ | ⟨g, cap, cur, q1, q2, q3⟩
        · omega
        · exact ⟨g, cap, q1, .inr q2⟩

theorem wpList_append_mine {P : Program} (w : World) {ops : Array Oper} {rest : List Oper} {o : Oper} {a : Act} {Q : Exit → Act → World → Prop}
    (hg : o.guard = none) (s x : Operand) (t : TypeId) (hop : o.op = Op.call { callee := Callee.builtin Builtin.append, args := #[s, x], argTypes := #[t, t] })
    (base : Nat) (e : TypeId) (i : TypeInfo) (z : Value) (size bytes : Nat) (ht : P.underlying t = some (.slice e)) (hi : P.info? e = some i) (hz : i.zero = some z)
    (hsize : i.size = size) (hby : i.bytes = bytes) (hzs : z.cells.size = size) (hsz : 0 < size)
    (v : Value) (n : Nat) (xs : List Value) (hs : a.eval s = v) (hown : w.ownsRow base e size v n xs)
    (ad : Addr) (m c : Nat) (hm : 0 < m) (news : List Value) (hx : a.eval x = .slice (some ad) m c) (hl : news.length = m * size) (hnews : ∀ j u, news[j]? = some u → w.cell? (ad.add j) = some u) (h1 : ∀ u ∈ news, u.oneCell' = true)
    (h63 : n + m ≤ maxLen) (hbytes : (n + m) * bytes ≤ 140737488355328) (hbase : base ≤ w.heap.size)
    (hK : ∀ v' w', w'.ownsRow base e size v' (n + m) (xs ++ news) → w.grownBy w' v.ownBlock → (∃ g cap, v' = .slice (some ⟨g, 0, none⟩) (n + m) cap ∧ (v.ownBlock = some g ∨ w.heap.size ≤ g)) → wpList P ops Q rest (a.put o.dst v') w') :
    wpList P ops Q (o :: rest) a w := by
  refine wpList_plain hg fun K hK' => ?_
  obtain ⟨v', w', hrun, r1, r2, r3⟩ := run_append_mine (P := P) w base t o.type e i z size bytes ht hi hz hsize hby hzs hsz v n xs hown ad m c hm news hl hnews h1 h63 hbytes hbase
  unfold Oper.wp
  simp [execOp, hop, resolve, invoke, builtin, hs, hx, hrun, Result.andThen]
  exact hK' _ _ (hK v' w' r1 r2 r3)

theorem wordType_none (nm : ByteArray) (w : World) (hw : Words w) (hno : ∀ i, i < 7 → wd i ≠ nm) :
    Calls Tryz.prog 215 #[.string nm] w fun e w' => e = .returned (.tuple #[.pointer none, .bool false]) ∧ w' = w := by
  have f : ∀ i, i < 7 → ((wd i).toList == nm.toList) = false := fun i hi => by rw [strEq]; exact decide_eq_false (hno i hi)
  exact wordType_no' (wd 0) (wd 1) (wd 2) (wd 3) (wd 4) (wd 5) (wd 6) nm w (hw 0 (by omega)) (hw 1 (by omega)) (hw 2 (by omega)) (hw 3 (by omega)) (hw 4 (by omega)) (hw 5 (by omega)) (hw 6 (by omega))
    (f 0 (by omega)) (f 1 (by omega)) (f 2 (by omega)) (f 3 (by omega)) (f 4 (by omega)) (f 5 (by omega)) (f 6 (by omega))

theorem wordType_some (k : Nat) (hk : k < 7) (w : World) (hw : Words w) :
    Calls Tryz.prog 215 #[.string (wd k)] w fun e w' => e = .returned (.tuple #[.pointer (some ⟨w.heap.size, 0, none⟩), .bool true]) ∧ w' = w.alloc (.cells #[.int .i64 k, .slice none 0 0, .int .i64 1] 230) := by
  have f : ∀ i, i < 7 → i ≠ k → ((wd i).toList == (wd k).toList) = false := fun i hi hne => by
    rw [strEq]
    exact decide_eq_false (wd_ne i hi k hk hne)
  have y : ((wd k).toList == (wd k).toList) = true := by simp
  match k, hk with
  | 0, _ => exact wordType_yes0 (wd 0) (wd 1) (wd 2) (wd 3) (wd 4) (wd 5) (wd 6) _ w (hw 0 (by omega)) (hw 1 (by omega)) (hw 2 (by omega)) (hw 3 (by omega)) (hw 4 (by omega)) (hw 5 (by omega)) (hw 6 (by omega)) y
  | 1, _ => exact wordType_yes1 (wd 0) (wd 1) (wd 2) (wd 3) (wd 4) (wd 5) (wd 6) _ w (hw 0 (by omega)) (hw 1 (by omega)) (hw 2 (by omega)) (hw 3 (by omega)) (hw 4 (by omega)) (hw 5 (by omega)) (hw 6 (by omega)) (f 0 (by omega) (by omega)) y
  | 2, _ => exact wordType_yes2 (wd 0) (wd 1) (wd 2) (wd 3) (wd 4) (wd 5) (wd 6) _ w (hw 0 (by omega)) (hw 1 (by omega)) (hw 2 (by omega)) (hw 3 (by omega)) (hw 4 (by omega)) (hw 5 (by omega)) (hw 6 (by omega)) (f 0 (by omega) (by omega)) (f 1 (by omega) (by omega)) y
  | 3, _ => exact wordType_yes3 (wd 0) (wd 1) (wd 2) (wd 3) (wd 4) (wd 5) (wd 6) _ w (hw 0 (by omega)) (hw 1 (by omega)) (hw 2 (by omega)) (hw 3 (by omega)) (hw 4 (by omega)) (hw 5 (by omega)) (hw 6 (by omega)) (f 0 (by omega) (by omega)) (f 1 (by omega) (by omega)) (f 2 (by omega) (by omega)) y
  | 4, _ => exact wordType_yes4 (wd 0) (wd 1) (wd 2) (wd 3) (wd 4) (wd 5) (wd 6) _ w (hw 0 (by omega)) (hw 1 (by omega)) (hw 2 (by omega)) (hw 3 (by omega)) (hw 4 (by omega)) (hw 5 (by omega)) (hw 6 (by omega)) (f 0 (by omega) (by omega)) (f 1 (by omega) (by omega)) (f 2 (by omega) (by omega)) (f 3 (by omega) (by omega)) y
  | 5, _ => exact wordType_yes5 (wd 0) (wd 1) (wd 2) (wd 3) (wd 4) (wd 5) (wd 6) _ w (hw 0 (by omega)) (hw 1 (by omega)) (hw 2 (by omega)) (hw 3 (by omega)) (hw 4 (by omega)) (hw 5 (by omega)) (hw 6 (by omega)) (f 0 (by omega) (by omega)) (f 1 (by omega) (by omega)) (f 2 (by omega) (by omega)) (f 3 (by omega) (by omega)) (f 4 (by omega) (by omega)) y
  | 6, _ => exact wordType_yes6 (wd 0) (wd 1) (wd 2) (wd 3) (wd 4) (wd 5) (wd 6) _ w (hw 0 (by omega)) (hw 1 (by omega)) (hw 2 (by omega)) (hw 3 (by omega)) (hw 4 (by omega)) (hw 5 (by omega)) (hw 6 (by omega)) (f 0 (by omega) (by omega)) (f 1 (by omega) (by omega)) (f 2 (by omega) (by omega)) (f 3 (by omega) (by omega)) (f 4 (by omega) (by omega)) (f 5 (by omega) (by omega)) y

end Go.Proofs.YtdcjogpkogidaaaGreatDoor

namespace Go.Proofs.YtdcjogpkogidaaaGreatDoor
open Go.RowKit

/-- The cells of a row of parts. -/
def rowCells (l : List (ByteArray × Addr)) : List Value := l.flatMap fun p => [.string p.1, .pointer (some p.2)]

theorem rowCells_get (l : List (ByteArray × Addr)) : ∀ (j : Nat) (p : ByteArray × Addr), l[j]? = some p → (rowCells l)[j * 2]? = some (.string p.1) ∧ (rowCells l)[j * 2 + 1]? = some (.pointer (some p.2)) := by
  induction l with
  | nil => intro j p h; simp at h
  | cons q l ih =>
    intro j p h
    cases j with
    | zero => simp at h; subst h; exact ⟨rfl, rfl⟩
    | succ j =>
      have h' : l[j]? = some p := by simpa using h
      have e : rowCells (q :: l) = .string q.1 :: .pointer (some q.2) :: rowCells l := rfl
      rw [e, show (j + 1) * 2 = j * 2 + 1 + 1 by omega]
      exact ih j p h'
theorem rowCells_snoc (l : List (ByteArray × Addr)) (p : ByteArray × Addr) : rowCells (l ++ [p]) = rowCells l ++ [.string p.1, .pointer (some p.2)] := by simp [rowCells]

/-- The first of a name. -/
def findRow (nm : ByteArray) : List (ByteArray × Addr) → Option Addr
  | [] => none
  | p :: r => if p.1 = nm then some p.2 else findRow nm r

theorem findRow_none {nm : ByteArray} {l : List (ByteArray × Addr)} : (∀ p ∈ l, p.1 ≠ nm) → findRow nm l = none := by
  induction l with
  | nil => intro _; rfl
  | cons p r ih =>
    intro h
    rw [findRow, if_neg (h p (by simp))]
    exact ih (fun q hq => h q (by simp [hq]))
theorem findRow_some {nm : ByteArray} {l : List (ByteArray × Addr)} : ∀ (k : Nat) (p : ByteArray × Addr), l[k]? = some p → p.1 = nm → (∀ j q, j < k → l[j]? = some q → q.1 ≠ nm) → findRow nm l = some p.2 := by
  induction l with
  | nil => intro k p h; simp at h
  | cons q r ih =>
    intro k p h he hn
    cases k with
    | zero => simp at h; subst h; rw [findRow, if_pos he]
    | succ k =>
      rw [findRow, if_neg (hn 0 q (by omega) rfl)]
      exact ih k p (by simpa using h) he (fun j q' hj hq => hn (j + 1) q' (by omega) (by simpa using hq))

def foundV (r : Option Addr) : Value := .tuple #[.pointer r, .bool r.isSome]

set_option maxHeartbeats 1000000 in
theorem find_row (g cap : Nat) (l : List (ByteArray × Addr)) (nm : ByteArray) (base : Nat) (w : World) (hl : l.length ≤ 1000)
    (hown : w.ownsRow base 146 2 (.slice (some ⟨g, 0, none⟩) l.length cap) l.length (rowCells l)) :
    Calls Tryz.prog 216 #[.slice (some ⟨g, 0, none⟩) l.length cap, .string nm] w fun e w' => e = .returned (foundV (findRow nm l)) ∧ Fr Zero w w' := by
  have hg : g < w.heap.size := (hown.lt g rfl).2
  have HO := hide hown
  clear hown
  go_enter Tryz.func216, Tryz.ntmps216
  go_wp2_with fail
  go_loopw [10] (fun i wr => ∃ k : Nat, k ≤ l.length ∧ i = .int .i64 k ∧ Hid (∀ j q, j < k → l[j]? = some q → q.1 ≠ nm) ∧ Hid (Fr Zero w wr)) (fun i _ => l.length - (intOf i).toNat)
  case atStart => exact ⟨0, by omega, rfl, fun j q hj => by omega, Fr.refl _ _⟩
  case round =>
    obtain ⟨k, hk, rfl, HN, HF⟩ := hrel
    by_cases hlt : k < l.length
    · obtain ⟨p, hp⟩ : ∃ p, l[k]? = some p := ⟨l[k], by simp [hlt]⟩
      have hc0 : wr.cell? ⟨g, k * 2, none⟩ = some (.string p.1) := by
        rw [HF.out.cell (a := ⟨g, k * 2, none⟩) hg (by intro h; exact h), HO.out.cellAt (k * 2) (by omega)]
        exact (rowCells_get l k p hp).1
      have hc1 : wr.cell? ⟨g, k * 2 + 1, none⟩ = some (.pointer (some p.2)) := by
        rw [HF.out.cell (a := ⟨g, k * 2 + 1, none⟩) hg (by intro h; exact h), HO.out.cellAt (k * 2 + 1) (by omega)]
        exact (rowCells_get l k p hp).2
      have HPp := hide hp
      clear hp
      by_cases hq : p.1 = nm
      · have hb : (p.1.toList == nm.toList) = true := by rw [strEq]; simp [hq]
        have HQ := hide hq
        clear hq
        go_wp2_with fail
        go_ret2
        exact ⟨by rw [findRow_some k p HPp HQ HN]; rfl, HF.out.trans (Fr.alloc _ _ _)⟩
      · have hb : (p.1.toList == nm.toList) = false := by rw [strEq]; simp [hq]
        have HQ := hide hq
        clear hq
        go_wp2_with fail
        go_roundw
        case rel =>
          refine ⟨k + 1, by omega, by go_num, ?_, HF.out.trans (Fr.alloc _ _ _)⟩
          · intro j q hj hq
            by_cases e : j < k
            · exact HN j q e hq
            · have : j = k := by omega
              subst this
              have e2 : q = p := Option.some.inj (hq.symm.trans HPp)
              subst e2
              exact HQ
        case measure => simp [intOf]; omega
    · go_wp2_with fail
      go_ret2
      exact ⟨by rw [findRow_none (fun p hp => by obtain ⟨j, hj⟩ := List.getElem?_of_mem hp; obtain ⟨hj', _⟩ := List.getElem?_eq_some_iff.1 hj; exact HN j p (by omega) hj)]; rfl, HF⟩

theorem find_nil (nm : ByteArray) (w : World) :
    Calls Tryz.prog 216 #[.slice none 0 0, .string nm] w fun e w' => e = .returned (.tuple #[.pointer none, .bool false]) ∧ Fr Zero w w' := by
  go_enter Tryz.func216, Tryz.ntmps216
  go_wp2_with fail
  refine wp_loop_rounds 1 ?_
  rw [rounds_succ]
  go_wp2_with fail
  go_ret2
  exact ⟨rfl, Fr.refl _ _⟩

theorem find_any (v : Value) (l : List (ByteArray × Addr)) (nm : ByteArray) (base : Nat) (w : World) (hl : l.length ≤ 1000) (hown : w.ownsRow base 146 2 v l.length (rowCells l)) :
    Calls Tryz.prog 216 #[v, .string nm] w fun e w' => e = .returned (foundV (findRow nm l)) ∧ Fr Zero w w' := by
  rcases hown.2 with ⟨rfl, h0⟩ | ⟨g, cap, cur, rfl, _⟩
  · have : l = [] := List.eq_nil_of_length_eq_zero h0
    subst this
    exact find_nil nm w
  · exact find_row g cap l nm base w hl hown

/-- A refusal that is kept: none, or one of this number at this place. -/
def RefV (w : World) (errno : Int) (v : Value) : Option Nat → Prop
  | none => v = .pointer none
  | some n => ∃ b, v = .pointer (some ⟨b, 0, none⟩) ∧ w.heap[b]? = some (.cells #[.int .i64 errno, .int .i64 n] 93 (0, 0))

theorem RefV.keep {w w' : World} {errno : Int} {v : Value} {r : Option Nat} {pb : Nat} {s : ByteArray} {n : Nat} {lv bn td : Value} (h : RefV w errno v r) (hP : PB w pb s n lv bn td) (hf : Fr (One pb) w w') : RefV w' errno v r := by
  cases r with
  | none => exact h
  | some m =>
    obtain ⟨b, hv, hb⟩ := h
    exact ⟨b, hv, hf.keep hb (hP.ne hb (by decide))⟩

def orElse (r : Option Nat) (n : Nat) : Option Nat := match r with | none => some n | some m => some m

theorem refuseName_any {w : World} {pb : Nat} {s : ByteArray} {n : Nat} {lv bn td : Value} (at' : Nat) (bad : Option Nat) (hP : PB w pb s n lv bn td) (hb : RefV w 3 bn bad) :
    Calls Tryz.prog 217 #[.pointer (some ⟨pb, 0, none⟩), .int .i64 at'] w fun e w' => e = .returned (.tuple #[]) ∧ Fr (One pb) w w' ∧ ∃ bn', PB w' pb s n lv bn' td ∧ RefV w' 3 bn' (orElse bad at') := by
  have h3 := hP.at3
  have hf := hP.free 3
  have hlt := lt_of_heap hP
  have HP := hide hP
  clear hP
  cases bad with
  | none =>
    have e : bn = .pointer none := hb
    subst e
    clear hb
    go_enter Tryz.func217, Tryz.ntmps217
    go_wp2_with fail
    go_end0
    exact ⟨rfl, (Fr.setCell _ _ _ _ (show One pb pb from rfl)).trans (Fr.alloc _ _ _), _, (HP.out.set3 _).alloc _, w.heap.size, rfl, heap_new_at (by simp [World.setCell]) _⟩
  | some m =>
    obtain ⟨b, rfl, hb⟩ := hb
    have HB := hide hb
    clear hb
    go_enter Tryz.func217, Tryz.ntmps217
    go_wp2_with fail
    go_end0
    exact ⟨rfl, Fr.refl _ _, _, HP, b, rfl, HB⟩

theorem refuseDepth_any {w : World} {pb : Nat} {s : ByteArray} {n : Nat} {lv bn td : Value} (at' : Nat) (bad : Option Nat) (hP : PB w pb s n lv bn td) (hb : RefV w 4 td bad) :
    Calls Tryz.prog 159 #[.pointer (some ⟨pb, 0, none⟩), .int .i64 at'] w fun e w' => e = .returned (.tuple #[]) ∧ Fr (One pb) w w' ∧ ∃ td', PB w' pb s n lv bn td' ∧ RefV w' 4 td' (orElse bad at') := by
  have h4 := hP.at4
  have hf := hP.free 4
  have hlt := lt_of_heap hP
  have HP := hide hP
  clear hP
  cases bad with
  | none =>
    have e : td = .pointer none := hb
    subst e
    clear hb
    go_enter Tryz.func159, Tryz.ntmps159
    go_wp2_with fail
    go_end0
    exact ⟨rfl, (Fr.setCell _ _ _ _ (show One pb pb from rfl)).trans (Fr.alloc _ _ _), _, (HP.out.set4 _).alloc _, w.heap.size, rfl, heap_new_at (by simp [World.setCell]) _⟩
  | some m =>
    obtain ⟨b, rfl, hb⟩ := hb
    have HB := hide hb
    clear hb
    go_enter Tryz.func159, Tryz.ntmps159
    go_wp2_with fail
    go_end0
    exact ⟨rfl, Fr.refl _ _, _, HP, b, rfl, HB⟩

end Go.Proofs.YtdcjogpkogidaaaGreatDoor

namespace Go.Proofs.YtdcjogpkogidaaaGreatDoor
open Go.RowKit

/-- A type: its kind and depth, the names and the types of its parts. -/
structure PT where
  kind : Nat
  depth : Nat
  names : List ByteArray
  subs : List PT

def PT.word (k : Nat) : PT := ⟨k, 1, [], []⟩
def PT.dummy : PT := ⟨0, 0, [], []⟩

def maxDepth (l : List (ByteArray × PT)) : Nat := (l.map fun p => p.2.depth).foldl max 0
def compoundT (kind : Nat) (l : List (ByteArray × PT)) : PT := ⟨kind, maxDepth l + 1, l.map (·.1), l.map (·.2)⟩

structure Res where
  ok : Bool
  t : PT
  n : Nat
  bad : Option Nat

def noRes (n : Nat) (bad : Option Nat) : Res := ⟨false, PT.dummy, n, bad⟩

def wordIdx (nm : ByteArray) : Option Nat := (List.range 7).find? fun i => decide (wd i = nm)

def lineOf (nm : ByteArray) : List (ByteArray × PT) → Option PT
  | [] => none
  | p :: r => if p.1 = nm then some p.2 else lineOf nm r

def nameAt (s : ByteArray) (n : Nat) : ByteArray := s.extract n (lettersTo s n 6)

def pNamed (s : ByteArray) (lines : List (ByteArray × PT)) (n : Nat) (bad : Option Nat) : Res :=
  if lettersTo s n 6 = n then noRes n bad else
  match wordIdx (nameAt s n) with
  | some k => ⟨true, PT.word k, lettersTo s n 6, bad⟩
  | none => match lineOf (nameAt s n) lines with
    | some t => ⟨true, t, lettersTo s n 6, bad⟩
    | none => ⟨true, PT.dummy, lettersTo s n 6, orElse bad n⟩

/-- A new name that is none of some others: is it one? What is told of it if it is one of them? -/
def nameOk (s : ByteArray) (n : Nat) : Bool := !(decide (lettersTo s n 6 = n)) && (wordIdx (nameAt s n)).isNone
def nameBad (s : ByteArray) (others : List ByteArray) (n : Nat) (bad : Option Nat) : Option Nat := if others.any (fun x => decide (x = nameAt s n)) then orElse bad n else bad

def pPart (rd : Nat → Option Nat → Res) (s : ByteArray) (others : List ByteArray) (sign : Nat) (n : Nat) (bad : Option Nat) : Res :=
  if nameOk s n = false then noRes (lettersTo s n 6) bad else
  if byteAt s (lettersTo s n 6) = sign then rd (lettersTo s n 6 + 1) (nameBad s others n bad) else noRes (lettersTo s n 6) (nameBad s others n bad)

def pParts (rd : Nat → Option Nat → Res) (s : ByteArray) (kind between close : Nat) : Nat → List (ByteArray × PT) → Nat → Option Nat → Res
  | 0, _, n, bad => noRes n bad
  | k + 1, acc, n, bad =>
    let r := pPart rd s (acc.map (·.1)) 58 n bad
    if r.ok = false then noRes r.n r.bad else
    if byteAt s r.n = close then ⟨true, compoundT kind (acc ++ [(nameAt s n, r.t)]), r.n + 1, r.bad⟩ else
    if acc.length + 1 = 6 ∨ byteAt s r.n ≠ between then noRes r.n r.bad else
    pParts rd s kind between close k (acc ++ [(nameAt s n, r.t)]) (r.n + 1) r.bad

def pTyp (s : ByteArray) (lines : List (ByteArray × PT)) : Nat → Nat → Option Nat → Res
  | 0 => fun n bad => noRes n bad
  | f + 1 => fun n bad =>
    if byteAt s n = 91 then
      let r := pTyp s lines f (n + 1) bad
      if r.ok = false then noRes r.n r.bad else
      if byteAt s r.n = 93 then ⟨true, compoundT 7 [(⟨#[]⟩, r.t)], r.n + 1, r.bad⟩ else noRes r.n r.bad
    else if byteAt s n = 63 then
      let r := pTyp s lines f (n + 1) bad
      if r.ok = false then noRes r.n r.bad else ⟨true, compoundT 8 [(⟨#[]⟩, r.t)], r.n, r.bad⟩
    else if byteAt s n = 123 then pParts (pTyp s lines f) s 9 44 125 6 [] (n + 1) bad
    else if byteAt s n = 60 then pParts (pTyp s lines f) s 10 124 62 6 [] (n + 1) bad
    else pNamed s lines n bad

theorem wordIdx_some {nm : ByteArray} {k : Nat} (h : wordIdx nm = some k) : k < 7 ∧ wd k = nm := by
  have h1 := List.mem_of_find?_eq_some h
  have h2 := List.find?_some h
  simp at h1 h2
  exact ⟨h1, h2⟩
theorem wordIdx_none {nm : ByteArray} (h : wordIdx nm = none) : ∀ i, i < 7 → wd i ≠ nm := by
  intro i hi
  have := List.find?_eq_none.1 h i (by simp [hi])
  simpa using this

/-! ### How a tree lies in memory -/

/-- A tree in memory, at most k deep; none of its blocks is in X. -/
def TRep (w : World) (X : Nat → Prop) : Nat → Addr → PT → Prop
  | 0, _, _ => False
  | k + 1, a, t => ∃ (b : Nat) (sv : Value) (rows : List (ByteArray × Addr)), a = ⟨b, 0, none⟩ ∧ w.heap[b]? = some (.cells #[.int .i64 t.kind, sv, .int .i64 t.depth] 230 (0, 0)) ∧ ¬ X b ∧
      w.ownsRow 0 146 2 sv rows.length (rowCells rows) ∧ (∀ g, sv.ownBlock = some g → ¬ X g) ∧ rows.map (·.1) = t.names ∧ rows.length = t.subs.length ∧
      ∀ (j : Nat) (p : ByteArray × Addr) (u : PT), rows[j]? = some p → t.subs[j]? = some u → TRep w X k p.2 u

def TR (w : World) (X : Nat → Prop) (a : Addr) (t : PT) : Prop := ∃ k, TRep w X k a t

theorem ownsRow_keep {X : Nat → Prop} {w w' : World} {base : Nat} {e : TypeId} {size : Nat} {v : Value} {n : Nat} {xs : List Value} (h : w.ownsRow base e size v n xs) (hf : Fr X w w') (hx : ∀ g, v.ownBlock = some g → ¬ X g) : w'.ownsRow base e size v n xs := by
  refine ⟨h.1, ?_⟩
  rcases h.2 with h' | ⟨g, cap, cur, hv, hb, hg, r⟩
  · exact .inl h'
  · exact .inr ⟨g, cap, cur, hv, hb, hf.keep hg (hx g (by rw [hv]; rfl)), r⟩

theorem TRep.mono {w : World} {X : Nat → Prop} : ∀ (k : Nat) (a : Addr) (t : PT), TRep w X k a t → ∀ k', k ≤ k' → TRep w X k' a t := by
  intro k
  induction k with
  | zero => intro a t h; exact h.elim
  | succ k ih =>
    intro a t h k' hk
    obtain ⟨k'', rfl⟩ : ∃ k'', k' = k'' + 1 := ⟨k' - 1, by omega⟩
    obtain ⟨b, sv, rows, h1, h2, h3, h4, h5, h6, h7, h8⟩ := h
    exact ⟨b, sv, rows, h1, h2, h3, h4, h5, h6, h7, fun j p u hp hu => ih p.2 u (h8 j p u hp hu) k'' (by omega)⟩

theorem TRep.keep {w w' : World} {X : Nat → Prop} (hf : Fr X w w') : ∀ (k : Nat) (a : Addr) (t : PT), TRep w X k a t → TRep w' X k a t := by
  intro k
  induction k with
  | zero => intro a t h; exact h.elim
  | succ k ih =>
    intro a t h
    obtain ⟨b, sv, rows, h1, h2, h3, h4, h5, h6, h7, h8⟩ := h
    exact ⟨b, sv, rows, h1, hf.keep h2 h3, h3, ownsRow_keep h4 hf h5, h5, h6, h7, fun j p u hp hu => ih p.2 u (h8 j p u hp hu)⟩

theorem TRep.avoid {w : World} {X Y : Nat → Prop} (hxy : ∀ b, b < w.heap.size → Y b → X b) : ∀ (k : Nat) (a : Addr) (t : PT), TRep w X k a t → TRep w Y k a t := by
  intro k
  induction k with
  | zero => intro a t h; exact h.elim
  | succ k ih =>
    intro a t h
    obtain ⟨b, sv, rows, h1, h2, h3, h4, h5, h6, h7, h8⟩ := h
    exact ⟨b, sv, rows, h1, h2, fun y => h3 (hxy b (lt_of_heap h2) y), h4, fun g hg y => h5 g hg (hxy g (h4.lt g hg).2 y), h6, h7, fun j p u hp hu => ih p.2 u (h8 j p u hp hu)⟩

theorem TR.keep {w w' : World} {X : Nat → Prop} {a : Addr} {t : PT} (h : TR w X a t) (hf : Fr X w w') : TR w' X a t := by
  obtain ⟨k, h⟩ := h; exact ⟨k, TRep.keep hf k a t h⟩
theorem TR.avoid {w : World} {X Y : Nat → Prop} {a : Addr} {t : PT} (h : TR w X a t) (hxy : ∀ b, b < w.heap.size → Y b → X b) : TR w Y a t := by
  obtain ⟨k, h⟩ := h; exact ⟨k, TRep.avoid hxy k a t h⟩

/-- Rows of parts in memory, and their trees. -/
def LinesR (w : World) (X : Nat → Prop) (rows : List (ByteArray × Addr)) (lines : List (ByteArray × PT)) : Prop :=
  rows.map (·.1) = lines.map (·.1) ∧ ∀ (j : Nat) (p : ByteArray × Addr) (q : ByteArray × PT), rows[j]? = some p → lines[j]? = some q → TR w X p.2 q.2

theorem LinesR.keep {w w' : World} {X : Nat → Prop} {rows : List (ByteArray × Addr)} {lines : List (ByteArray × PT)} (h : LinesR w X rows lines) (hf : Fr X w w') : LinesR w' X rows lines :=
  ⟨h.1, fun j p q hp hq => (h.2 j p q hp hq).keep hf⟩
theorem LinesR.avoid {w : World} {X Y : Nat → Prop} {rows : List (ByteArray × Addr)} {lines : List (ByteArray × PT)} (h : LinesR w X rows lines) (hxy : ∀ b, b < w.heap.size → Y b → X b) : LinesR w Y rows lines :=
  ⟨h.1, fun j p q hp hq => (h.2 j p q hp hq).avoid hxy⟩
theorem LinesR.length {w : World} {X : Nat → Prop} {rows : List (ByteArray × Addr)} {lines : List (ByteArray × PT)} (h : LinesR w X rows lines) : rows.length = lines.length := by
  have := congrArg List.length h.1
  simpa using this
theorem LinesR.snoc {w : World} {X : Nat → Prop} {rows : List (ByteArray × Addr)} {lines : List (ByteArray × PT)} (h : LinesR w X rows lines) {nm : ByteArray} {a : Addr} {t : PT} (ht : TR w X a t) : LinesR w X (rows ++ [(nm, a)]) (lines ++ [(nm, t)]) := by
  have hl := h.length
  refine ⟨by simp [h.1], fun j p q hp hq => ?_⟩
  by_cases hj : j < rows.length
  · rw [List.getElem?_append_left hj] at hp
    rw [List.getElem?_append_left (by omega)] at hq
    exact h.2 j p q hp hq
  · rw [List.getElem?_append_right (by omega)] at hp hq
    have hj0 : j - rows.length = 0 := by
      rcases Nat.eq_zero_or_pos (j - rows.length) with e | e
      · exact e
      · rw [List.getElem?_eq_none (by simp; omega)] at hp; cases hp
    rw [← hl, hj0] at hq
    rw [hj0] at hp
    simp at hp hq
    subst hp hq
    exact ht

/-- find, of rows and of trees. -/
theorem LinesR.find {w : World} {X : Nat → Prop} {nm : ByteArray} : ∀ {rows : List (ByteArray × Addr)} {lines : List (ByteArray × PT)}, LinesR w X rows lines →
    (findRow nm rows = none ∧ lineOf nm lines = none) ∨ ∃ a t, findRow nm rows = some a ∧ lineOf nm lines = some t ∧ TR w X a t := by
  intro rows
  induction rows with
  | nil =>
    intro lines h
    have : lines = [] := List.eq_nil_of_length_eq_zero h.length.symm
    subst this
    exact .inl ⟨rfl, rfl⟩
  | cons p rows ih =>
    intro lines h
    cases lines with
    | nil => have := h.length; simp at this
    | cons q lines =>
      have hn : p.1 = q.1 := by have := h.1; simp at this; exact this.1
      have hr : LinesR w X rows lines := ⟨by have := h.1; simp at this; exact this.2, fun j p' q' hp hq => h.2 (j + 1) p' q' (by simpa using hp) (by simpa using hq)⟩
      by_cases e : p.1 = nm
      · exact .inr ⟨p.2, q.2, by rw [findRow, if_pos e], by rw [lineOf, if_pos (hn ▸ e)], h.2 0 p q rfl rfl⟩
      · rw [findRow, if_neg e, lineOf, if_neg (hn ▸ e)]
        exact ih hr

theorem findRow_mem {nm : ByteArray} : ∀ {rows : List (ByteArray × Addr)}, (findRow nm rows).isSome = (rows.map (·.1)).any (fun x => decide (x = nm)) := by
  intro rows
  induction rows with
  | nil => simp [findRow]
  | cons p rows ih =>
    by_cases e : p.1 = nm
    · rw [findRow, if_pos e]; simp [e]
    · rw [findRow, if_neg e, ih]
      simp [e]

/-- A parser in memory: where it stands, its lines, the first name and the first depth that are wrong. -/
def PS (w : World) (X : Nat → Prop) (pb : Nat) (s : ByteArray) (n : Nat) (lv : Value) (lines : List (ByteArray × PT)) (bad deep : Option Nat) : Prop :=
  ∃ (bn td : Value) (rows : List (ByteArray × Addr)), PB w pb s n lv bn td ∧ w.ownsRow 0 146 2 lv rows.length (rowCells rows) ∧ (∀ g, lv.ownBlock = some g → X g) ∧ LinesR w X rows lines ∧ RefV w 3 bn bad ∧ RefV w 4 td deep

theorem owned_ne {w : World} {pb : Nat} {s : ByteArray} {n : Nat} {lv bn td : Value} {base k size : Nat} {v : Value} {xs : List Value} (hP : PB w pb s n lv bn td) (h : w.ownsRow base 146 size v k xs) : ∀ g, v.ownBlock = some g → ¬ One pb g := by
  intro g hg
  rcases h.2 with ⟨rfl, _⟩ | ⟨g', cap, cur, rfl, hb, hh, r⟩
  · simp [Value.ownBlock] at hg
  · simp [Value.ownBlock] at hg
    subst hg
    exact hP.ne hh (by decide)

theorem Fr.one {X : Nat → Prop} {pb : Nat} {w w' : World} (h : Fr (One pb) w w') (hx : X pb) : Fr X w w' := h.mono (fun k _ e => by have e' : k = pb := e; rw [e']; exact hx)

/-- The parser's block alone has turned: its place. -/
theorem PS.step {w w' : World} {X : Nat → Prop} {pb : Nat} {s : ByteArray} {n m : Nat} {lv bn td : Value} {rows : List (ByteArray × Addr)} {lines : List (ByteArray × PT)} {bad deep : Option Nat} (hX : X pb)
    (hP : PB w pb s n lv bn td) (hO : w.ownsRow 0 146 2 lv rows.length (rowCells rows)) (hlx : ∀ g, lv.ownBlock = some g → X g) (hL : LinesR w X rows lines) (hb : RefV w 3 bn bad) (hd : RefV w 4 td deep)
    (hf : Fr (One pb) w w') (hP' : PB w' pb s m lv bn td) : PS w' X pb s m lv lines bad deep :=
  ⟨bn, td, rows, hP', ownsRow_keep hO hf (owned_ne hP hO), hlx, hL.keep (hf.one hX), hb.keep hP hf, hd.keep hP hf⟩

theorem PS.not1 {w : World} {X : Nat → Prop} {pb : Nat} {s : ByteArray} {n : Nat} {lv : Value} {lines : List (ByteArray × PT)} {bad deep : Option Nat} (h : PS w X pb s n lv lines bad deep) (hw : Words w) : ¬ One pb 4 := by
  obtain ⟨bn, td, rows, hP, _⟩ := h
  intro e
  have e' : 4 = pb := e
  subst e'
  have h1 := hP.at0
  rw [hw 0 (by omega)] at h1
  simp at h1

/-- What a reader of a type leaves. -/
def TypPost (w : World) (X : Nat → Prop) (pb : Nat) (s : ByteArray) (lv : Value) (lines : List (ByteArray × PT)) (deep : Option Nat) (r : Res) (e : Ending) (w' : World) : Prop :=
  Fr (One pb) w w' ∧ r.n ≤ s.size ∧ (∃ bad', PS w' X pb s r.n lv lines bad' deep ∧ (r.ok = true → bad' = r.bad)) ∧
    ∃ a : Option Addr, e = .returned (.tuple #[.pointer a, .bool r.ok]) ∧ (r.ok = true → ∃ a', a = some a' ∧ TR w' X a' r.t)

def TypSaid (s : ByteArray) (lines : List (ByteArray × PT)) (f : Nat) : Prop :=
  ∀ (w : World) (X : Nat → Prop) (pb n : Nat) (lv : Value) (bad deep : Option Nat), PS w X pb s n lv lines bad deep → Words w → X pb → (∀ b, X b → b < w.heap.size) → n ≤ s.size → s.size < n + f →
    Calls Tryz.prog 195 #[.pointer (some ⟨pb, 0, none⟩)] w fun e w' => TypPost w X pb s lv lines deep (pTyp s lines f n bad) e w'

end Go.Proofs.YtdcjogpkogidaaaGreatDoor
