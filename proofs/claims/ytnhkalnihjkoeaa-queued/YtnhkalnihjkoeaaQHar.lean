/- Which of n a raw number speaks of; a frame's content. -/
import Derived.Test.YtnhkalnihjkoeaaQPure
namespace Go.Proofs.Ytnhkalnihjkoeaa
open Go.RowKit

def pickN (c : Int) (n : Nat) : Nat := ((if c < 0 then -(c + 1) else c) % (n : Int)).toNat
theorem pickN_lt (c : Int) {n : Nat} (h : 0 < n) : pickN c n < n := by
  unfold pickN
  have h1 := Int.emod_nonneg (if c < 0 then -(c + 1) else c) (show (n : Int) ≠ 0 by omega)
  have h2 := Int.emod_lt_of_pos (if c < 0 then -(c + 1) else c) (show (0 : Int) < n by omega)
  omega
theorem pickN_cast (c : Int) {n : Nat} (h : 0 < n) : ((pickN c n : Nat) : Int) = (if c < 0 then -(c + 1) else c) % (n : Int) := by
  unfold pickN
  have h1 := Int.emod_nonneg (if c < 0 then -(c + 1) else c) (show (n : Int) ≠ 0 by omega)
  omega

set_option maxHeartbeats 4000000 in
theorem pick_any (c : Int) (h1 : -9223372036854775808 ≤ c) (h2 : c ≤ 9223372036854775807) (n : Nat) (hn : 0 < n) (hn2 : n ≤ 1000000000000) (w : World) :
    Calls Try.prog 4 #[.int .i64 c, .int .i64 n] w fun e w' => e = .returned (.int .i64 (pickN c n : Nat)) ∧ w' = w := by
  have hp := pickN_cast c hn
  have HP := hide hp
  have hnz : ¬ (n = 0) := by omega
  have hnI : ¬ ((n : Int) = 0) := by omega
  by_cases hc : c < 0
  · rw [if_pos hc] at HP hp
    have ht : (-(c + 1)).tmod (n : Int) = ((pickN c n : Nat) : Int) := by rw [Int.tmod_eq_emod_of_nonneg (by omega)]; exact HP.out.symm
    have hpos : (0 : Int) ≤ -(c + 1) := by omega
    generalize pickN c n = P at *
    clear hp
    go_enter Try.func4, Try.ntmps4
    go_wp2_with fail
    go_ret
    refine ⟨?_, rfl⟩
    first | rfl | (rw [HP.out]; rfl) | (simp only [HP.out]; rfl)
  · rw [if_neg hc] at HP hp
    have ht : c.tmod (n : Int) = ((pickN c n : Nat) : Int) := by rw [Int.tmod_eq_emod_of_nonneg (by omega)]; exact HP.out.symm
    have hpos : (0 : Int) ≤ c := by omega
    have hcd : decide (c < 0) = false := decide_eq_false hc
    generalize pickN c n = P at *
    clear hp
    go_enter Try.func4, Try.ntmps4
    go_wp2_with fail
    go_ret
    refine ⟨?_, rfl⟩
    first | rfl | (rw [HP.out]; rfl) | (simp only [HP.out]; rfl)

set_option maxHeartbeats 4000000 in
set_option maxRecDepth 100000 in
theorem content_any (n size : Nat) (hn : n ≤ 1000000) (hs : size ≤ 1000) (w : World) :
    Calls Try.prog 9 #[.int .i64 n, .int .i64 size] w fun e w' => (∃ d : Bs, d.length = size ∧ e = .returned (.string (ba d))) ∧ Fr Zero w w' := by
  have hrun := run_make_row' (P := Try.prog) 52 5 (.int .u8 0) 1 Try.underlying52 (by kernel_rfl) rfl .i64 .i64 size (by omega) (by omega) w
  have HM : Hid (madeCells #[Value.int .u8 0] size = (Lib.byteCells (List.replicate size 0)).toArray) := by
    show _ = _
    apply Array.ext'
    rw [toList_madeCells_one]
    simp [Lib.byteCells]
  rw [HM.out] at hrun
  go_enter Try.func9, Try.ntmps9
  go_wp2_with fail
  go_loopw [6] (fun iv wr => ∃ (i : Nat) (l : Bs), i ≤ size ∧ iv = .int .i64 i ∧ l.length = size ∧ Hid (wr.heap[w.heap.size]? = some (.cells (Lib.byteCells l).toArray 5 (0, 0))) ∧ Hid (Fr Zero w wr)) (fun iv _ => size - (intOf iv).toNat)
  case atStart => exact ⟨0, List.replicate size 0, by omega, rfl, by simp, heap_new_at rfl _, Fr.alloc _ _ _⟩
  case round =>
    obtain ⟨i, l, hi, rfl, hl, HB, HF⟩ := hrel
    by_cases hlt : i < size
    · have hI : (i : Int) < (size : Int) := by omega
      obtain ⟨b, hb⟩ : ∃ b, l[i]? = some b := ⟨l[i]'(by omega), by simp⟩
      have c0 : wr.cell? ⟨w.heap.size, i, none⟩ = some (.int .u8 b.toNat) := by rw [cell_of_heap HB.out]; simp [Lib.byteCells, hb]
      have f0 : wr.frozen? ⟨w.heap.size, i, none⟩ = false := free_of_heap HB.out
      have HB2 := hide (heap_setCell_same (o := i) (v := .int .u8 (((n : Int) * 31 + (i : Int) * 7 + 1) % 256)) HB.out)
      have HE : Hid ((Lib.byteCells l).toArray.setIfInBounds i (.int .u8 (((n : Int) * 31 + (i : Int) * 7 + 1) % 256)) = (Lib.byteCells (l.set i (UInt8.ofNat (n * 31 + i * 7 + 1)))).toArray) := by
        show _ = _
        have e : ((n : Int) * 31 + (i : Int) * 7 + 1) % 256 = (((UInt8.ofNat (n * 31 + i * 7 + 1)).toNat : Nat) : Int) := by simp
        rw [e]
        apply Array.ext'
        simp [Lib.byteCells]
      have HF2 : Hid (Fr Zero w (wr.setCell ⟨w.heap.size, i, none⟩ (.int .u8 (((n : Int) * 31 + (i : Int) * 7 + 1) % 256)))) := HF.out.past (Fr.setCell (fun b => w.heap.size ≤ b) _ _ _ (Nat.le_refl _))
      go_wp2_with fail
      exact ⟨⟨i + 1, l.set i (UInt8.ofNat (n * 31 + i * 7 + 1)), by omega, by go_num, by simp [hl], HB2.out.trans (by rw [HE.out]), HF2⟩, by simp [intOf]; omega⟩
    · have hi' : i = size := by omega
      subst hi'
      have hI : ¬ (i : Int) < (i : Int) := by omega
      have hcv := run_convert_bytes_back (P := Try.prog) wr 52 9 5 ⟨w.heap.size, 0, none⟩ i l Try.underlying52 Try.underlying5 Try.underlying9 (fun j hj => by
        have e : (⟨w.heap.size, 0, none⟩ : Addr).add j = ⟨w.heap.size, j, none⟩ := by simp [Addr.add]; omega
        rw [e, cell_of_heap HB.out]
        simp [Lib.byteCells, hj])
      rw [hl] at hcv
      go_wp2_with fail
      go_ret
      exact ⟨⟨l, hl, rfl⟩, HF⟩

end Go.Proofs.Ytnhkalnihjkoeaa
