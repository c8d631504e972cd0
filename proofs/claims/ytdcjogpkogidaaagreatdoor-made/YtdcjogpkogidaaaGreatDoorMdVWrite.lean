/- How bytes are written into a message. -/
import Derived.Deep.RegionHeld3
import Derived.Test.YtdcjogpkogidaaaGreatDoorMdVHex
namespace Go.Proofs.YtdcjogpkogidaaaGreatDoor
open Go.RowKit

theorem Fr.dr (X : Nat → Prop) (w : World) : Fr X w w.drew := ⟨rfl, rfl, rfl, Nat.le_refl _, fun _ _ _ => rfl⟩

/-- A writer in memory: all that was written; of it the first thousand bytes are kept. -/
structure WB (w : World) (wb : Nat) (l : Bs) : Prop where
  block : ∃ cs : Array Value, cs.size = 1001 ∧ w.heap[wb]? = some (.cells cs 167 (0, 0)) ∧ cs[0]? = some (.int .i64 l.length) ∧ ∀ (j : Nat) (b : UInt8), j < 1000 → l[j]? = some b → cs[j + 1]? = some (.int .u8 b.toNat)

theorem WB.keep {w w' : World} {wb : Nat} {l : Bs} {X : Nat → Prop} (h : WB w wb l) (hf : Fr X w w') (hx : ¬ X wb) : WB w' wb l := by
  obtain ⟨cs, h1, h2, h3⟩ := h.block
  exact ⟨cs, h1, hf.keep h2 hx, h3⟩
theorem WB.at0 {w : World} {wb : Nat} {l : Bs} (h : WB w wb l) : w.cell? ⟨wb, 0, none⟩ = some (.int .i64 l.length) := by
  obtain ⟨cs, h1, h2, h3, _⟩ := h.block
  rw [cell_of_heap h2, h3]
theorem WB.atj {w : World} {wb : Nat} {l : Bs} (h : WB w wb l) {j : Nat} (hj : j < 1001) : ∃ v, w.cell? ⟨wb, j, none⟩ = some v := by
  obtain ⟨cs, h1, h2, h3, _⟩ := h.block
  exact ⟨cs[j]'(by omega), by rw [cell_of_heap h2]; simp [h1, hj]⟩
theorem WB.free {w : World} {wb : Nat} {l : Bs} (h : WB w wb l) (j : Nat) : w.frozen? ⟨wb, j, none⟩ = false := by
  obtain ⟨cs, h1, h2, h3, _⟩ := h.block
  exact free_of_heap h2
theorem WB.lt {w : World} {wb : Nat} {l : Bs} (h : WB w wb l) : wb < w.heap.size := by
  obtain ⟨cs, h1, h2, h3, _⟩ := h.block
  exact lt_of_heap h2
theorem WB.far {w w' : World} {wb : Nat} {l : Bs} {b : UInt8} (h : WB w wb l) (hl : 1000 ≤ l.length) (hw : w'.heap = (w.setCell ⟨wb, 0, none⟩ (.int .i64 ((l.length + 1 : Nat) : Int))).heap) : WB w' wb (l ++ [b]) := by
  obtain ⟨cs, h1, h2, h3, h4⟩ := h.block
  refine ⟨⟨cs.setIfInBounds 0 (.int .i64 ((l.length + 1 : Nat) : Int)), by simp [h1], ?_, ?_, ?_⟩⟩
  · rw [hw, heap_setCell_same h2]
  · rw [Array.getElem?_setIfInBounds_self_of_lt (by omega)]; simp
  · intro j c hj hc
    rw [Array.getElem?_setIfInBounds_ne (by omega)]
    rw [List.getElem?_append_left (by omega)] at hc
    exact h4 j c hj hc
theorem WB.near {w w' : World} {wb : Nat} {l : Bs} {b : UInt8} (h : WB w wb l) (hl : l.length < 1000) (hw : w'.heap = ((w.setCell ⟨wb, l.length + 1, none⟩ (.int .u8 b.toNat)).setCell ⟨wb, 0, none⟩ (.int .i64 ((l.length + 1 : Nat) : Int))).heap) : WB w' wb (l ++ [b]) := by
  obtain ⟨cs, h1, h2, h3, h4⟩ := h.block
  refine ⟨⟨(cs.setIfInBounds (l.length + 1) (.int .u8 b.toNat)).setIfInBounds 0 (.int .i64 ((l.length + 1 : Nat) : Int)), by simp [h1], ?_, ?_, ?_⟩⟩
  · rw [hw, heap_setCell_same (heap_setCell_same h2)]
  · rw [Array.getElem?_setIfInBounds_self_of_lt (by simp; omega)]; simp
  · intro j c hj hc
    rw [Array.getElem?_setIfInBounds_ne (by omega)]
    by_cases e : j = l.length
    · subst e
      rw [Array.getElem?_setIfInBounds_self_of_lt (by omega)]
      rw [List.getElem?_append_right (by omega)] at hc
      simp at hc
      subst hc
      rfl
    · rw [Array.getElem?_setIfInBounds_ne (by omega)]
      by_cases hlt : j < l.length
      · rw [List.getElem?_append_left hlt] at hc
        exact h4 j c hj hc
      · rw [List.getElem?_eq_none (by simp; omega)] at hc
        cases hc

def PutPost (w : World) (wb : Nat) (l : Bs) (e : Ending) (w' : World) : Prop := e = .returned (.tuple #[]) ∧ Fr (One wb) w w' ∧ WB w' wb l

set_option maxHeartbeats 4000000 in
set_option maxRecDepth 100000 in
theorem put_any (w : World) (wb : Nat) (l : Bs) (b : UInt8) (h : WB w wb l) (hl : l.length ≤ 1000000000000000000) :
    Calls Tryz.prog 122 #[.pointer (some ⟨wb, 0, none⟩), .int .u8 b.toNat] w fun e w' => PutPost w wb (l ++ [b]) e w' := by
  have hat := h.at0
  have f0 := h.free 0
  have HW := hide h
  by_cases hlt : l.length < 1000
  · have hI : (l.length : Int) < 1000 := by omega
    have f1 := h.free (l.length + 1)
    obtain ⟨u, hu⟩ := h.atj (j := l.length + 1) (by omega)
    have f1' : w.frozen? ⟨wb, 1 + l.length, none⟩ = false := by rw [Nat.add_comm]; exact f1
    have hu' : w.cell? ⟨wb, 1 + l.length, none⟩ = some u := by rw [Nat.add_comm]; exact hu
    have HL := hide hl
    clear h hl
    go_enter Tryz.func122, Tryz.ntmps122
    go_wp2_with fail
    refine (at_any wb l.length _ hat).mono ?_
    rintro e w1 ⟨rfl, e1⟩
    obtain rfl := e1.symm
    go_wp2_with fail
    go_region_held3 (fun _ => True) (trivial) (first | (go_at_call 71; refine (at_any wb l.length _ (by exact hat)).mono ?_; rintro e w2 ⟨rfl, rfl⟩))
    have k0 : (w.setCell ⟨wb, 1 + l.length, none⟩ (.int .u8 b.toNat)).drew.cell? ⟨wb, 0, none⟩ = some (.int .i64 l.length) := by
      obtain ⟨cs, h1, h2, h3, _⟩ := HW.out.block
      show (w.setCell ⟨wb, 1 + l.length, none⟩ (.int .u8 b.toNat)).cell? ⟨wb, 0, none⟩ = _
      rw [cell_of_heap (heap_setCell_same h2), Array.getElem?_setIfInBounds_ne (by omega)]
      exact h3
    have k1 : (w.setCell ⟨wb, 1 + l.length, none⟩ (.int .u8 b.toNat)).drew.frozen? ⟨wb, 0, none⟩ = false := by
      obtain ⟨cs, h1, h2, h3, _⟩ := HW.out.block
      show (w.setCell ⟨wb, 1 + l.length, none⟩ (.int .u8 b.toNat)).frozen? ⟨wb, 0, none⟩ = _
      exact free_of_heap (heap_setCell_same h2)
    go_wp2_with fail
    refine (step_any wb l.length 1 _ k0 k1 (by omega) (by omega)).mono ?_
    rintro e w2 ⟨rfl, hw2⟩
    have HW2 := hide hw2
    clear hw2
    go_wp2_with fail
    go_end0
    refine ⟨rfl, by rw [HW2.out]; exact (Fr.setCell (One wb) w ⟨wb, 1 + l.length, none⟩ (.int .u8 b.toNat) rfl).trans ((Fr.dr _ _).trans (Fr.setCell (One wb) _ ⟨wb, 0, none⟩ _ rfl)), HW.out.near hlt ?_⟩
    rw [HW2.out, Nat.add_comm l.length 1, show ((1 + l.length : Nat) : Int) = (l.length : Int) + 1 by omega]
    rfl
  · have hI : ¬ (l.length : Int) < 1000 := by omega
    clear h
    go_enter Tryz.func122, Tryz.ntmps122
    go_wp2_with fail
    refine (at_any wb l.length _ hat).mono ?_
    rintro e w1 ⟨rfl, e1⟩
    obtain rfl := e1.symm
    go_wp2_with fail
    refine (step_any wb l.length 1 _ hat f0 (by omega) (by omega)).mono ?_
    rintro e w2 ⟨rfl, hw2⟩
    have HW2 := hide hw2
    clear hw2
    go_wp2_with fail
    go_end0
    exact ⟨rfl, by rw [HW2.out]; exact Fr.setCell _ _ _ _ rfl, HW.out.far (by omega) (by rw [HW2.out]; rfl)⟩

end Go.Proofs.YtdcjogpkogidaaaGreatDoor

namespace Go.Proofs.YtdcjogpkogidaaaGreatDoor
open Go.RowKit

theorem ba_get {l : Bs} {j : Nat} {b : UInt8} (h : l[j]? = some b) : ∃ hj : j < (ba l).size, (ba l)[j] = b := by
  obtain ⟨hj, he⟩ := List.getElem?_eq_some_iff.1 h
  refine ⟨by rw [ba_size]; exact hj, ?_⟩
  exact he

set_option maxHeartbeats 2000000 in
set_option maxRecDepth 100000 in
theorem putAll_any (w : World) (wb : Nat) (l m : Bs) (h : WB w wb l) (hl : l.length + m.length ≤ 1000000000000000000) :
    Calls Tryz.prog 124 #[.pointer (some ⟨wb, 0, none⟩), .string (ba m)] w fun e w' => PutPost w wb (l ++ m) e w' := by
  have HW := hide h
  have hsz := ba_size m
  have HL := hide hl
  clear h
  go_enter Tryz.func124, Tryz.ntmps124
  go_wp2_with fail
  go_loopw [7] (fun i wr => ∃ k : Nat, k ≤ m.length ∧ i = .int .i64 k ∧ Hid (WB wr wb (l ++ m.take k)) ∧ Hid (Fr (One wb) w wr)) (fun i _ => m.length - (intOf i).toNat)
  case atStart => exact ⟨0, by omega, rfl, by simpa using HW, Fr.refl _ _⟩
  case round =>
    obtain ⟨k, hk, rfl, HB, HF⟩ := hrel
    by_cases hlt : k < m.length
    · obtain ⟨b, hb⟩ : ∃ b, m[k]? = some b := ⟨m[k], by simp [hlt]⟩
      obtain ⟨hj, hg⟩ := ba_get hb
      have hI : (k : Int) < (m.length : Int) := by omega
      have HE : Hid (m.take (k + 1) = m.take k ++ [b]) := by
        show _ = _
        obtain ⟨_, he⟩ := List.getElem?_eq_some_iff.1 hb
        rw [List.take_succ_eq_append_getElem hlt, he]
      clear hb
      go_wp2_with fail
      refine (put_any _ wb (l ++ m.take k) b HB (by simp; omega)).mono ?_
      rintro e w1 ⟨rfl, hF1, hB1⟩
      have HF1 := hide (HF.out.trans hF1)
      have HB1 := hide hB1
      clear hF1 hB1
      go_wp2_with fail
      refine ⟨⟨k + 1, by omega, by go_num, ?_, HF1⟩, by simp [intOf]; omega⟩
      rw [HE.out, ← List.append_assoc]
      exact HB1
    · have hkl : k = m.length := by omega
      subst hkl
      go_wp2_with fail
      go_end0
      refine ⟨rfl, HF, ?_⟩
      have := HB.out
      rw [List.take_length] at this
      exact this

end Go.Proofs.YtdcjogpkogidaaaGreatDoor

namespace Go.Proofs.YtdcjogpkogidaaaGreatDoor
open Go.RowKit

theorem put_at (w : World) (wb : Nat) (l : Bs) (b : UInt8) (c : Int) (hc : c = b.toNat) (h : WB w wb l) (hl : l.length ≤ 1000000000000000000) :
    Calls Tryz.prog 122 #[.pointer (some ⟨wb, 0, none⟩), .int .u8 c] w fun e w' => PutPost w wb (l ++ [b]) e w' := by
  subst hc
  exact put_any w wb l b h hl
theorem WB.same {w w' : World} {wb : Nat} {l : Bs} (h : WB w wb l) (e : w'.heap = w.heap) : WB w' wb l := by
  obtain ⟨cs, h1, h2, h3⟩ := h.block
  exact ⟨cs, h1, by rw [e]; exact h2, h3⟩
theorem wrap8 (c : Int) (m : Nat) (h : c % 256 = ((m % 256 : Nat) : Int)) : IntKind.u8.wrap c = ((UInt8.ofNat m).toNat : Int) := by
  have e : (UInt8.ofNat m).toNat = m % 256 := by simp
  rw [e, ← h]
  rfl
theorem leBytes_snoc : ∀ (k n : Nat), leBytes (k + 1) n = leBytes k n ++ [UInt8.ofNat (n / 256 ^ k)] := by
  intro k
  induction k with
  | zero => intro n; simp [leBytes]
  | succ k ih =>
    intro n
    rw [leBytes, ih (n / 256), leBytes, Nat.div_div_eq_div_mul, Nat.pow_succ, Nat.mul_comm 256]
    rfl

set_option maxHeartbeats 8000000 in
set_option maxRecDepth 100000 in
theorem lowestFirst_any (w : World) (wb : Nat) (l : Bs) (n c : Nat) (h : WB w wb l) (hl : l.length ≤ 100000000000000000) (hc : c ≤ 4) (_hn : n < 9223372036854775808) :
    Calls Tryz.prog 119 #[.pointer (some ⟨wb, 0, none⟩), .int .i64 n, .int .i64 c] w fun e w' => PutPost w wb (l ++ leBytes c n) e w' := by
  have HW := hide h
  have HL := hide hl
  clear h hl
  go_enter Tryz.func119, Tryz.ntmps119
  go_wp2_with fail
  go_loopw [8] (fun i wr => ∃ k : Nat, k ≤ c ∧ i = .int .i64 k ∧ Hid (WB wr wb (l ++ leBytes k n)) ∧ Hid (Fr (One wb) w wr)) (fun i _ => c - (intOf i).toNat)
  case atStart => exact ⟨0, by omega, rfl, by simpa [leBytes] using HW, Fr.refl _ _⟩
  case round =>
    obtain ⟨k, hk, rfl, HB, HF⟩ := hrel
    by_cases hlt : k < c
    · have hI : (k : Int) < (c : Int) := by omega
      have HS := hide (leBytes_snoc k n)
      have HLL : Hid ((l ++ leBytes k n).length ≤ 1000000000000000000) := by
        show _ ≤ _
        rw [List.length_append, leBytes_length]
        have := HL.out
        omega
      have w0 : IntKind.i64.wrap 0 = 0 := by decide +kernel
      have w1' : IntKind.i64.wrap 8 = 8 := by decide +kernel
      have w2' : IntKind.i64.wrap 16 = 16 := by decide +kernel
      have w3' : IntKind.i64.wrap 24 = 24 := by decide +kernel
      obtain rfl | rfl | rfl | rfl : k = 0 ∨ k = 1 ∨ k = 2 ∨ k = 3 := by omega
      · have HB0 : Hid (WB wr wb (l ++ leBytes 0 n)) := HB
        have HE : Hid (leBytes 1 n = leBytes 0 n ++ [UInt8.ofNat (n)]) := by show _ = _; rw [HS.out]; simp
        go_wp2_with fail
        go_region_held3 (fun _ => True) (trivial) (first | (go_at_call 122; refine (put_at _ wb (l ++ leBytes 0 n) (UInt8.ofNat (n)) _ (wrap8 _ _ (by omega)) (by exact HB0.out.same rfl) HLL).mono ?_; rintro e w1 ⟨rfl, hF1, hB1⟩; have HF1 : Hid (Fr (One wb) w w1) := HF.out.trans ((Fr.dr _ _).trans hF1); have HB1 := hide hB1; clear hF1 hB1))
        go_wp2_with fail
        refine ⟨⟨1, by omega, by go_num, ?_, HF1⟩, by simp [intOf]; omega⟩
        rw [HE.out, ← List.append_assoc]
        exact HB1
      · have HB0 : Hid (WB wr wb (l ++ leBytes 1 n)) := HB
        have HE : Hid (leBytes 2 n = leBytes 1 n ++ [UInt8.ofNat (n / 256)]) := HS.out.trans rfl
        go_wp2_with fail
        go_region_held3 (fun _ => True) (trivial) (first | (go_at_call 122; refine (put_at _ wb (l ++ leBytes 1 n) (UInt8.ofNat (n / 256)) _ (wrap8 _ _ (by omega)) (by exact HB0.out.same rfl) HLL).mono ?_; rintro e w1 ⟨rfl, hF1, hB1⟩; have HF1 : Hid (Fr (One wb) w w1) := HF.out.trans ((Fr.dr _ _).trans hF1); have HB1 := hide hB1; clear hF1 hB1))
        go_wp2_with fail
        refine ⟨⟨2, by omega, by go_num, ?_, HF1⟩, by simp [intOf]; omega⟩
        rw [HE.out, ← List.append_assoc]
        exact HB1
      · have HB0 : Hid (WB wr wb (l ++ leBytes 2 n)) := HB
        have HE : Hid (leBytes 3 n = leBytes 2 n ++ [UInt8.ofNat (n / 65536)]) := HS.out.trans rfl
        go_wp2_with fail
        go_region_held3 (fun _ => True) (trivial) (first | (go_at_call 122; refine (put_at _ wb (l ++ leBytes 2 n) (UInt8.ofNat (n / 65536)) _ (wrap8 _ _ (by omega)) (by exact HB0.out.same rfl) HLL).mono ?_; rintro e w1 ⟨rfl, hF1, hB1⟩; have HF1 : Hid (Fr (One wb) w w1) := HF.out.trans ((Fr.dr _ _).trans hF1); have HB1 := hide hB1; clear hF1 hB1))
        go_wp2_with fail
        refine ⟨⟨3, by omega, by go_num, ?_, HF1⟩, by simp [intOf]; omega⟩
        rw [HE.out, ← List.append_assoc]
        exact HB1
      · have HB0 : Hid (WB wr wb (l ++ leBytes 3 n)) := HB
        have HE : Hid (leBytes 4 n = leBytes 3 n ++ [UInt8.ofNat (n / 16777216)]) := HS.out.trans rfl
        go_wp2_with fail
        go_region_held3 (fun _ => True) (trivial) (first | (go_at_call 122; refine (put_at _ wb (l ++ leBytes 3 n) (UInt8.ofNat (n / 16777216)) _ (wrap8 _ _ (by omega)) (by exact HB0.out.same rfl) HLL).mono ?_; rintro e w1 ⟨rfl, hF1, hB1⟩; have HF1 : Hid (Fr (One wb) w w1) := HF.out.trans ((Fr.dr _ _).trans hF1); have HB1 := hide hB1; clear hF1 hB1))
        go_wp2_with fail
        refine ⟨⟨4, by omega, by go_num, ?_, HF1⟩, by simp [intOf]; omega⟩
        rw [HE.out, ← List.append_assoc]
        exact HB1
    · have hkl : k = c := by omega
      subst hkl
      go_wp2_with fail
      go_end0
      exact ⟨rfl, HF, HB⟩

end Go.Proofs.YtdcjogpkogidaaaGreatDoor

namespace Go.Proofs.YtdcjogpkogidaaaGreatDoor
open Go.RowKit

theorem count_byte : ∀ n, n < 301 → 128 ≤ n → bits BinOp.or IntKind.i64 (bits BinOp.and IntKind.i64 (n : Nat) 127) 128 % 256 = (((n % 128 + 128 : Nat)) : Int) := by decide +kernel

set_option maxHeartbeats 4000000 in
set_option maxRecDepth 100000 in
theorem wcount_any (w : World) (wb : Nat) (l : Bs) (n : Nat) (h : WB w wb l) (hl : l.length ≤ 100000000000000000) (hn : n ≤ 300) :
    Calls Tryz.prog 123 #[.pointer (some ⟨wb, 0, none⟩), .int .i64 n] w fun e w' => PutPost w wb (l ++ wCount n) e w' := by
  have HW := hide h
  have HL := hide hl
  clear h hl
  by_cases hle : n ≤ 127
  · have hI : ¬ (127 : Int) < (n : Int) := by omega
    have HE : Hid (wCount n = [UInt8.ofNat n]) := by show _ = _; unfold wCount; rw [if_pos hle]
    have hm : ((n : Nat) : Int) % 256 = n := by omega
    go_enter Tryz.func123, Tryz.ntmps123
    go_wp2_with fail
    refine wp_loop_rounds 1 ?_
    rw [rounds_succ]
    go_wp2_with fail
    refine (put_at _ wb l (UInt8.ofNat n) _ (by rw [toNat_ofNat (by omega)]) HW (by have := HL.out; omega)).mono ?_
    rintro e w1 ⟨rfl, hF1, hB1⟩
    have HF1 := hide hF1
    have HB1 := hide hB1
    clear hF1 hB1
    go_wp2_with fail
    go_end0
    rw [HE.out]
    exact ⟨rfl, HF1, HB1⟩
  · have hI : (127 : Int) < (n : Int) := by omega
    have HE : Hid (wCount n = [UInt8.ofNat (n % 128 + 128), UInt8.ofNat (n / 128)]) := by show _ = _; unfold wCount; rw [if_neg hle]
    have hb := count_byte n (by omega) (by omega)
    have HB := hide hb
    clear hb
    go_enter Tryz.func123, Tryz.ntmps123
    go_wp2_with fail
    refine wp_loop_rounds 2 ?_
    rw [rounds_succ]
    go_wp2_with fail
    refine (put_at _ wb l (UInt8.ofNat (n % 128 + 128)) _ (by rw [toNat_ofNat (by omega)]; exact HB) HW (by have := HL.out; omega)).mono ?_
    rintro e w1 ⟨rfl, hF1, hB1⟩
    have HF1 := hide hF1
    have HB1 := hide hB1
    clear hF1 hB1
    have hq : ((n : Int) / 128) ≤ 127 := by omega
    have hq2 : ¬ (127 : Int) < (n : Int) / 128 := by omega
    have hq3 : ((n : Int) / 128) % 256 = (n : Int) / 128 := by omega
    go_wp2_with fail
    rw [rounds_succ]
    go_wp2_with fail
    refine (put_at _ wb (l ++ [UInt8.ofNat (n % 128 + 128)]) (UInt8.ofNat (n / 128)) _ (by rw [toNat_ofNat (by omega)]; omega) HB1 (by have := HL.out; simp; omega)).mono ?_
    rintro e w2 ⟨rfl, hF2, hB2⟩
    have HF2 := hide (HF1.out.trans hF2)
    have HB2 := hide hB2
    clear hF2 hB2
    go_wp2_with fail
    go_end0
    rw [HE.out]
    refine ⟨rfl, HF2, ?_⟩
    have := HB2.out
    rw [List.append_assoc] at this
    exact this

end Go.Proofs.YtdcjogpkogidaaaGreatDoor

namespace Go.Proofs.YtdcjogpkogidaaaGreatDoor
open Go.RowKit

theorem beBytes_take (m : Nat) : ∀ k, k < 8 → (beBytes 8 m).take (k + 1) = (beBytes 8 m).take k ++ [UInt8.ofNat (m / 256 ^ (7 - k))] := by
  intro k hk
  have hl : (beBytes 8 m).length = 8 := by simp [beBytes, leBytes_length]
  rw [List.take_succ_eq_append_getElem (by omega)]
  congr 2
  have : ∀ k, k < 8 → (beBytes 8 m)[k]? = some (UInt8.ofNat (m / 256 ^ (7 - k))) := by
    intro k hk
    simp only [beBytes, leBytes, Nat.div_div_eq_div_mul, List.reverse_cons, List.reverse_nil, List.nil_append, List.cons_append]
    match k, hk with
    | 0, _ => rfl
    | 1, _ => rfl
    | 2, _ => rfl
    | 3, _ => rfl
    | 4, _ => rfl
    | 5, _ => rfl
    | 6, _ => rfl
    | 7, _ => simp
  have h2 := this k hk
  rw [List.getElem?_eq_getElem (by omega)] at h2
  simpa using h2

set_option maxHeartbeats 16000000 in
set_option maxRecDepth 100000 in
theorem highestFirst_any (w : World) (wb : Nat) (l : Bs) (n : Int) (h : WB w wb l) (hl : l.length ≤ 100000000000000000) (hn : n ≤ 9223372036854775807) (hn2 : -9223372036854775808 ≤ n) :
    Calls Tryz.prog 121 #[.pointer (some ⟨wb, 0, none⟩), .int .i64 n, .int .i64 8] w fun e w' => PutPost w wb (l ++ beBytes 8 (ofInt64 n)) e w' := by
  have HW := hide h
  have HL := hide hl
  clear h hl
  go_enter Tryz.func121, Tryz.ntmps121
  go_wp2_with fail
  go_loopw [8] (fun i wr => ∃ k : Nat, k ≤ 8 ∧ i = .int .i64 k ∧ Hid (WB wr wb (l ++ (beBytes 8 (ofInt64 n)).take k)) ∧ Hid (Fr (One wb) w wr)) (fun i _ => 8 - (intOf i).toNat)
  case atStart => exact ⟨0, by omega, rfl, by simpa using HW, Fr.refl _ _⟩
  case round =>
    obtain ⟨k, hk, rfl, HB, HF⟩ := hrel
    by_cases hlt : k < 8
    · have HS := hide (beBytes_take (ofInt64 n) k hlt)
      have HLL : Hid ((l ++ (beBytes 8 (ofInt64 n)).take k).length ≤ 1000000000000000000) := by
        show _ ≤ _
        rw [List.length_append, List.length_take]
        have := HL.out
        omega
      have w0a : IntKind.i64.wrap 0 = 0 := by decide +kernel
      have w1a : IntKind.i64.wrap 8 = 8 := by decide +kernel
      have w2a : IntKind.i64.wrap 16 = 16 := by decide +kernel
      have w3a : IntKind.i64.wrap 24 = 24 := by decide +kernel
      have w4a : IntKind.i64.wrap 32 = 32 := by decide +kernel
      have w5a : IntKind.i64.wrap 40 = 40 := by decide +kernel
      have w6a : IntKind.i64.wrap 48 = 48 := by decide +kernel
      have w7a : IntKind.i64.wrap 56 = 56 := by decide +kernel
      have s0a : IntKind.i64.wrap 0 = 0 := by decide +kernel
      have s1a : IntKind.i64.wrap 1 = 1 := by decide +kernel
      have s2a : IntKind.i64.wrap 2 = 2 := by decide +kernel
      have s3a : IntKind.i64.wrap 3 = 3 := by decide +kernel
      have s4a : IntKind.i64.wrap 4 = 4 := by decide +kernel
      have s5a : IntKind.i64.wrap 5 = 5 := by decide +kernel
      have s6a : IntKind.i64.wrap 6 = 6 := by decide +kernel
      have s7a : IntKind.i64.wrap 7 = 7 := by decide +kernel
      obtain rfl | rfl | rfl | rfl | rfl | rfl | rfl | rfl : k = 0 ∨ k = 1 ∨ k = 2 ∨ k = 3 ∨ k = 4 ∨ k = 5 ∨ k = 6 ∨ k = 7 := by omega
      · have HB0 : Hid (WB wr wb (l ++ (beBytes 8 (ofInt64 n)).take 0)) := HB
        have HE : Hid ((beBytes 8 (ofInt64 n)).take 1 = (beBytes 8 (ofInt64 n)).take 0 ++ [UInt8.ofNat (ofInt64 n / 72057594037927936)]) := HS.out
        go_wp2_with fail
        go_region_held3 (fun _ => True) (trivial) (first | (go_at_call 122; refine (put_at _ wb (l ++ (beBytes 8 (ofInt64 n)).take 0) (UInt8.ofNat (ofInt64 n / 72057594037927936)) _ (wrap8 _ _ (by unfold ofInt64; omega)) (by exact HB0.out.same rfl) HLL).mono ?_; rintro e w1 ⟨rfl, hF1, hB1⟩; have HF1 : Hid (Fr (One wb) w w1) := HF.out.trans ((Fr.dr _ _).trans hF1); have HB1 := hide hB1; clear hF1 hB1))
        go_wp2_with fail
        refine ⟨⟨1, by omega, by go_num, ?_, HF1⟩, by simp [intOf]⟩
        rw [HE.out, ← List.append_assoc]
        exact HB1
      · have HB0 : Hid (WB wr wb (l ++ (beBytes 8 (ofInt64 n)).take 1)) := HB
        have HE : Hid ((beBytes 8 (ofInt64 n)).take 2 = (beBytes 8 (ofInt64 n)).take 1 ++ [UInt8.ofNat (ofInt64 n / 281474976710656)]) := HS.out
        go_wp2_with fail
        go_region_held3 (fun _ => True) (trivial) (first | (go_at_call 122; refine (put_at _ wb (l ++ (beBytes 8 (ofInt64 n)).take 1) (UInt8.ofNat (ofInt64 n / 281474976710656)) _ (wrap8 _ _ (by unfold ofInt64; omega)) (by exact HB0.out.same rfl) HLL).mono ?_; rintro e w1 ⟨rfl, hF1, hB1⟩; have HF1 : Hid (Fr (One wb) w w1) := HF.out.trans ((Fr.dr _ _).trans hF1); have HB1 := hide hB1; clear hF1 hB1))
        go_wp2_with fail
        refine ⟨⟨2, by omega, by go_num, ?_, HF1⟩, by simp [intOf]⟩
        rw [HE.out, ← List.append_assoc]
        exact HB1
      · have HB0 : Hid (WB wr wb (l ++ (beBytes 8 (ofInt64 n)).take 2)) := HB
        have HE : Hid ((beBytes 8 (ofInt64 n)).take 3 = (beBytes 8 (ofInt64 n)).take 2 ++ [UInt8.ofNat (ofInt64 n / 1099511627776)]) := HS.out
        go_wp2_with fail
        go_region_held3 (fun _ => True) (trivial) (first | (go_at_call 122; refine (put_at _ wb (l ++ (beBytes 8 (ofInt64 n)).take 2) (UInt8.ofNat (ofInt64 n / 1099511627776)) _ (wrap8 _ _ (by unfold ofInt64; omega)) (by exact HB0.out.same rfl) HLL).mono ?_; rintro e w1 ⟨rfl, hF1, hB1⟩; have HF1 : Hid (Fr (One wb) w w1) := HF.out.trans ((Fr.dr _ _).trans hF1); have HB1 := hide hB1; clear hF1 hB1))
        go_wp2_with fail
        refine ⟨⟨3, by omega, by go_num, ?_, HF1⟩, by simp [intOf]⟩
        rw [HE.out, ← List.append_assoc]
        exact HB1
      · have HB0 : Hid (WB wr wb (l ++ (beBytes 8 (ofInt64 n)).take 3)) := HB
        have HE : Hid ((beBytes 8 (ofInt64 n)).take 4 = (beBytes 8 (ofInt64 n)).take 3 ++ [UInt8.ofNat (ofInt64 n / 4294967296)]) := HS.out
        go_wp2_with fail
        go_region_held3 (fun _ => True) (trivial) (first | (go_at_call 122; refine (put_at _ wb (l ++ (beBytes 8 (ofInt64 n)).take 3) (UInt8.ofNat (ofInt64 n / 4294967296)) _ (wrap8 _ _ (by unfold ofInt64; omega)) (by exact HB0.out.same rfl) HLL).mono ?_; rintro e w1 ⟨rfl, hF1, hB1⟩; have HF1 : Hid (Fr (One wb) w w1) := HF.out.trans ((Fr.dr _ _).trans hF1); have HB1 := hide hB1; clear hF1 hB1))
        go_wp2_with fail
        refine ⟨⟨4, by omega, by go_num, ?_, HF1⟩, by simp [intOf]⟩
        rw [HE.out, ← List.append_assoc]
        exact HB1
      · have HB0 : Hid (WB wr wb (l ++ (beBytes 8 (ofInt64 n)).take 4)) := HB
        have HE : Hid ((beBytes 8 (ofInt64 n)).take 5 = (beBytes 8 (ofInt64 n)).take 4 ++ [UInt8.ofNat (ofInt64 n / 16777216)]) := HS.out
        go_wp2_with fail
        go_region_held3 (fun _ => True) (trivial) (first | (go_at_call 122; refine (put_at _ wb (l ++ (beBytes 8 (ofInt64 n)).take 4) (UInt8.ofNat (ofInt64 n / 16777216)) _ (wrap8 _ _ (by unfold ofInt64; omega)) (by exact HB0.out.same rfl) HLL).mono ?_; rintro e w1 ⟨rfl, hF1, hB1⟩; have HF1 : Hid (Fr (One wb) w w1) := HF.out.trans ((Fr.dr _ _).trans hF1); have HB1 := hide hB1; clear hF1 hB1))
        go_wp2_with fail
        refine ⟨⟨5, by omega, by go_num, ?_, HF1⟩, by simp [intOf]⟩
        rw [HE.out, ← List.append_assoc]
        exact HB1
      · have HB0 : Hid (WB wr wb (l ++ (beBytes 8 (ofInt64 n)).take 5)) := HB
        have HE : Hid ((beBytes 8 (ofInt64 n)).take 6 = (beBytes 8 (ofInt64 n)).take 5 ++ [UInt8.ofNat (ofInt64 n / 65536)]) := HS.out
        go_wp2_with fail
        go_region_held3 (fun _ => True) (trivial) (first | (go_at_call 122; refine (put_at _ wb (l ++ (beBytes 8 (ofInt64 n)).take 5) (UInt8.ofNat (ofInt64 n / 65536)) _ (wrap8 _ _ (by unfold ofInt64; omega)) (by exact HB0.out.same rfl) HLL).mono ?_; rintro e w1 ⟨rfl, hF1, hB1⟩; have HF1 : Hid (Fr (One wb) w w1) := HF.out.trans ((Fr.dr _ _).trans hF1); have HB1 := hide hB1; clear hF1 hB1))
        go_wp2_with fail
        refine ⟨⟨6, by omega, by go_num, ?_, HF1⟩, by simp [intOf]⟩
        rw [HE.out, ← List.append_assoc]
        exact HB1
      · have HB0 : Hid (WB wr wb (l ++ (beBytes 8 (ofInt64 n)).take 6)) := HB
        have HE : Hid ((beBytes 8 (ofInt64 n)).take 7 = (beBytes 8 (ofInt64 n)).take 6 ++ [UInt8.ofNat (ofInt64 n / 256)]) := HS.out
        go_wp2_with fail
        go_region_held3 (fun _ => True) (trivial) (first | (go_at_call 122; refine (put_at _ wb (l ++ (beBytes 8 (ofInt64 n)).take 6) (UInt8.ofNat (ofInt64 n / 256)) _ (wrap8 _ _ (by unfold ofInt64; omega)) (by exact HB0.out.same rfl) HLL).mono ?_; rintro e w1 ⟨rfl, hF1, hB1⟩; have HF1 : Hid (Fr (One wb) w w1) := HF.out.trans ((Fr.dr _ _).trans hF1); have HB1 := hide hB1; clear hF1 hB1))
        go_wp2_with fail
        refine ⟨⟨7, by omega, by go_num, ?_, HF1⟩, by simp [intOf]⟩
        rw [HE.out, ← List.append_assoc]
        exact HB1
      · have HB0 : Hid (WB wr wb (l ++ (beBytes 8 (ofInt64 n)).take 7)) := HB
        have HE : Hid ((beBytes 8 (ofInt64 n)).take 8 = (beBytes 8 (ofInt64 n)).take 7 ++ [UInt8.ofNat (ofInt64 n / 1)]) := HS.out
        go_wp2_with fail
        go_region_held3 (fun _ => True) (trivial) (first | (go_at_call 122; refine (put_at _ wb (l ++ (beBytes 8 (ofInt64 n)).take 7) (UInt8.ofNat (ofInt64 n / 1)) _ (wrap8 _ _ (by unfold ofInt64; omega)) (by exact HB0.out.same rfl) HLL).mono ?_; rintro e w1 ⟨rfl, hF1, hB1⟩; have HF1 : Hid (Fr (One wb) w w1) := HF.out.trans ((Fr.dr _ _).trans hF1); have HB1 := hide hB1; clear hF1 hB1))
        go_wp2_with fail
        refine ⟨⟨8, by omega, by go_num, ?_, HF1⟩, by simp [intOf]⟩
        rw [HE.out, ← List.append_assoc]
        exact HB1
    · have hkl : k = 8 := by omega
      subst hkl
      go_wp2_with fail
      go_end0
      refine ⟨rfl, HF, ?_⟩
      have h' := HB.out
      rw [List.take_of_length_le (by simp [beBytes, leBytes_length])] at h'
      exact h'

end Go.Proofs.YtdcjogpkogidaaaGreatDoor
