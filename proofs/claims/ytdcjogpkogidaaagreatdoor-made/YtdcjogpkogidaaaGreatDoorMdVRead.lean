/- How bytes and numbers are read of a message. -/
import Derived.Laws.BitsAllLaws
import Derived.Test.YtdcjogpkogidaaaGreatDoorMdVMess
namespace Go.Proofs.YtdcjogpkogidaaaGreatDoor
open Go.RowKit

theorem vStepI {ty : TypeId} {w : World} {rb : Nat} {s : ByteArray} {a r l : Bs} (h : RB ty w rb s l) (hl : l = a ++ r) (hs : s.size ≤ maxLen) (k : Int) (hk : k = a.length) :
    Calls Tryz.prog 167 #[.pointer (some ⟨rb, 0, none⟩), .int .i64 k] w fun e w' => e = .returned (.tuple #[]) ∧ RB ty w' rb s r ∧ Fr (One rb) w w' := by
  subst hl
  exact vStep h hs k hk

set_option maxHeartbeats 2000000 in
theorem take_any {ty : TypeId} {w : World} {rb : Nat} {s : ByteArray} {l : Bs} (c : Nat) (hc : c ≤ 300) (h : RB ty w rb s l) (hs : s.size ≤ maxLen) :
    Calls Tryz.prog 176 #[.pointer (some ⟨rb, 0, none⟩), .int .i64 c] w fun e w' => Fr (One rb) w w' ∧ RB ty w' rb s (mTake c l).2 ∧ e = .returned (.tuple #[.string (ba ((mTake c l).1.getD [])), .bool (mTake c l).1.isSome]) := by
  have HR := hide h
  have h1 := h.at1
  have hll := h.len
  have HT := hide h.tail
  have hp : ((s.size : Nat) : Int) - ((pos s l : Nat) : Int) = ((l.length : Nat) : Int) := by unfold pos; omega
  have hs' := hs
  unfold maxLen at hs'
  clear h
  by_cases hlt : l.length < c
  · have hI : (l.length : Int) < (c : Int) := by omega
    have HU : Hid (mTake c l = (none, [])) := by show mTake c l = _; unfold mTake; rw [if_pos hlt]
    go_enter Tryz.func176, Tryz.ntmps176
    go_wp2_with fail
    refine (vAt HR).mono ?_
    rintro e w1 ⟨rfl, e1⟩
    obtain rfl := e1.symm
    go_wp2_with fail
    refine (vStepI (a := l) (r := []) HR (by simp) hs _ rfl).mono ?_
    rintro e w2 ⟨rfl, hR2, hF2⟩
    have HR2 := hide hR2
    have HF2 := hide hF2
    clear hR2 hF2
    go_wp2_with fail
    go_ret2
    rw [HU.out]
    exact ⟨HF2, HR2, rfl⟩
  · have hI : ¬ (l.length : Int) < (c : Int) := by omega
    have HU : Hid (mTake c l = (some (l.take c), l.drop c)) := by show mTake c l = _; unfold mTake; rw [if_neg hlt]
    have HTD : Hid (l = l.take c ++ l.drop c) := (List.take_append_drop c l).symm
    have HCL : Hid ((l.take c).length = c) := by show _ = _; rw [List.length_take]; omega
    go_enter Tryz.func176, Tryz.ntmps176
    go_wp2_with fail
    refine (vAt HR).mono ?_
    rintro e w1 ⟨rfl, e1⟩
    obtain rfl := e1.symm
    go_wp2_with fail
    refine (vStepI (a := l.take c) (r := l.drop c) HR HTD hs _ (by rw [HCL.out])).mono ?_
    rintro e w2 ⟨rfl, hR2, hF2⟩
    have HR2 := hide hR2
    have HF2 := hide hF2
    clear hR2 hF2
    go_wp2_with fail
    have HQ := vSince (got := l.take c) HR2.out hs (by rw [← HTD.out]; exact hll) (by rw [← HTD.out]; exact HT)
    rw [← HTD.out] at HQ
    refine HQ.mono ?_
    rintro e w3 ⟨rfl, hR3, hF3⟩
    have HR3 := hide hR3
    have HF3 := hide (HF2.out.trans hF3)
    clear hR3 hF3 HQ
    go_wp2_with fail
    go_ret2
    rw [HU.out]
    exact ⟨HF3, HR3, rfl⟩

theorem or_low (A B k : Nat) (hA : A < 2 ^ k) (hB : 2 ^ k * B + A < 9223372036854775808) : bits .or .i64 (A : Int) ((2 ^ k * B : Nat) : Int) = ((A + 2 ^ k * B : Nat) : Int) := by
  show IntKind.i64.wrap ((BitVec.ofInt 64 (A : Int) ||| BitVec.ofInt 64 ((2 ^ k * B : Nat) : Int)).toNat : Int) = _
  rw [BitVec.toNat_or, ofInt_u64 A (by omega), ofInt_u64 (2 ^ k * B) (by omega), Nat.or_comm, ← Nat.two_pow_add_eq_or_of_lt hA B, IntKind.wrap_i64]
  omega
theorem or_high (x : Int) (b : Nat) (hb : b < 256) (hx : x % 256 = 0) (h1 : -9223372036854775808 ≤ x) (h2 : x ≤ 9223372036854775807) : bits .or .i64 x (b : Int) = x + b := by
  show IntKind.i64.wrap ((BitVec.ofInt 64 x ||| BitVec.ofInt 64 (b : Int)).toNat : Int) = _
  have e : (BitVec.ofInt 64 x).toNat = (x % 18446744073709551616).toNat := by simp [BitVec.toNat_ofInt]
  obtain ⟨q, hq⟩ : ∃ q, (x % 18446744073709551616).toNat = 2 ^ 8 * q := ⟨(x % 18446744073709551616).toNat / 256, by omega⟩
  rw [BitVec.toNat_or, ofInt_u64 b (by omega), e, hq, ← Nat.two_pow_add_eq_or_of_lt (by omega) q, IntKind.wrap_i64]
  omega

theorem leNat_snoc : ∀ (x : Bs) (y : UInt8), leNat (x ++ [y]) = leNat x + 256 ^ x.length * y.toNat := by
  intro x y
  induction x with
  | nil => simp [leNat]
  | cons z x ihx =>
    simp only [List.cons_append, leNat, ihx, List.length_cons, Nat.pow_succ]
    rw [Nat.mul_add, Nat.add_assoc, ← Nat.mul_assoc, Nat.mul_comm 256 (256 ^ x.length)]

set_option maxHeartbeats 8000000 in
set_option maxRecDepth 100000 in
theorem lowestR_any {ty : TypeId} {w : World} {rb : Nat} {s : ByteArray} {l : Bs} (c : Nat) (hc : c ≤ 4) (h : RB ty w rb s l) (hs : s.size ≤ maxLen) :
    Calls Tryz.prog 131 #[.pointer (some ⟨rb, 0, none⟩), .int .i64 c] w fun e w' => NumPost ty w rb s ((mTake c l).1.map (fun b => (leNat b : Int)), (mTake c l).2) e w' := by
  have HR := hide h
  clear h
  go_enter Tryz.func131, Tryz.ntmps131
  go_wp2_with fail
  refine (take_any c (by omega) HR hs).mono ?_
  rintro e w1 ⟨hF1, hR1, rfl⟩
  have HF1 := hide hF1
  have HR1 := hide hR1
  obtain ⟨b, hb⟩ : ∃ b, b = (mTake c l).1.getD [] := ⟨_, rfl⟩
  have HP : Hid (∀ x, (mTake c l).1.map (fun b => (leNat b : Int)) = some x → (leNat b : Int) = x) := fun x hx => by
    simp only [Option.map_eq_some_iff] at hx
    obtain ⟨b', h1, rfl⟩ := hx
    rw [hb, h1]
    rfl
  have hb4 : b.length ≤ 4 := by
    rw [hb]
    rcases hq : mTake c l with ⟨_ | b', r⟩
    · simp
    · simp; have := (mTake_some hq).1; omega
  rw [← hb]
  have hsz := ba_size b
  generalize hq : (mTake c l).1.isSome = q at *
  have HQ := hide hq
  clear hF1 hR1 hb hq
  go_wp2_with fail
  go_loopw [8, 20] (fun nv iv wr => ∃ k : Nat, k ≤ b.length ∧ iv = .int .i64 k ∧ nv = .int .i64 (leNat (b.take k)) ∧ Hid (RB ty wr rb s (mTake c l).2) ∧ Hid (Fr (One rb) w wr)) (fun _ iv _ => b.length - (intOf iv).toNat)
  case atStart => exact ⟨0, by omega, rfl, rfl, HR1, HF1⟩
  case round =>
    obtain ⟨k, hk, rfl, rfl, HRr, HF⟩ := hrel
    by_cases hlt : k < b.length
    · obtain ⟨x, hx⟩ : ∃ x, b[k]? = some x := ⟨b[k], by simp⟩
      obtain ⟨hj, hg⟩ := ba_get hx
      have hI : (k : Int) < (b.length : Int) := by omega
      have HS : Hid (leNat (b.take (k + 1)) = leNat (b.take k) + 256 ^ k * x.toNat) := by
        show _ = _
        obtain ⟨_, he⟩ := List.getElem?_eq_some_iff.1 hx
        rw [List.take_succ_eq_append_getElem hlt, he, leNat_snoc, List.length_take, Nat.min_eq_left (by omega)]
      have hLt := leNat_lt (b.take k)
      rw [List.length_take, Nat.min_eq_left (by omega)] at hLt
      have hx8 := x.toNat_lt
      clear hx
      obtain rfl | rfl | rfl | rfl : k = 0 ∨ k = 1 ∨ k = 2 ∨ k = 3 := by omega
      all_goals
        generalize leNat (b.take _) = N at hLt HS ⊢
        simp only [Nat.reducePow] at hLt
      · have hor : bits BinOp.or IntKind.i64 (N : Int) ((x.toNat : Int)) = ((N + 1 * x.toNat : Nat) : Int) := by
          have := or_low N x.toNat 0 (by omega) (by omega)
          rw [← this]
          congr 1
          omega
        have hwr : IntKind.i64.wrap 0 = 0 := by decide +kernel
        go_wp2_with fail
        exact ⟨⟨1, by omega, by go_num, by rw [HS.out]; go_num, HRr, HF⟩, by simp [intOf]; omega⟩
      · have hor : bits BinOp.or IntKind.i64 (N : Int) ((x.toNat : Int) * 256) = ((N + 256 * x.toNat : Nat) : Int) := by
          have := or_low N x.toNat 8 (by omega) (by omega)
          rw [← this]
          congr 1
          omega
        have hwr : IntKind.i64.wrap 8 = 8 := by decide +kernel
        go_wp2_with fail
        exact ⟨⟨2, by omega, by go_num, by rw [HS.out]; go_num, HRr, HF⟩, by simp [intOf]; omega⟩
      · have hor : bits BinOp.or IntKind.i64 (N : Int) ((x.toNat : Int) * 65536) = ((N + 65536 * x.toNat : Nat) : Int) := by
          have := or_low N x.toNat 16 (by omega) (by omega)
          rw [← this]
          congr 1
          omega
        have hwr : IntKind.i64.wrap 16 = 16 := by decide +kernel
        go_wp2_with fail
        exact ⟨⟨3, by omega, by go_num, by rw [HS.out]; go_num, HRr, HF⟩, by simp [intOf]; omega⟩
      · have hor : bits BinOp.or IntKind.i64 (N : Int) ((x.toNat : Int) * 16777216) = ((N + 16777216 * x.toNat : Nat) : Int) := by
          have := or_low N x.toNat 24 (by omega) (by omega)
          rw [← this]
          congr 1
          omega
        have hwr : IntKind.i64.wrap 24 = 24 := by decide +kernel
        go_wp2_with fail
        exact ⟨⟨4, by omega, by go_num, by rw [HS.out]; go_num, HRr, HF⟩, by simp [intOf]; omega⟩
    · have hkl : k = b.length := by omega
      subst hkl
      have hI : ¬ (b.length : Int) < (b.length : Int) := by omega
      go_wp2_with fail
      go_ret2
      refine ⟨HF, HRr, leNat b, ?_, HP⟩
      simp only [Option.isSome_map]
      rw [HQ.out]
      rfl

end Go.Proofs.YtdcjogpkogidaaaGreatDoor

namespace Go.Proofs.YtdcjogpkogidaaaGreatDoor
open Go.RowKit

theorem beNat_snoc (x : Bs) (y : UInt8) : beNat (x ++ [y]) = beNat x * 256 + y.toNat := by simp [beNat, List.foldl_append]
theorem beNat_lt (x : Bs) : beNat x < 256 ^ x.length := by
  rw [beNat_leNat]
  have := leNat_lt x.reverse
  rw [List.length_reverse] at this
  exact this
theorem or_step (N : Nat) (b : Nat) (hb : b < 256) (hN : N < 72057594037927936) : bits .or .i64 (wrap64 ((N : Int) * 256)) (b : Int) = toInt64 (N * 256 + b) := by
  unfold wrap64
  rw [or_high _ b hb (by omega) (by omega) (by omega)]
  unfold toInt64
  split <;> omega

set_option maxHeartbeats 8000000 in
set_option maxRecDepth 100000 in
theorem highestR_any {ty : TypeId} {w : World} {rb : Nat} {s : ByteArray} {l : Bs} (h : RB ty w rb s l) (hs : s.size ≤ maxLen) :
    Calls Tryz.prog 132 #[.pointer (some ⟨rb, 0, none⟩), .int .i64 8] w fun e w' => NumPost ty w rb s ((mTake 8 l).1.map (fun b => toInt64 (beNat b)), (mTake 8 l).2) e w' := by
  have HR := hide h
  clear h
  go_enter Tryz.func132, Tryz.ntmps132
  go_wp2_with fail
  refine (take_any 8 (by omega) HR hs).mono ?_
  rintro e w1 ⟨hF1, hR1, rfl⟩
  have HF1 := hide hF1
  have HR1 := hide hR1
  obtain ⟨b, hb⟩ : ∃ b, b = (mTake 8 l).1.getD [] := ⟨_, rfl⟩
  have HP : Hid (∀ x, (mTake 8 l).1.map (fun b => toInt64 (beNat b)) = some x → toInt64 (beNat b) = x) := fun x hx => by
    simp only [Option.map_eq_some_iff] at hx
    obtain ⟨b', h1, rfl⟩ := hx
    rw [hb, h1]
    rfl
  have hb8 : b.length ≤ 8 := by
    rw [hb]
    rcases hq : mTake 8 l with ⟨_ | b', r⟩
    · simp
    · simp; have := (mTake_some hq).1; omega
  rw [← hb]
  have hsz := ba_size b
  generalize hq : (mTake 8 l).1.isSome = q at *
  have HQ := hide hq
  clear hF1 hR1 hb hq
  go_wp2_with fail
  go_loopw [8, 20] (fun nv iv wr => ∃ k : Nat, k ≤ b.length ∧ iv = .int .i64 k ∧ nv = .int .i64 (toInt64 (beNat (b.take k))) ∧ Hid (RB ty wr rb s (mTake 8 l).2) ∧ Hid (Fr (One rb) w wr)) (fun _ iv _ => b.length - (intOf iv).toNat)
  case atStart => exact ⟨0, by omega, rfl, rfl, HR1, HF1⟩
  case round =>
    obtain ⟨k, hk, rfl, rfl, HRr, HF⟩ := hrel
    by_cases hlt : k < b.length
    · obtain ⟨x, hx⟩ : ∃ x, b[k]? = some x := ⟨b[k], by simp⟩
      obtain ⟨hj, hg⟩ := ba_get hx
      have hI : (k : Int) < (b.length : Int) := by omega
      have HS : Hid (beNat (b.take (k + 1)) = beNat (b.take k) * 256 + x.toNat) := by
        show _ = _
        obtain ⟨_, he⟩ := List.getElem?_eq_some_iff.1 hx
        rw [List.take_succ_eq_append_getElem hlt, he, beNat_snoc]
      have hLt : beNat (b.take k) < 72057594037927936 := by
        have h1 := beNat_lt (b.take k)
        rw [List.length_take, Nat.min_eq_left (by omega)] at h1
        exact Nat.lt_of_lt_of_le h1 (by
          have : 256 ^ k ≤ 256 ^ 7 := Nat.pow_le_pow_right (by omega) (by omega)
          exact this)
      have hx8 := x.toNat_lt
      clear hx
      generalize beNat (b.take k) = N at hLt HS ⊢
      have hN : toInt64 N = (N : Int) := by unfold toInt64; rw [if_pos (by omega)]
      rw [hN]
      have hor := or_step N x.toNat hx8 hLt
      clear hN
      go_wp2_with fail
      exact ⟨⟨k + 1, by omega, by go_num, by rw [HS.out], HRr, HF⟩, by simp [intOf]; omega⟩
    · have hkl : k = b.length := by omega
      subst hkl
      have hI : ¬ (b.length : Int) < (b.length : Int) := by omega
      go_wp2_with fail
      go_ret2
      refine ⟨HF, HRr, toInt64 (beNat b), ?_, HP⟩
      simp only [Option.isSome_map]
      rw [HQ.out]
      rfl

set_option maxHeartbeats 2000000 in
theorem below_any {ty : TypeId} {w : World} {rb : Nat} {s : ByteArray} {l : Bs} (c : Nat) (hc0 : 0 < c) (hc : c ≤ 6) (h : RB ty w rb s l) (hs : s.size ≤ maxLen) :
    Calls Tryz.prog 133 #[.pointer (some ⟨rb, 0, none⟩), .int .i64 c] w fun e w' => NumPost ty w rb s ((mBelow c l).1.map Int.ofNat, (mBelow c l).2) e w' := by
  have HR := hide h
  have hm : ((c : Int) - 1) % 256 = (c : Int) - 1 := by omega
  clear h
  by_cases hv : ∃ b r, l = b :: r ∧ b.toNat < c
  · obtain ⟨b, r, rfl, h1⟩ := hv
    have HV : Hid (mBelow c (b :: r) = (some b.toNat, r)) := by show _ = _; simp only [mBelow]; rw [if_pos h1]
    go_enter Tryz.func133, Tryz.ntmps133
    go_wp2_with fail
    refine (vIn_yes HR hs 0 _ (by omega) (by omega)).mono ?_
    rintro e w1 ⟨rfl, hR1, hF1⟩
    have HR1 := hide hR1
    have HF1 := hide hF1
    clear hR1 hF1
    go_wp2_with fail
    go_ret2
    rw [HV.out]
    exact ⟨HF1, HR1, b.toNat, rfl, fun x hx => by simp at hx; subst hx; rfl⟩
  · have HV : Hid (mBelow c l = (none, l)) := by
      show _ = _
      cases l with
      | nil => rfl
      | cons b r => simp only [mBelow]; rw [if_neg (fun h => hv ⟨b, r, rfl, h⟩)]
    have hno : ∀ b r, l = b :: r → (b.toNat : Int) < 0 ∨ ((c : Int) - 1) < (b.toNat : Int) := fun b r e => by
      by_cases h1 : b.toNat < c
      · exact (hv ⟨b, r, e, h1⟩).elim
      · omega
    have HNO := hide hno
    clear hv hno
    go_enter Tryz.func133, Tryz.ntmps133
    go_wp2_with fail
    refine (vIn_no HR hs 0 _ (by first | exact HNO.out | (intro b r e; have := HNO.out b r e; omega))).mono ?_
    rintro e w1 ⟨rfl, hR1, hF1⟩
    have HR1 := hide hR1
    have HF1 := hide hF1
    clear hR1 hF1
    go_wp2_with fail
    go_ret2
    rw [HV.out]
    exact ⟨HF1, HR1, 0, rfl, fun x hx => by simp at hx⟩

end Go.Proofs.YtdcjogpkogidaaaGreatDoor

namespace Go.Proofs.YtdcjogpkogidaaaGreatDoor
open Go.RowKit

theorem and127 : ∀ n, n < 256 → bits BinOp.and IntKind.u8 (n : Nat) 127 = ((n % 128 : Nat) : Int) := by decide +kernel
theorem or_zero (m : Nat) (h : m < 1000) : bits BinOp.or IntKind.i64 0 (m : Int) = (m : Int) := by
  have := or_low 0 m 0 (by omega) (by omega)
  simpa using this
theorem or_count (m c : Nat) (h : m < 128) (hc : c < 256) : bits BinOp.or IntKind.i64 (m : Int) ((c : Int) * 128) = ((m + 128 * c : Nat) : Int) := by
  have := or_low m c 7 (by omega) (by omega)
  rw [← show ((2 ^ 7 * c : Nat) : Int) = (c : Int) * 128 by omega]
  exact this

def cnt2 (b : Nat) : Bs → Option Nat × Bs
  | [] => (none, [])
  | c :: l' => if c.toNat = 0 ∨ 300 < b - 128 + 128 * c.toNat then (none, c :: l') else (some (b - 128 + 128 * c.toNat), l')
theorem mCount_two (b : UInt8) (r : Bs) (h : ¬ b.toNat ≤ 127) : mCount (b :: r) = cnt2 b.toNat r := by
  simp only [mCount]
  rw [if_neg h]
  cases r <;> rfl

set_option maxHeartbeats 8000000 in
set_option maxRecDepth 100000 in
theorem count_any {ty : TypeId} {w : World} {rb : Nat} {s : ByteArray} {l : Bs} (h : RB ty w rb s l) (hs : s.size ≤ maxLen) :
    Calls Tryz.prog 177 #[.pointer (some ⟨rb, 0, none⟩)] w fun e w' => Fr (One rb) w w' ∧ RB ty w' rb s (mCount l).2 ∧ ∃ m : Nat, e = .returned (.tuple #[.int .i64 m, .bool (mCount l).1.isSome]) ∧ (∀ x, (mCount l).1 = some x → m = x) := by
  have HR := hide h
  clear h
  rcases l with _ | ⟨b, r⟩
  · go_enter Tryz.func177, Tryz.ntmps177
    go_wp2_with fail
    refine wp_loop_rounds 1 ?_
    rw [rounds_succ]
    go_wp2_with fail
    refine (vPeek_no HR hs).mono ?_
    rintro e w1 ⟨rfl, hR1, hF1⟩
    have HR1 := hide hR1
    have HF1 := hide hF1
    clear hR1 hF1
    go_wp2_with fail
    go_ret2
    exact ⟨HF1, HR1, 0, rfl, fun x hx => by cases hx⟩
  · have hb := b.toNat_lt
    have ha := and127 b.toNat hb
    have ho := or_zero (b.toNat % 128) (by omega)
    by_cases hle : b.toNat ≤ 127
    · have HV : Hid (mCount (b :: r) = (some b.toNat, r)) := by show _ = _; simp only [mCount]; rw [if_pos hle]
      have hI : ¬ (127 : Int) < (b.toNat : Int) := by omega
      have hIb : decide ((127 : Int) < (b.toNat : Int)) = false := decide_eq_false hI
      have hm : b.toNat % 128 = b.toNat := by omega
      rw [hm] at ha ho
      clear hm
      by_cases hz : b.toNat = 0
      · have hzI : ((b.toNat : Int) == 0) = true := beq_iff_eq.2 (by omega)
        have hz2 : (b.toNat : Int) = 0 := by omega
        have ha0 : bits BinOp.and IntKind.u8 0 127 = 0 := by decide +kernel
        have ho0 : bits BinOp.or IntKind.i64 0 0 = 0 := by decide +kernel
        have hw0 : wrap64 0 = 0 := by decide +kernel
        have HZ := hide hz
        clear hz ha ho
        go_enter Tryz.func177, Tryz.ntmps177
        go_wp2_with fail
        refine wp_loop_rounds 1 ?_
        rw [rounds_succ]
        go_wp2_with fail
        refine (vPeek_yes HR hs).mono ?_
        rintro e w1 ⟨rfl, hR1, hF1⟩
        have HR1 := hide hR1
        have HF1 := hide hF1
        clear hR1 hF1
        have h3 : ¬ (300 : Int) < (b.toNat : Int) := by omega
        go_wp2_with fail
        refine (vStep (a := [b]) HR1 hs 1 rfl).mono ?_
        rintro e w2 ⟨rfl, hR2, hF2⟩
        have HR2 := hide hR2
        have HF2 := hide (HF1.out.trans hF2)
        clear hR2 hF2
        go_wp2_with fail
        go_ret2
        rw [HV.out]
        exact ⟨HF2, HR2, 0, rfl, fun x hx => by simp at hx; have := HZ.out; omega⟩
      · have hzI : ((b.toNat : Int) == 0) = false := beq_eq_false_iff_ne.2 (by omega)
        go_enter Tryz.func177, Tryz.ntmps177
        go_wp2_with fail
        refine wp_loop_rounds 1 ?_
        rw [rounds_succ]
        go_wp2_with fail
        refine (vPeek_yes HR hs).mono ?_
        rintro e w1 ⟨rfl, hR1, hF1⟩
        have HR1 := hide hR1
        have HF1 := hide hF1
        clear hR1 hF1
        have h3 : ¬ (300 : Int) < (b.toNat : Int) := by omega
        go_wp2_with fail
        refine (vStep (a := [b]) HR1 hs 1 rfl).mono ?_
        rintro e w2 ⟨rfl, hR2, hF2⟩
        have HR2 := hide hR2
        have HF2 := hide (HF1.out.trans hF2)
        clear hR2 hF2
        go_wp2_with fail
        go_ret2
        rw [HV.out]
        exact ⟨HF2, HR2, b.toNat, rfl, fun x hx => by simp at hx; exact hx⟩
    · have hI : (127 : Int) < (b.toNat : Int) := by omega
      have hzI0 : ((b.toNat : Int) == 0) = false := beq_eq_false_iff_ne.2 (by omega)
      have HV0 : Hid (mCount (b :: r) = cnt2 b.toNat r) := mCount_two b r hle
      obtain ⟨m, hm⟩ : ∃ m, m = b.toNat % 128 := ⟨_, rfl⟩
      have hmb : m = b.toNat - 128 := by omega
      rw [← hm] at ha ho
      have hm128 : m < 128 := by omega
      have HMB := hide hmb
      clear hm hmb
      go_enter Tryz.func177, Tryz.ntmps177
      go_wp2_with fail
      refine wp_loop_rounds 2 ?_
      rw [rounds_succ]
      go_wp2_with fail
      refine (vPeek_yes HR hs).mono ?_
      rintro e w1 ⟨rfl, hR1, hF1⟩
      have HR1 := hide hR1
      have HF1 := hide hF1
      clear hR1 hF1
      have h3 : ¬ (300 : Int) < (m : Int) + 128 := by omega
      go_wp2_with fail
      refine (vStep (a := [b]) HR1 hs 1 rfl).mono ?_
      rintro e w2 ⟨rfl, hR2, hF2⟩
      have HR2 := hide hR2
      have HF2 := hide (HF1.out.trans hF2)
      clear hR2 hF2 ha ho hI h3
      go_wp2_with fail
      rw [rounds_succ]
      go_wp2_with fail
      rcases r with _ | ⟨c, r⟩
      · refine (vPeek_no HR2 hs).mono ?_
        rintro e w3 ⟨rfl, hR3, hF3⟩
        have HR3 := hide hR3
        have HF3 := hide (HF2.out.trans hF3)
        clear hR3 hF3
        go_wp2_with fail
        go_ret2
        rw [HV0.out]
        exact ⟨HF3, HR3, 0, rfl, fun x hx => by cases hx⟩
      · have hc := c.toNat_lt
        refine (vPeek_yes HR2 hs).mono ?_
        rintro e w3 ⟨rfl, hR3, hF3⟩
        have HR3 := hide hR3
        have HF3 := hide (HF2.out.trans hF3)
        clear hR3 hF3
        by_cases hz : c.toNat = 0
        · have HV : Hid (mCount (b :: c :: r) = (none, c :: r)) := HV0.out.trans (by simp only [cnt2]; rw [if_pos (.inl hz)])
          have hzI : ((c.toNat : Int) == 0) = true := beq_iff_eq.2 (by omega)
          have hz2 : (c.toNat : Int) = 0 := by omega
          clear hz
          go_wp2_with fail
          go_ret2
          rw [HV.out]
          exact ⟨HF3, HR3, 0, rfl, fun x hx => by cases hx⟩
        · have hzI : ((c.toNat : Int) == 0) = false := beq_eq_false_iff_ne.2 (by omega)
          have ha := and127 c.toNat hc
          by_cases hgo : c.toNat ≤ 127
          · have hI : ¬ (127 : Int) < (c.toNat : Int) := by omega
            have hIb : decide ((127 : Int) < (c.toNat : Int)) = false := decide_eq_false hI
            have e : c.toNat % 128 = c.toNat := by omega
            rw [e] at ha
            have ho := or_count m c.toNat hm128 hc
            clear e
            by_cases h3 : 300 < m + 128 * c.toNat
            · have HV : Hid (mCount (b :: c :: r) = (none, c :: r)) := HV0.out.trans (by simp only [cnt2]; rw [if_pos (.inr (by have := HMB.out; omega))])
              have h3I : (300 : Int) < ((m + 128 * c.toNat : Nat) : Int) := by omega
              have h3J : (300 : Int) < (m : Int) + 128 * (c.toNat : Int) := by omega
              go_wp2_with fail
              go_ret2
              rw [HV.out]
              exact ⟨HF3, HR3, 0, rfl, fun x hx => by cases hx⟩
            · have HV : Hid (mCount (b :: c :: r) = (some (m + 128 * c.toNat), r)) := HV0.out.trans (by simp only [cnt2]; rw [if_neg (by have := HMB.out; omega), HMB.out])
              have h3I : ¬ (300 : Int) < ((m + 128 * c.toNat : Nat) : Int) := by omega
              have h3J : ¬ (300 : Int) < (m : Int) + 128 * (c.toNat : Int) := by omega
              go_wp2_with fail
              refine (vStep (a := [c]) HR3 hs 1 rfl).mono ?_
              rintro e w4 ⟨rfl, hR4, hF4⟩
              have HR4 := hide hR4
              have HF4 := hide (HF3.out.trans hF4)
              clear hR4 hF4
              go_wp2_with fail
              go_ret2
              rw [HV.out]
              refine ⟨HF4, HR4, m + 128 * c.toNat, ?_, fun x hx => by simp at hx; exact hx⟩
              first | rfl | (simp; done)
          · have hI : (127 : Int) < (c.toNat : Int) := by omega
            have HV : Hid (mCount (b :: c :: r) = (none, c :: r)) := HV0.out.trans (by simp only [cnt2]; rw [if_pos (.inr (by omega))])
            have ho := or_count m (c.toNat % 128) hm128 (by omega)
            obtain ⟨d, hd⟩ : ∃ d, d = c.toNat % 128 := ⟨_, rfl⟩
            rw [← hd] at ha ho
            have hd128 : d < 128 := by omega
            clear hd
            have h3I : (300 : Int) < ((m + 128 * d : Nat) : Int) + 16384 := by omega
            have h3J : (300 : Int) < (m : Int) + 128 * (d : Int) + 16384 := by omega
            go_wp2_with fail
            go_ret2
            rw [HV.out]
            exact ⟨HF3, HR3, 0, rfl, fun x hx => by cases hx⟩

end Go.Proofs.YtdcjogpkogidaaaGreatDoor

namespace Go.Proofs.YtdcjogpkogidaaaGreatDoor
open Go.RowKit

theorem mCount_le {l : Bs} {n : Nat} {r : Bs} (h : mCount l = (some n, r)) : n ≤ 300 := (mCount_some h).1

set_option maxHeartbeats 2000000 in
theorem bytesR_any {ty : TypeId} {w : World} {rb : Nat} {s : ByteArray} {l : Bs} (h : RB ty w rb s l) (hs : s.size ≤ maxLen) :
    Calls Tryz.prog 135 #[.pointer (some ⟨rb, 0, none⟩)] w fun e w' => StrPost ty w rb s (mBytes l) e w' := by
  have HR := hide h
  clear h
  go_enter Tryz.func135, Tryz.ntmps135
  go_wp2_with fail
  refine (count_any HR hs).mono ?_
  have HU : Hid (mBytes l = match mCount l with
    | (none, r) => (none, r)
    | (some n, r) => mTake n r) := rfl
  rcases hq : mCount l with ⟨_ | n, r⟩
  · rw [hq] at HU
    rintro e w1 ⟨hF1, hR1, m, rfl, -⟩
    have HR1 := hide hR1
    have HF1 := hide hF1
    have HE : Hid (mBytes l = (none, r)) := HU
    clear hR1 hF1 hq HU
    go_wp2_with fail
    go_ret2
    rw [HE.out]
    exact ⟨HF1, HR1, ⟨#[]⟩, rfl, fun x hx => by cases hx⟩
  · rw [hq] at HU
    have hn := mCount_le hq
    rintro e w1 ⟨hF1, hR1, m, rfl, hm⟩
    have hmn : m = n := hm n rfl
    subst hmn
    have HR1 := hide hR1
    have HF1 := hide hF1
    have HE : Hid (mBytes l = mTake m r) := HU
    clear hR1 hF1 hq HU hm
    go_wp2_with fail
    refine (take_any m hn HR1 hs).mono ?_
    rintro e w2 ⟨hF2, hR2, rfl⟩
    have HR2 := hide hR2
    have HF2 := hide (HF1.out.trans hF2)
    clear hR2 hF2
    go_wp2_with fail
    go_ret2
    rw [HE.out]
    exact ⟨HF2, HR2, _, rfl, fun x hx => by rw [hx]; rfl⟩

set_option maxHeartbeats 4000000 in
set_option maxRecDepth 100000 in
theorem textR_any {ty : TypeId} {w : World} {rb : Nat} {s : ByteArray} {l : Bs} (h : RB ty w rb s l) (hs : s.size ≤ maxLen) :
    Calls Tryz.prog 134 #[.pointer (some ⟨rb, 0, none⟩)] w fun e w' => StrPost ty w rb s (mText l) e w' := by
  have HR := hide h
  clear h
  go_enter Tryz.func134, Tryz.ntmps134
  go_wp2_with fail
  refine (count_any HR hs).mono ?_
  have HU : Hid (mText l = match mCount l with
    | (none, r) => (none, r)
    | (some n, r) => mVis n [] r) := rfl
  rcases hq : mCount l with ⟨_ | n, r⟩
  · rw [hq] at HU
    rintro e w1 ⟨hF1, hR1, m, rfl, -⟩
    have HR1 := hide hR1
    have HF1 := hide hF1
    have HE : Hid (mText l = (none, r)) := HU
    clear hR1 hF1 hq HU
    go_wp2_with fail
    go_ret2
    rw [HE.out]
    exact ⟨HF1, HR1, ⟨#[]⟩, rfl, fun x hx => by cases hx⟩
  · rw [hq] at HU
    have hn := mCount_le hq
    rintro e w1 ⟨hF1, hR1, m, rfl, hm⟩
    have hmn : m = n := hm n rfl
    subst hmn
    have hll := hR1.len
    have HT := hide hR1.tail
    have HR1 := hide hR1
    have HF1 := hide hF1
    have HE : Hid (mText l = mVis m [] r) := HU
    clear hR1 hF1 hq HU hm
    go_wp2_with fail
    refine (vAt HR1).mono ?_
    rintro e w2 ⟨rfl, e2⟩
    obtain rfl := e2.symm
    go_wp2_with fail
    go_loopw [22] (fun iv wr => ∃ (k : Nat) (got rr : Bs), k ≤ m ∧ iv = .int .i64 k ∧ got.length = k ∧ r = got ++ rr ∧ Hid (mVis m [] r = mVis (m - k) got rr) ∧ Hid (RB ty wr rb s rr) ∧ Hid (Fr (One rb) w wr)) (fun iv _ => m - (intOf iv).toNat)
    case atStart => exact ⟨0, [], r, by omega, rfl, rfl, rfl, rfl, HR1, HF1⟩
    case round =>
      obtain ⟨k, got, rr, hk, rfl, hgl, hgr, HD, HRr, HF⟩ := hrel
      have HGR := hide hgr
      clear hgr
      by_cases hlt : k < m
      · have hI : (k : Int) < (m : Int) := by omega
        by_cases hv : ∃ b r', rr = b :: r' ∧ 32 ≤ b.toNat ∧ b.toNat ≤ 126
        · obtain ⟨b, r', rfl, h1, h2⟩ := hv
          have HX : Hid (mVis m [] r = mVis (m - (k + 1)) (got ++ [b]) r') := HD.out.trans (by rw [show m - k = (m - (k + 1)) + 1 by omega]; simp only [mVis]; rw [if_pos ⟨h1, h2⟩])
          clear HD
          go_wp2_with fail
          refine (vIn_yes HRr hs 32 126 (by omega) (by omega)).mono ?_
          rintro e w3 ⟨rfl, hR3, hF3⟩
          have HR3 := hide hR3
          have HF3 := hide (HF.out.trans hF3)
          clear hR3 hF3
          go_wp2_with fail
          exact ⟨⟨k + 1, got ++ [b], r', by omega, by go_num, by simp [hgl], by rw [HGR.out]; simp, HX, HR3, HF3⟩, by simp [intOf]; omega⟩
        · have hno : ∀ b r', rr = b :: r' → (b.toNat : Int) < 32 ∨ (126 : Int) < (b.toNat : Int) := fun b r' e => by
            by_cases h1 : 32 ≤ b.toNat
            · by_cases h2 : b.toNat ≤ 126
              · exact (hv ⟨b, r', e, h1, h2⟩).elim
              · omega
            · omega
          have HNO := hide hno
          have HX : Hid (mVis m [] r = (none, rr)) := HD.out.trans (by
            rw [show m - k = (m - (k + 1)) + 1 by omega]
            cases rr with
            | nil => rfl
            | cons b r' => simp only [mVis]; rw [if_neg (fun h => hv ⟨b, r', rfl, h⟩)])
          clear HD hv hno
          go_wp2_with fail
          refine (vIn_no HRr hs 32 126 HNO).mono ?_
          rintro e w3 ⟨rfl, hR3, hF3⟩
          have HR3 := hide hR3
          have HF3 := hide (HF.out.trans hF3)
          clear hR3 hF3
          go_wp2_with fail
          go_ret2
          rw [HE.out, HX.out]
          exact ⟨HF3, HR3, ⟨#[]⟩, rfl, fun x hx => by cases hx⟩
      · have hkm : k = m := by omega
        subst hkm
        have hI : ¬ (k : Int) < (k : Int) := by omega
        have HX : Hid (mVis k [] r = (some got, rr)) := HD.out.trans (by rw [Nat.sub_self]; rfl)
        clear HD
        have HQ := vSince (got := got) HRr.out hs (by rw [← HGR.out]; exact hll) (by rw [← HGR.out]; exact HT)
        rw [← HGR.out] at HQ
        have HQH := hide HQ
        clear HQ
        go_wp2_with fail
        refine HQH.out.mono ?_
        rintro e w3 ⟨rfl, hR3, hF3⟩
        have HR3 := hide hR3
        have HF3 := hide (HF.out.trans hF3)
        clear hR3 hF3 HQH
        go_wp2_with fail
        go_ret2
        rw [HE.out, HX.out]
        exact ⟨HF3, HR3, ba got, rfl, fun x hx => by simp at hx; subst hx; rfl⟩

set_option maxHeartbeats 8000000 in
set_option maxRecDepth 100000 in
theorem severalR_any {ty : TypeId} {w : World} {X : Nat → Prop} {rb : Nat} {s : ByteArray} {a : Addr} {l : Bs} {t : PT} {rd : PT → Bs → Option PV × Bs} (N : Nat) (hN : N ≤ 300) (hT : Said ty 87 rd t s) (h : RB ty w rb s l) (hX : X rb) (hXlt : ∀ b, X b → b < w.heap.size) (ht : TR w X a t) :
    Calls Tryz.prog 178 #[.pointer (some ⟨rb, 0, none⟩), .int .i64 N, .pointer (some a)] w fun e w' => PartsPost ty w X rb s (mSeveral (rd t) N [] l) e w' := by
  have HR := hide h
  have hrb := h.lt
  have HT := hide hT
  have HX := hide hXlt
  have HTR := hide ht
  clear h hT hXlt ht
  go_enter Tryz.func178, Tryz.ntmps178
  go_wp2_with fail
  go_loopw [8, 12] (fun ev iv w2 => ∃ (k : Nat) (acc : List PV) (rows : List VC) (r2 : Bs), k ≤ N ∧ acc.length = k ∧ iv = .int .i64 k ∧ Hid (mSeveral (rd t) N [] l = mSeveral (rd t) (N - k) acc r2) ∧ Hid (w2.ownsRow 0 96 4 ev rows.length (vCells rows)) ∧ Hid (∀ g, ev.ownBlock = some g → w.heap.size ≤ g) ∧
        Hid (VL w2 (XO X ev) rows acc) ∧ Hid (RB ty w2 rb s r2) ∧ Hid (Fr (One rb) w w2)) (fun _ iv _ => N - (intOf iv).toNat)
  case atStart => exact ⟨0, [], [], l, by omega, rfl, rfl, rfl, World.ownsRow_nil _ _ _ _, fun g hg => by simp [Value.ownBlock] at hg, VL.nil _ _, HR, Fr.refl _ _⟩
  case round =>
    obtain ⟨k, acc, rows, r2, hk, hacc, rfl, HE, HO2, HG, HL2, HR2, HF2⟩ := hrel
    have hrl : Hid (rows.length = acc.length) := HL2.out.1
    obtain ⟨ea, ecap, rfl⟩ := own_slice HO2.out
    have hX' : XO X (.slice ea rows.length ecap) rb := .inl hX
    have HNE : Hid (∀ g, (Value.slice ea rows.length ecap).ownBlock = some g → ¬ One rb g) := fun g hg e => by
      have e' : g = rb := e
      have := HG.out g hg
      omega
    by_cases hlt : k < N
    · have hI : (k : Int) < (N : Int) := by omega
      have HSTEP : Hid (mSeveral (rd t) N [] l = match rd t r2 with
          | (none, l1) => (none, l1)
          | (some v, l1) => mSeveral (rd t) (N - (k + 1)) (acc ++ [v]) l1) := HE.out.trans (by rw [show N - k = (N - (k + 1)) + 1 by omega]; rfl)
      clear HE
      go_wp2_with fail
      refine (HT.out _ (XO X (.slice ea rows.length ecap)) rb a r2 HR2 hX' (XO.lt HX HO2 HF2.out.size) (HTR.out.past.open_ hX HF2 HG)).mono ?_
      rcases hq : rd t r2 with ⟨_ | v, r3⟩
      · rw [hq] at HSTEP
        clear hq
        rintro e w3 ⟨hF3, hR3, ⟨ca, cn, cb, csv⟩, ⟨o, n, m, hsv⟩, rfl, -⟩
        simp only at hsv
        subst hsv
        have HX3 : Hid (mSeveral (rd t) N [] l = (none, r3)) := HSTEP
        have HR3 := hide hR3
        have HF3 := hide (HF2.out.trans hF3)
        clear hR3 hF3 HSTEP
        simp only [VC.val]
        go_wp2_with fail
        go_ret2
        rw [HX3.out]
        exact ⟨HF3.out.trans (Fr.alloc _ _ _), HR3.out.keep (Fr.alloc Zero _ _) (fun h => h), .slice none 0 0, ⟨_, _, _, rfl⟩, rfl, fun x hx => by cases hx⟩
      · rw [hq] at HSTEP
        clear hq
        rintro e w3 ⟨hF3, hR3, ⟨ca, cn, cb, csv⟩, ⟨o, n, m, hsv⟩, rfl, hv⟩
        simp only at hsv
        subst hsv
        have HX3 : Hid (mSeveral (rd t) N [] l = mSeveral (rd t) (N - (k + 1)) (acc ++ [v]) r3) := HSTEP
        have HV := hide (hv v rfl)
        have HR3 := hide hR3
        have HF3 := hide hF3
        clear hR3 hF3 hv HSTEP
        simp only [VC.val]
        obtain ⟨i0, hi, hz0, hz1, hz2⟩ := info_parts Tryz.info69
        go_wp2_with (at_builtin; refine wpList_append_mine _ rfl _ _ 94 rfl 0 96 i0 (.agg #[.pointer none, .int .i64 0, .string ⟨#[]⟩, .slice none 0 0]) 4 56 Tryz.underlying94 hi hz0 hz1 hz2 rfl (by decide) (.slice ea rows.length ecap) rows.length (vCells rows) rfl ?o1 ⟨w3.heap.size + 1, 0, none⟩ 1 1 (by omega) [.pointer (some ca), .int .i64 cn, .string (ba cb), .slice o n m] rfl rfl ?c1 ?c2 ?c3 ?c4 (Nat.zero_le _) ?_)
        case o1 => exact (ownsRow_keep HO2.out HF3 HNE.out).alloc _ |>.alloc _
        case c2 => exact ⟨rfl, rfl, rfl, rfl⟩
        case c3 => have := hrl.out; unfold maxLen; omega
        case c4 => have := hrl.out; omega
        intro v' w4 hO4 hg4 g cap hv' hgg
        have hFa : Fr (One rb) wr ((w3.alloc (.cells #[.pointer (some ca), .int .i64 cn, .string (ba cb), .slice o n m] 96)).alloc (.cells #[.pointer (some ca), .int .i64 cn, .string (ba cb), .slice o n m] 96)) := HF3.out.trans ((Fr.alloc _ _ _).trans (Fr.alloc _ _ _))
        have hFz : Fr Zero w3 ((w3.alloc (.cells #[.pointer (some ca), .int .i64 cn, .string (ba cb), .slice o n m] 96)).alloc (.cells #[.pointer (some ca), .int .i64 cn, .string (ba cb), .slice o n m] 96)) := (Fr.alloc _ _ _).trans (Fr.alloc _ _ _)
        have hsz := HF2.out.size
        have hsz2 := hFa.size
        obtain ⟨hL4, hO5, hG4, hF4, -⟩ := VL.grow (B := w.heap.size) (c := ⟨ca, cn, cb, .slice o n m⟩) (v := v) HG (Nat.le_trans hsz hsz2) (HL2.out.keep (hFa.mono (fun q _ e => by have e' : q = rb := e; rw [e']; exact hX'))) (HV.out.keep hFz.of0) hO4 hg4 ⟨g, cap, hv', by simpa using hgg⟩
        have HF4 := hide ((HF2.out.trans hFa).past hF4)
        have HR4 := hide ((HR3.out.keep hFz (fun h => h)).keep hF4 (by omega))
        have HL4 := hide hL4
        have HO5 := hide hO5
        have HG4 := hide hG4
        subst hv'
        clear hO4 hg4 hgg hFa hFz hL4 hO5 hG4 hF4 hi hz0 hz1 hz2 hsz hsz2 HNE HO2 HG HL2 HR3 HF3 HV HF2 HR2
        go_wp2_with fail
        go_roundw
        case rel => exact ⟨k + 1, acc ++ [v], rows ++ [⟨ca, cn, cb, .slice o n m⟩], r3, by omega, by simp [hacc], by go_num, HX3, HO5, HG4, HL4, HR4, HF4⟩
        case measure => simp [intOf]; omega
    · have hkl : k = N := by omega
      subst hkl
      have hI : ¬ (k : Int) < (k : Int) := by omega
      have HX3 : Hid (mSeveral (rd t) k [] l = (some acc, r2)) := HE.out.trans (by rw [Nat.sub_self]; rfl)
      clear HE
      go_wp2_with fail
      go_ret2
      rw [HX3.out]
      exact ⟨HF2, HR2, _, ⟨_, _, _, rfl⟩, rfl, fun x hx => by simp at hx; subst hx; exact ⟨_, HO2, HG, HL2⟩⟩

end Go.Proofs.YtdcjogpkogidaaaGreatDoor

namespace Go.Proofs.YtdcjogpkogidaaaGreatDoor
open Go.RowKit

theorem PartsPost.after {ty : TypeId} {w w1 w' : World} {X : Nat → Prop} {rb : Nat} {s : ByteArray} {res : Option (List PV) × Bs} {e : Ending} (h : PartsPost ty w1 X rb s res e w') (hf : Fr (One rb) w w1) : PartsPost ty w X rb s res e w' := by
  obtain ⟨h1, h2, sv, h3, h4, h5⟩ := h
  refine ⟨hf.trans h1, h2, sv, h3, h4, fun vs hv => ?_⟩
  obtain ⟨rows, q1, q2, q3⟩ := h5 vs hv
  exact ⟨rows, q1, fun g hg => Nat.le_trans hf.size (q2 g hg), q3⟩

set_option maxHeartbeats 4000000 in
set_option maxRecDepth 100000 in
theorem listR_any {ty : TypeId} {w : World} {X : Nat → Prop} {rb : Nat} {s : ByteArray} {a : Addr} {l : Bs} {t : PT} {rd : PT → Bs → Option PV × Bs} (hT : Said ty 87 rd t s) (h : RB ty w rb s l) (hX : X rb) (hXlt : ∀ b, X b → b < w.heap.size) (ht : TR w X a t) (hs : s.size ≤ maxLen) :
    Calls Tryz.prog 136 #[.pointer (some ⟨rb, 0, none⟩), .pointer (some a)] w fun e w' => PartsPost ty w X rb s (mList (rd t) l) e w' := by
  have HR := hide h
  have HT := hide hT
  have HX := hide hXlt
  have HTR := hide ht
  clear h hT hXlt ht
  go_enter Tryz.func136, Tryz.ntmps136
  go_wp2_with fail
  refine (count_any HR hs).mono ?_
  have HU : Hid (mList (rd t) l = match mCount l with
    | (none, r) => (none, r)
    | (some n, r) => mSeveral (rd t) n [] r) := rfl
  rcases hq : mCount l with ⟨_ | n, r⟩
  · rw [hq] at HU
    rintro e w1 ⟨hF1, hR1, m, rfl, -⟩
    have HR1 := hide hR1
    have HF1 := hide hF1
    have HE : Hid (mList (rd t) l = (none, r)) := HU
    clear hR1 hF1 hq HU
    go_wp2_with fail
    go_ret2
    rw [HE.out]
    exact ⟨HF1, HR1, .slice none 0 0, ⟨_, _, _, rfl⟩, rfl, fun x hx => by cases hx⟩
  · rw [hq] at HU
    have hn : n ≤ 300 := mCount_le hq
    rintro e w1 ⟨hF1, hR1, m, rfl, hm⟩
    have hmn : m = n := hm n rfl
    subst hmn
    have HR1 := hide hR1
    have HF1 := hide hF1
    clear hR1 hF1 hq hm
    go_wp2_with fail
    refine (severalR_any m hn HT HR1 hX (fun b hb => Nat.lt_of_lt_of_le (HX.out b hb) HF1.out.size) (HTR.out.keep (HF1.out.one hX))).mono ?_
    have HE : Hid (mList (rd t) l = mSeveral (rd t) m [] r) := HU
    clear HU
    intro e w2 hP
    obtain ⟨sv, ⟨o, n', j, hsv⟩, he, -⟩ := hP.2.2
    subst hsv he
    have HP := hide (hP.after HF1.out)
    clear hP
    go_wp2_with fail
    go_ret2
    rw [HE.out]
    exact HP

set_option maxHeartbeats 4000000 in
set_option maxRecDepth 100000 in
theorem optionR_any {ty : TypeId} {w : World} {X : Nat → Prop} {rb : Nat} {s : ByteArray} {a : Addr} {l : Bs} {t : PT} {rd : PT → Bs → Option PV × Bs} (hT : Said ty 87 rd t s) (h : RB ty w rb s l) (hX : X rb) (hXlt : ∀ b, X b → b < w.heap.size) (ht : TR w X a t) (hs : s.size ≤ maxLen) :
    Calls Tryz.prog 137 #[.pointer (some ⟨rb, 0, none⟩), .pointer (some a)] w fun e w' => PartsPost ty w X rb s (mOpt (rd t) l) e w' := by
  have HR := hide h
  have HT := hide hT
  have HX := hide hXlt
  have HTR := hide ht
  clear h hT hXlt ht
  go_enter Tryz.func137, Tryz.ntmps137
  go_wp2_with fail
  refine (below_any 2 (by omega) (by omega) HR hs).mono ?_
  have HU : Hid (mOpt (rd t) l = match mBelow 2 l with
    | (none, r) => (none, r)
    | (some n, r) => mSeveral (rd t) n [] r) := rfl
  rcases hq : mBelow 2 l with ⟨_ | n, r⟩
  · rw [hq] at HU
    rintro e w1 ⟨hF1, hR1, m, rfl, -⟩
    have HR1 := hide hR1
    have HF1 := hide hF1
    have HE : Hid (mOpt (rd t) l = (none, r)) := HU
    clear hR1 hF1 hq HU
    go_wp2_with fail
    go_ret2
    rw [HE.out]
    exact ⟨HF1, HR1, .slice none 0 0, ⟨_, _, _, rfl⟩, rfl, fun x hx => by cases hx⟩
  · rw [hq] at HU
    have hn : n ≤ 300 := by have := (mBelow_some hq).1; omega
    rintro e w1 ⟨hF1, hR1, m, rfl, hm⟩
    have hmn : m = (n : Int) := hm n rfl
    subst hmn
    have HR1 := hide hR1
    have HF1 := hide hF1
    clear hR1 hF1 hq hm
    go_wp2_with fail
    refine (severalR_any n hn HT HR1 hX (fun b hb => Nat.lt_of_lt_of_le (HX.out b hb) HF1.out.size) (HTR.out.keep (HF1.out.one hX))).mono ?_
    have HE : Hid (mOpt (rd t) l = mSeveral (rd t) n [] r) := HU
    clear HU
    intro e w2 hP
    obtain ⟨sv, ⟨o, n', j, hsv⟩, he, -⟩ := hP.2.2
    subst hsv he
    have HP := hide (hP.after HF1.out)
    clear hP
    go_wp2_with fail
    go_ret2
    rw [HE.out]
    exact HP

theorem mFields_cons (rd : PT → Bs → Option PV × Bs) (t : PT) (ts : List PT) (acc : List PV) (l : Bs) : mFields rd (t :: ts) acc l = match rd t l with
    | (none, l1) => (none, l1)
    | (some v, l1) => mFields rd ts (acc ++ [v]) l1 := rfl

set_option maxHeartbeats 8000000 in
set_option maxRecDepth 100000 in
theorem recordR_row {ty : TypeId} {w : World} {X : Nat → Prop} {rb : Nat} {s : ByteArray} {l : Bs} {subs : List PT} {rd : PT → Bs → Option PV × Bs} (pg pcap : Nat) (prow : List (ByteArray × Addr))
    (hT : ∀ u ∈ subs, Said ty 87 rd u s) (h : RB ty w rb s l) (hX : X rb) (hXlt : ∀ b, X b → b < w.heap.size)
    (hO : w.ownsRow 0 146 2 (.slice (some ⟨pg, 0, none⟩) prow.length pcap) prow.length (rowCells prow)) (hpg : ¬ X pg) (hlen : prow.length = subs.length) (h6 : subs.length ≤ 6)
    (htr : ∀ (j : Nat) (p : ByteArray × Addr) (u : PT), prow[j]? = some p → subs[j]? = some u → TR w X p.2 u) :
    Calls Tryz.prog 138 #[.pointer (some ⟨rb, 0, none⟩), .slice (some ⟨pg, 0, none⟩) prow.length pcap] w fun e w' => PartsPost ty w X rb s (mFields rd subs [] l) e w' := by
  have HR := hide h
  have hrb := h.lt
  have HT := hide hT
  have HX := hide hXlt
  have HTR := hide htr
  have hpl : pg < w.heap.size := (hO.lt pg rfl).2
  have hpr : ¬ One rb pg := fun e => by have e' : pg = rb := e; rw [e'] at hpg; exact hpg hX
  have HPR := hide hpr
  have HPO := hide hO
  have HLEN := hide hlen
  clear h hT hXlt htr hO hpr hpg hlen
  go_enter Tryz.func138, Tryz.ntmps138
  go_wp2_with fail
  go_loopw [6, 13] (fun ev iv wr => ∃ (k : Nat) (acc : List PV) (rows : List VC) (r : Bs), k ≤ subs.length ∧ acc.length = k ∧ iv = .int .i64 k ∧ Hid (mFields rd subs [] l = mFields rd (subs.drop k) acc r) ∧ Hid (wr.ownsRow 0 96 4 ev rows.length (vCells rows)) ∧ Hid (∀ g, ev.ownBlock = some g → w.heap.size ≤ g) ∧
        Hid (VL wr (XO X ev) rows acc) ∧ Hid (RB ty wr rb s r) ∧ Hid (Fr (One rb) w wr)) (fun _ iv _ => subs.length - (intOf iv).toNat)
  case atStart => exact ⟨0, [], [], l, by omega, rfl, rfl, rfl, World.ownsRow_nil _ _ _ _, fun g hg => by simp [Value.ownBlock] at hg, VL.nil _ _, HR, Fr.refl _ _⟩
  case round =>
    obtain ⟨k, acc, rows, r, hk, hacc, rfl, HE, HO, HG, HVL, HRr, HF⟩ := hrel
    have hrl : Hid (rows.length = acc.length) := HVL.out.1
    obtain ⟨ea, ecap, rfl⟩ := own_slice HO.out
    have hX' : XO X (.slice ea rows.length ecap) rb := .inl hX
    have HNE : Hid (∀ g, (Value.slice ea rows.length ecap).ownBlock = some g → ¬ One rb g) := fun g hg e => by
      have e' : g = rb := e
      have := HG.out g hg
      omega
    by_cases hlt : k < subs.length
    · obtain ⟨p, hp⟩ : ∃ p, prow[k]? = some p := ⟨prow[k]'(by have := HLEN.out; omega), by simp⟩
      obtain ⟨u, hu⟩ : ∃ u, subs[k]? = some u := ⟨subs[k], by simp⟩
      have hc0 : wr.cell? ⟨pg, k * 2, none⟩ = some (.string p.1) := by
        rw [HF.out.cell (a := ⟨pg, k * 2, none⟩) hpl HPR, HPO.out.cellAt (k * 2) (by have := HLEN.out; omega)]
        exact (rowCells_get prow k p hp).1
      have hc1 : wr.cell? ⟨pg, k * 2 + 1, none⟩ = some (.pointer (some p.2)) := by
        rw [HF.out.cell (a := ⟨pg, k * 2 + 1, none⟩) hpl HPR, HPO.out.cellAt (k * 2 + 1) (by have := HLEN.out; omega)]
        exact (rowCells_get prow k p hp).2
      have HTU : Hid (TR w X p.2 u) := HTR.out k p u hp hu
      have HTS : Hid (Said ty 87 rd u s) := HT.out u (List.mem_of_getElem? hu)
      have HDR : Hid (subs.drop k = u :: subs.drop (k + 1)) := by
        show _ = _
        obtain ⟨_, he⟩ := List.getElem?_eq_some_iff.1 hu
        rw [List.drop_eq_getElem_cons hlt, he]
      have hI : (k : Int) < (prow.length : Int) := by have := HLEN.out; omega
      have HSTEP : Hid (mFields rd subs [] l = match rd u r with
          | (none, l2) => (none, l2)
          | (some v, l2) => mFields rd (subs.drop (k + 1)) (acc ++ [v]) l2) := HE.out.trans (by rw [HDR.out, mFields_cons])
      clear hp hu HE
      have hFa0 := Fr.alloc (One rb) wr (.cells #[.string p.1, .pointer (some p.2)] 146)
      have HF2 := hide (HF.out.trans hFa0)
      have HO2 := hide (ownsRow_keep HO.out hFa0 HNE.out)
      have HL2 := hide (HVL.out.keep (hFa0.mono (Y := XO X (.slice ea rows.length ecap)) (fun q _ e => by have e' : q = rb := e; rw [e']; exact hX')))
      have HR2 := hide (HRr.out.keep (Fr.alloc Zero wr (.cells #[.string p.1, .pointer (some p.2)] 146)) (fun h => h))
      clear hFa0 HO HVL
      go_wp2_with fail
      refine (HTS.out _ (XO X (.slice ea rows.length ecap)) rb p.2 r HR2 hX' (XO.lt HX HO2 HF2.out.size) (HTU.out.past.open_ hX HF2 HG)).mono ?_
      rcases hq : rd u r with ⟨_ | v, r3⟩
      · rw [hq] at HSTEP
        clear hq
        rintro e w3 ⟨hF3, hR3, ⟨ca, cn, cb, csv⟩, ⟨o, n, m, hsv⟩, rfl, -⟩
        simp only at hsv
        subst hsv
        have HX3 : Hid (mFields rd subs [] l = (none, r3)) := HSTEP
        have HR3 := hide hR3
        have HF3 := hide (HF2.out.trans hF3)
        clear hR3 hF3 HSTEP
        simp only [VC.val]
        go_wp2_with fail
        go_ret2
        rw [HX3.out]
        exact ⟨HF3.out.trans (Fr.alloc _ _ _), HR3.out.keep (Fr.alloc Zero _ _) (fun h => h), .slice none 0 0, ⟨_, _, _, rfl⟩, rfl, fun x hx => by cases hx⟩
      · rw [hq] at HSTEP
        clear hq
        rintro e w3 ⟨hF3, hR3, ⟨ca, cn, cb, csv⟩, ⟨o, n, m, hsv⟩, rfl, hv⟩
        simp only at hsv
        subst hsv
        have HX3 : Hid (mFields rd subs [] l = mFields rd (subs.drop (k + 1)) (acc ++ [v]) r3) := HSTEP
        have HV := hide (hv v rfl)
        have HR3 := hide hR3
        have HF3 := hide hF3
        clear hR3 hF3 hv HSTEP
        simp only [VC.val]
        obtain ⟨i0, hi, hz0, hz1, hz2⟩ := info_parts Tryz.info69
        go_wp2_with (at_builtin; refine wpList_append_mine _ rfl _ _ 94 rfl 0 96 i0 (.agg #[.pointer none, .int .i64 0, .string ⟨#[]⟩, .slice none 0 0]) 4 56 Tryz.underlying94 hi hz0 hz1 hz2 rfl (by decide) (.slice ea rows.length ecap) rows.length (vCells rows) rfl ?o1 ⟨w3.heap.size + 1, 0, none⟩ 1 1 (by omega) [.pointer (some ca), .int .i64 cn, .string (ba cb), .slice o n m] rfl rfl ?c1 ?c2 ?c3 ?c4 (Nat.zero_le _) ?_)
        case o1 => exact (ownsRow_keep HO2.out HF3 HNE.out).alloc _ |>.alloc _
        case c2 => exact ⟨rfl, rfl, rfl, rfl⟩
        case c3 => have := hrl.out; unfold maxLen; omega
        case c4 => have := hrl.out; omega
        intro v' w4 hO4 hg4 g cap hv' hgg
        have hFa : Fr (One rb) (wr.alloc (.cells #[.string p.1, .pointer (some p.2)] 146)) ((w3.alloc (.cells #[.pointer (some ca), .int .i64 cn, .string (ba cb), .slice o n m] 96)).alloc (.cells #[.pointer (some ca), .int .i64 cn, .string (ba cb), .slice o n m] 96)) := HF3.out.trans ((Fr.alloc _ _ _).trans (Fr.alloc _ _ _))
        have hFz : Fr Zero w3 ((w3.alloc (.cells #[.pointer (some ca), .int .i64 cn, .string (ba cb), .slice o n m] 96)).alloc (.cells #[.pointer (some ca), .int .i64 cn, .string (ba cb), .slice o n m] 96)) := (Fr.alloc _ _ _).trans (Fr.alloc _ _ _)
        have hsz := HF2.out.size
        have hsz2 := hFa.size
        obtain ⟨hL4, hO5, hG4, hF4, -⟩ := VL.grow (B := w.heap.size) (c := ⟨ca, cn, cb, .slice o n m⟩) (v := v) HG (Nat.le_trans hsz hsz2) (HL2.out.keep (hFa.mono (fun q _ e => by have e' : q = rb := e; rw [e']; exact hX'))) (HV.out.keep hFz.of0) hO4 hg4 ⟨g, cap, hv', by simpa using hgg⟩
        have HF4 := hide ((HF2.out.trans hFa).past hF4)
        have HR4 := hide ((HR3.out.keep hFz (fun h => h)).keep hF4 (by omega))
        have HL4 := hide hL4
        have HO5 := hide hO5
        have HG4 := hide hG4
        subst hv'
        clear hO4 hg4 hgg hFa hFz hL4 hO5 hG4 hF4 hi hz0 hz1 hz2 hsz hsz2 HNE HO2 HG HL2 HR3 HF3 HV HF2 HR2 HRr HF
        go_wp2_with fail
        go_roundw
        case rel => exact ⟨k + 1, acc ++ [v], rows ++ [⟨ca, cn, cb, .slice o n m⟩], r3, by omega, by simp [hacc], by go_num, HX3, HO5, HG4, HL4, HR4, HF4⟩
        case measure => simp [intOf]; omega
    · have hkl : k = subs.length := by omega
      subst hkl
      have hI : ¬ (subs.length : Int) < (prow.length : Int) := by have := HLEN.out; omega
      have HX3 : Hid (mFields rd subs [] l = (some acc, r)) := HE.out.trans (by rw [List.drop_length]; rfl)
      clear HE
      go_wp2_with fail
      go_ret2
      rw [HX3.out]
      exact ⟨HF, HRr, _, ⟨_, _, _, rfl⟩, rfl, fun x hx => by simp at hx; subst hx; exact ⟨_, HO, HG, HVL⟩⟩

set_option maxHeartbeats 8000000 in
set_option maxRecDepth 100000 in
theorem choiceR_row {ty : TypeId} {w : World} {X : Nat → Prop} {rb : Nat} {s : ByteArray} {l : Bs} {t : PT} {rd : PT → Bs → Option PV × Bs} (pg pcap : Nat) (prow : List (ByteArray × Addr))
    (hT : ∀ u ∈ t.subs, Said ty 87 rd u s) (h : RB ty w rb s l) (hX : X rb) (hXlt : ∀ b, X b → b < w.heap.size)
    (hO : w.ownsRow 0 146 2 (.slice (some ⟨pg, 0, none⟩) prow.length pcap) prow.length (rowCells prow)) (hpg : ¬ X pg) (hlen : prow.length = t.subs.length) (h0 : 0 < prow.length) (h6 : prow.length ≤ 6)
    (htr : ∀ (j : Nat) (p : ByteArray × Addr) (u : PT), prow[j]? = some p → t.subs[j]? = some u → TR w X p.2 u) (hs : s.size ≤ maxLen) :
    Calls Tryz.prog 139 #[.pointer (some ⟨rb, 0, none⟩), .slice (some ⟨pg, 0, none⟩) prow.length pcap] w fun e w' => CasePost ty w X rb s (mCase rd t l) e w' := by
  have HR := hide h
  have hrb := h.lt
  have HT := hide hT
  have HX := hide hXlt
  have HTR := hide htr
  have hpl : pg < w.heap.size := (hO.lt pg rfl).2
  have hpr : ¬ One rb pg := fun e => by have e' : pg = rb := e; rw [e'] at hpg; exact hpg hX
  have HPR := hide hpr
  have HPO := hide hO
  have HLEN := hide hlen
  have HU : Hid (mCase rd t l = match mBelow prow.length l with
      | (none, l1) => (none, l1)
      | (some i, l1) => ((rd (t.sub i) l1).1.map (fun v => (i, v)), (rd (t.sub i) l1).2)) := by show _ = _; unfold mCase; rw [hlen]; rfl
  clear h hT hXlt htr hO hpr hpg hlen
  go_enter Tryz.func139, Tryz.ntmps139
  go_wp2_with fail
  refine (below_any prow.length h0 h6 HR hs).mono ?_
  rcases hq : mBelow prow.length l with ⟨_ | i, l1⟩
  · rw [hq] at HU
    have HE : Hid (mCase rd t l = (none, l1)) := HU
    clear hq HU
    rintro e w2 ⟨hF2, hR2, n, rfl, -⟩
    have HF2 := hide hF2
    have HR2 := hide hR2
    clear hF2 hR2
    go_wp2_with fail
    go_ret3
    rw [HE.out]
    exact ⟨HF2, HR2, 0, .slice none 0 0, ⟨_, _, _, rfl⟩, rfl, fun i v hx => by cases hx⟩
  · rw [hq] at HU
    have HE : Hid (mCase rd t l = ((rd (t.sub i) l1).1.map (fun v => (i, v)), (rd (t.sub i) l1).2)) := HU
    have hil : i < prow.length := (mBelow_some hq).1
    clear hq HU
    rintro e w2 ⟨hF2, hR2, n, rfl, hn⟩
    have hni : n = i := hn i rfl
    subst hni
    have HF2 := hide hF2
    have HR2 := hide hR2
    clear hF2 hR2 hn
    obtain ⟨p, hp⟩ : ∃ p, prow[i]? = some p := ⟨prow[i], by simp⟩
    have hiu : i < t.subs.length := by have := HLEN.out; omega
    have HTU : Hid (TR w X p.2 (t.sub i)) := HTR.out i p _ hp (PT.sub_some hiu)
    have HTS : Hid (Said ty 87 rd (t.sub i) s) := HT.out _ (List.mem_of_getElem? (PT.sub_some hiu))
    have hc1 : w2.cell? ⟨pg, i * 2 + 1, none⟩ = some (.pointer (some p.2)) := by
      rw [HF2.out.cell (a := ⟨pg, i * 2 + 1, none⟩) hpl HPR, HPO.out.cellAt (i * 2 + 1) (by omega)]
      exact (rowCells_get prow i p hp).2
    have hiI : (i : Int) < (prow.length : Int) := by omega
    clear hp
    go_wp2_with fail
    refine (HTS.out _ X rb p.2 l1 HR2 hX (fun b hb => Nat.lt_of_lt_of_le (HX.out b hb) HF2.out.size) (HTU.out.keep (HF2.out.one hX))).mono ?_
    rcases hq2 : rd (t.sub i) l1 with ⟨q, r3⟩
    rw [hq2] at HE
    clear hq2
    rintro e w3 ⟨hF3, hR3, ⟨ca, cn, cb, csv⟩, ⟨o, m, j, hsv⟩, rfl, hv⟩
    simp only at hsv
    subst hsv
    have HV := hide hv
    have HR3 := hide hR3
    have HF3 := hide (HF2.out.trans hF3)
    clear hR3 hF3 hv
    simp only [VC.val]
    go_wp2_with fail
    go_region
    go_wp2_with fail
    go_ret3
    rw [HE.out]
    have hFz : Fr Zero w3 (((w3.alloc (.cells #[.pointer (some ca), .int .i64 cn, .string (ba cb), .slice o m j] 96)).alloc (.cells #[.pointer (some ca), .int .i64 cn, .string (ba cb), .slice o m j] 96)).drew) := (Fr.alloc _ _ _).trans ((Fr.alloc _ _ _).trans (Fr.drew _ _))
    refine ⟨HF3.out.trans hFz.of0, HR3.out.keep hFz (fun h => h), i, .slice (some ⟨w3.heap.size + 1, 0, none⟩) 1 1, ⟨_, _, _, rfl⟩, ?_, fun i' v hx => ?_⟩
    · have : (Option.map (fun v => (i, v)) q).isSome = q.isSome := by cases q <;> rfl
      simp only [this]
      rfl
    · simp only [Option.map_eq_some_iff] at hx
      obtain ⟨v', hq, he⟩ := hx
      simp at he
      obtain ⟨rfl, rfl⟩ := he
      have hw3 := HF3.out.size
      have hnew : (((w3.alloc (.cells #[.pointer (some ca), .int .i64 cn, .string (ba cb), .slice o m j] 96)).alloc (.cells #[.pointer (some ca), .int .i64 cn, .string (ba cb), .slice o m j] 96)).drew).heap[w3.heap.size + 1]? = some (.cells #[.pointer (some ca), .int .i64 cn, .string (ba cb), .slice o m j] 96 (0, 0)) := heap_new_at (w := w3.alloc (.cells #[.pointer (some ca), .int .i64 cn, .string (ba cb), .slice o m j] 96)) (by simp) _
      exact ⟨rfl, [⟨ca, cn, cb, .slice o m j⟩], own_one (c := ⟨ca, cn, cb, .slice o m j⟩) hnew, fun g hg => by simp [Value.ownBlock] at hg; omega, VL.snoc (rows := []) (VL.nil _ _) ((HV.out v' hq).past hFz (fun g hg => by simp [Value.ownBlock] at hg; omega))⟩

end Go.Proofs.YtdcjogpkogidaaaGreatDoor
