/- The maker's numbers. -/
import Derived.Deep.RegionHeld3
import Derived.Test.YtdcjogpkogidaaaGreatDoorMdMLeaf
namespace Go.Proofs.YtdcjogpkogidaaaGreatDoor.Q
open Go.RowKit

theorem infoMN : (Tryz.prog.info? 187).map (fun i => (i.zero, i.size, i.bytes)) = some (some (.agg #[.string ⟨#[]⟩, .int .i64 0]), 2, 24) := by kernel_rfl
theorem src_num {w : World} {n : Nat} {ty : TypeId} {s : Bs} {v : Int} (h : w.heap[n]? = some (.cells #[.string (ba s), .int .i64 v] ty (0, 0))) : Src Tryz.prog 2 34 (.slice (some ⟨n, 0, none⟩) 1 1) 1 [.string (ba s), .int .i64 v] w := by
  refine Src.ofSlice _ Tryz.underlying34 _ _ _ _ rfl (fun j u hj => ?_) (fun u hu => ?_)
  · match j, hj with
    | 0, hj => simp at hj; subst hj; rw [show (⟨n, 0, none⟩ : Addr).add 0 = ⟨n, 0, none⟩ by simp [Addr.add]]; rw [cell_of_heap h]; rfl
    | 1, hj => simp at hj; subst hj; rw [show (⟨n, 0, none⟩ : Addr).add 1 = ⟨n, 1, none⟩ by simp [Addr.add]]; rw [cell_of_heap h]; rfl
    | j + 2, hj => simp at hj
  · simp at hu; rcases hu with rfl | rfl <;> rfl

/-- A maker at work at a row of bytes. -/
structure NB (w wr : World) (B B2 mb : Nat) (tv : Value) (n : Nat) (ps qs : List Bs) (nums : List (Bs × Int)) (sz : Nat) (pv qv nv sv : Value) (s : Bs) : Prop where
  mm : MM wr B2 mb tv n ps qs nums sz pv qv nv
  tp : TapeAt wr B tv
  fr : Fr (TX mb w) w wr
  so : BO wr w.heap.size sv s
  lt : mb < w.heap.size
  hB : B ≤ mb
section
variable {w wr w' : World} {B B2 mb n sz : Nat} {tv pv qv nv sv v' : Value} {ps qs : List Bs} {nums : List (Bs × Int)} {s more : Bs}
theorem NB.quiet (h : NB w wr B B2 mb tv n ps qs nums sz pv qv nv sv s) (hf : Fr Zero wr w') : NB w w' B B2 mb tv n ps qs nums sz pv qv nv sv s :=
  ⟨h.mm.quiet hf, h.tp.keep hf (fun _ _ e => e), h.fr.trans hf.of0, h.so.keep hf (fun _ _ e => e), h.lt, h.hB⟩
theorem NB.next (h : NB w wr B B2 mb tv n ps qs nums sz pv qv nv sv s) {n' : Nat} (hf : Fr (One mb) wr w') (hm : MK w' mb tv n' pv qv nv sz) : NB w w' B B2 mb tv n' ps qs nums sz pv qv nv sv s := by
  have h1 := h.lt
  have h2 := h.hB
  refine ⟨h.mm.one hf hm, h.tp.keep hf (fun k hk e => ?_), h.fr.trans (hf.mono (fun k _ e => .inl e)), h.so.keep hf (fun k hk e => ?_), h1, h2⟩
  all_goals
    have e' : k = mb := e
    omega
theorem NB.ss (h : NB w wr B B2 mb tv n ps qs nums sz pv qv nv sv s) (hb : BO w' w.heap.size v' (s ++ more)) (hf : Fr (Owned sv) wr w') : NB w w' B B2 mb tv n ps qs nums sz pv qv nv v' (s ++ more) := by
  have h1 := h.lt
  have h2 := h.hB
  have hx : ∀ k, Owned sv k → w.heap.size ≤ k := fun k e => h.so.from_ k e
  have hr : ∀ (ty : TypeId) (c m : Nat) (v : Value) (xs : List Value), PRow wr ty c v m xs → ty ≠ 5 → PRow w' ty c v m xs := fun ty c m v xs hr ht => hr.keep hf (fun g hg e => by
    obtain ⟨cur, q⟩ := own_type h.so.own e
    exact hr.ne q ht hg)
  refine ⟨⟨hf.keep h.mm.bk (fun e => ?_), hr _ _ _ _ _ h.mm.rp (by decide), hr _ _ _ _ _ h.mm.rq (by decide), hr _ _ _ _ _ h.mm.rn (by decide), h.mm.ap, h.mm.fp, h.mm.fq, h.mm.fn⟩, h.tp.keep hf (fun k hk e => ?_), h.fr.trans (hf.mono (fun k _ e => .inr (hx k e))), hb, h1, h2⟩
  · have := hx _ e; omega
  · have := hx _ e; omega
theorem NB.size (h : NB w wr B B2 mb tv n ps qs nums sz pv qv nv sv s) : w.heap.size ≤ wr.heap.size := h.fr.size
/-- The number is noted: the row of bytes stays. -/
theorem NB.num (h : NB w wr B B2 mb tv n ps qs nums sz pv qv nv sv s) (hB2 : B2 ≤ w.heap.size) {st : Bs} {V : Int}
    (hr : PRow w' 187 2 v' (nums.length + 1) (numCells nums ++ [.string (ba st), .int .i64 V])) (hf : Fr (Owns nv) wr w') (hv : ∀ k, k < wr.heap.size → blockOf v' = some k → blockOf nv = some k) :
    MK w' mb tv n pv qv nv sz ∧ MM (w'.setCell ⟨mb, 4, none⟩ v') B2 mb tv n ps qs (nums ++ [(st, V)]) sz pv qv v' ∧ Fr (MF mb B2) w (w'.setCell ⟨mb, 4, none⟩ v') ∧ BO (w'.setCell ⟨mb, 4, none⟩ v') w.heap.size sv s := by
  have hs := h.size
  have h1 := h.lt
  obtain ⟨q1, q2, q3⟩ := h.mm.num (Nat.le_trans hB2 hs) hr hf hv
  refine ⟨q1, q2, (h.fr.mono (fun k _ e => TX.mf hB2 k e)).trans q3, ⟨ownsRow_keep (ownsRow_keep h.so.own hf (fun g hg e => ?_)) (Fr.setCell (One mb) _ _ _ rfl) (fun g hg e => ?_), h.so.from_⟩⟩
  · obtain ⟨cur, q⟩ := own_type h.so.own hg
    exact h.mm.rn.ne q (by decide) e
  · have e' : g = mb := e
    have := h.so.from_ g hg
    omega
end

def MNumPost (w : World) (B2 mb : Nat) (tv : Value) (n : Nat) (ways : List (Bs × Bs)) (nums : List (Bs × Int)) (sz kind : Nat) (st : Bs) (e : Ending) (w' : World) : Prop :=
  ∃ (v : Int) (bs : Bs) (n' : Nat), e = .returned (.tuple #[.string (ba (decI v)), .string (ba bs)]) ∧ Fr (MF mb B2) w w' ∧ MZ w' B2 mb tv n' ways (nums ++ [(st, v)]) sz ∧ n' ≤ n + 8 ∧
    (kind ≤ 2 → 0 ≤ v ∧ v ≤ mostOf kind ∧ bs = leBytes (widthOf kind) v.toNat) ∧ (kind = 3 → -9223372036854775808 ≤ v ∧ v ≤ 9223372036854775807 ∧ bs = beBytes 8 (ofInt64 v))

set_option maxHeartbeats 16000000 in
set_option maxRecDepth 100000 in
theorem number_int {w : World} {B B2 mb n sz : Nat} {tv : Value} {ways : List (Bs × Bs)} {nums : List (Bs × Int)} (h : MZ w B2 mb tv n ways nums sz) (hT : TapeAt w B tv) (hB : B ≤ mb) (hB2 : B2 ≤ w.heap.size) (_hBB : B ≤ B2) (hn : n ≤ 100000000) (hl : nums.length ≤ 100000000) (st : Bs) :
    Calls Tryz.prog 36 #[.pointer (some ⟨mb, 0, none⟩), .int .i64 3, .string (ba st)] w fun e w' => MNumPost w B2 mb tv n ways nums sz 3 st e w' := by
  obtain ⟨pv, qv, nv, h⟩ := h
  have H := hide h
  have hlt := h.lt
  go_enter Tryz.func36, Tryz.ntmps36
  go_wp2_with fail
  refine (next_any h.bk hT hB (by omega) 256 (by omega) (by omega)).mono ?_
  rintro e w1 ⟨⟨r, hr, rfl⟩, hF1, hM1⟩
  have HF1 := hide hF1
  have HM1 := hide (h.one hF1 hM1)
  have HT1 := hide (hT.keep hF1 (fun k hk e => by have e' : k = mb := e; omega))
  clear h hT hF1 hM1
  go_wp2_with fail
  refine (next_any HM1.out.bk HT1.out hB (by omega) 3 (by omega) (by omega)).mono ?_
  rintro e w2 ⟨⟨hi, hhi, rfl⟩, hF2, hM2⟩
  have HF2 := hide (HF1.out.trans hF2)
  have HM2 := hide (HM1.out.one hF2 hM2)
  have HT2 := hide (HT1.out.keep hF2 (fun k hk e => by have e' : k = mb := e; omega))
  clear hF2 hM2 HT1 HM1
  have hV : ∃ V : Int, (hi = 0 → V = r) ∧ (hi = 1 → V = (r : Int) - 1000) ∧ (hi = 2 → IntKind.i64.wrap ((r : Int) * 72057594037927936) = V) ∧ -9223372036854775808 ≤ V ∧ V ≤ 9223372036854775807 := by
    rcases (show hi = 0 ∨ hi = 1 ∨ hi = 2 by omega) with rfl | rfl | rfl
    · exact ⟨r, by simp, by simp, by simp, by omega, by omega⟩
    · exact ⟨(r : Int) - 1000, by simp, by simp, by simp, by omega, by omega⟩
    · refine ⟨IntKind.i64.wrap ((r : Int) * 72057594037927936), by simp, by simp, by simp, ?_, ?_⟩ <;> simp only [IntKind.wrap, IntKind.bits, IntKind.signed] <;> simp <;> omega
  obtain ⟨V, v0, v1, v2, vl, vh⟩ := hV
  rcases (show hi = 0 ∨ hi = 1 ∨ hi = 2 by omega) with rfl | rfl | rfl
  case' inl => have hV : (r : Int) = V := (v0 rfl).symm
  case' inr.inl => have hV : (r : Int) - 1000 = V := (v1 rfl).symm
  case' inr.inr => have hV := v2 rfl
  all_goals
    clear v0 v1 v2 hhi
    obtain ⟨m, hm, hmI⟩ : ∃ m : Nat, m = ofInt64 V ∧ IntKind.u64.wrap V = (m : Int) := ⟨_, rfl, by simp only [IntKind.wrap, IntKind.bits, IntKind.signed, ofInt64]; simp; omega⟩
    have hm64 : m < 18446744073709551616 := by rw [hm]; unfold ofInt64; omega
    have HMM := hide hm
    clear hm
    have HI0 : Hid (NB w w2 B B2 mb tv (n + 2) (ways.map (·.1)) (ways.map (·.2)) nums sz pv qv nv (.slice none 0 0) []) := ⟨HM2.out, HT2.out, HF2.out.mono (fun k _ e => .inl e), BO.nil _ _, hlt, hB⟩
    go_wp2_with fail
    go_loopw [8, 12, 13] (fun bv uv iv wr => ∃ (k U : Nat), k ≤ 8 ∧ iv = .int .i64 k ∧ uv = .int .u64 U ∧ U < 18446744073709551616 ∧ Hid (U = m * 256 ^ k % 18446744073709551616) ∧ Hid (NB w wr B B2 mb tv (n + 2) (ways.map (·.1)) (ways.map (·.2)) nums sz pv qv nv bv ((beBytes 8 m).take k))) (fun _ _ iv _ => 8 - (intOf iv).toNat)
    case atStart => exact ⟨0, m, by omega, rfl, rfl, hm64, by show _ = _; rw [Nat.pow_zero, Nat.mul_one, Nat.mod_eq_of_lt hm64], by simpa using HI0⟩
    case round =>
      obtain ⟨k, U, hk, rfl, rfl, hU, HU, HI⟩ := hrel
      have hw3 := HI.out.size
      by_cases hk8 : k < 8
      · have hkI : (k : Int) < 8 := by omega
        obtain ⟨c, hc⟩ := u8_of (r := U / 72057594037927936) (by omega)
        have hcI : (U : Int) / 72057594037927936 = (c.toNat : Int) := by omega
        have HC : Hid ((beBytes 8 m).take (k + 1) = (beBytes 8 m).take k ++ [c]) := by
          show _ = _
          rw [beBytes_take m k hk8, ← ofNat_mod (m / 256 ^ (7 - k)), ← be_digit m k hk8, ← HU.out, hc, ofNat_toNat]
        have hU2 : IntKind.u64.wrap ((U : Int) * 256) = ((U * 256 % 18446744073709551616 : Nat) : Int) := by simp only [IntKind.wrap, IntKind.bits, IntKind.signed]; simp
        have HU2 : Hid (U * 256 % 18446744073709551616 = m * 256 ^ (k + 1) % 18446744073709551616) := by show _ = _; rw [HU.out, Nat.pow_succ, ← Nat.mul_assoc, Nat.mod_mul_mod]
        have hU3 : U * 256 % 18446744073709551616 < 18446744073709551616 := Nat.mod_lt _ (by omega)
        have hlb : ((beBytes 8 m).take k).length ≤ 8 := by rw [List.length_take]; omega
        generalize (beBytes 8 m).take k = acc at *
        clear hc HU
        go_wp2_with (at_builtin; refine wpList_out rfl (.tmp 41) (.tmp 45) 24 rfl [c] rfl rfl (HI.out.quiet (Fr.alloc Zero _ _)).so (src_at (heap_new_at rfl _)) ?hb3 ?hl3 ?_)
        case hb3 => simp; omega
        case hl3 => simp; omega
        intro v4 w4 hB4 _ hF4
        have HI4 := hide (NB.ss (more := [c]) (HI.out.quiet (Fr.alloc Zero _ _)) (by simpa using hB4) hF4)
        clear hB4 hF4
        generalize U * 256 % 18446744073709551616 = U2 at *
        go_wp2_with fail
        refine ⟨⟨k + 1, U2, by omega, by go_num, rfl, hU3, HU2, ?_⟩, by simp [intOf]; omega⟩
        rw [HC.out]
        exact HI4
      · have hkI : ¬ (k : Int) < 8 := by omega
        obtain rfl : k = 8 := by omega
        have HA : Hid ((beBytes 8 m).take 8 = beBytes 8 m) := List.take_of_length_le (by simp [beBytes, leBytes_length])
        rw [HA.out] at HI
        obtain ⟨na, nc, hnv⟩ := HI.out.mm.rn.len
        subst hnv
        have c4 := HI.out.mm.bk.at4
        have HI1 := hide (HI.out.quiet (Fr.alloc Zero wr (.cells #[.string (ba st), .int .i64 V] 187)))
        have HSR : Hid (Src Tryz.prog 2 34 (.slice (some ⟨wr.heap.size, 0, none⟩) 1 1) 1 [.string (ba st), .int .i64 V] (wr.alloc (.cells #[.string (ba st), .int .i64 V] 187))) := src_num (heap_new_at rfl _)
        have hltr : mb < wr.heap.size := HI.out.mm.lt
        clear HI HU HI0
        go_wp2_with (at_builtin; refine wpList_pappend rfl (.tmp 53) (.tmp 57) 34 34 rfl Tryz.underlying34 infoMN rfl 1 [.string (ba st), .int .i64 V] rfl rfl HI1.out.mm.rn HSR.out ?hl9 ?h639 ?_)
        case hl9 => omega
        case h639 => omega
        intro v4 w4 hA4 hF4 hv4
        obtain ⟨q1, q2, q3, q4⟩ := HI1.out.num (v' := v4) hB2 hA4 hF4 (by simpa using hv4)
        obtain ⟨va, vc, rfl⟩ := hA4.len
        have d4 := q1.at4
        have f4 := q1.free 4
        have l4 := q1.lt
        have HB4 := hide (q4.keep (Fr.drew Zero _) (fun _ _ e => e))
        have k1 := HB4.out.conv
        have HQ2 := hide q2
        have HQ3 := hide q3
        clear q1 q2 q3 q4 hA4 hF4 hv4 HI1 HSR c4
        go_wp2_with fail
        go_region_held3 (fun W => (convert 24 9 u8).run Tryz.prog W = .ok (.string (ba (beBytes 8 m))) W) (first | assumption) (first | (go_at_call 86; refine (told_any V vl vh _).mono ?_; rintro e w5 ⟨rfl, hF5⟩; have k5 := (HB4.out.keep hF5 (fun _ _ e => e)).conv; have HF5 := hide ((Fr.drew Zero _).trans hF5); clear hF5))
        all_goals
          go_wp2_with fail
          go_ret2
          refine ⟨V, beBytes 8 m, _, rfl, HQ3.out.trans HF5.out.of0, ⟨pv, qv, _, HQ2.out.quiet HF5.out⟩, ?_, ?_, ?_⟩
          · omega
          · intro h; omega
          · intro _; exact ⟨vl, vh, by rw [HMM.out]⟩

theorem pow_two (i : Nat) : 2 ^ i * 2 = 2 ^ (i + 1) := by rw [Nat.pow_succ]
theorem width_pow : ∀ k, k < 3 → widthOf k = 2 ^ k ∧ (mostOf k : Int) = 256 ^ (2 ^ k) - 1 := by decide

set_option maxHeartbeats 16000000 in
set_option maxRecDepth 100000 in
theorem number_small {w : World} {B B2 mb n sz : Nat} {tv : Value} {ways : List (Bs × Bs)} {nums : List (Bs × Int)} (h : MZ w B2 mb tv n ways nums sz) (hT : TapeAt w B tv) (hB : B ≤ mb) (hB2 : B2 ≤ w.heap.size) (_hBB : B ≤ B2) (hn : n ≤ 100000000) (hl : nums.length ≤ 100000000) (st : Bs) (κ : Nat) (hκ : κ < 3) :
    Calls Tryz.prog 36 #[.pointer (some ⟨mb, 0, none⟩), .int .i64 κ, .string (ba st)] w fun e w' => MNumPost w B2 mb tv n ways nums sz κ st e w' := by
  obtain ⟨pv, qv, nv, h⟩ := h
  have H := hide h
  have hlt := h.lt
  have hκ3 : ((κ : Int) == 3) = false := beq_eq_false_iff_ne.2 (by omega)
  go_enter Tryz.func36, Tryz.ntmps36
  go_wp2_with fail
  refine (next_any h.bk hT hB (by omega) 256 (by omega) (by omega)).mono ?_
  rintro e w1 ⟨⟨r, hr, rfl⟩, hF1, hM1⟩
  obtain ⟨c, rfl⟩ := u8_of (r := r) (by omega)
  have HI1 : Hid (NB w w1 B B2 mb tv (n + 1) (ways.map (·.1)) (ways.map (·.2)) nums sz pv qv nv (.slice none 0 0) []) := ⟨h.one hF1 hM1, hT.keep hF1 (fun k hk e => by have e' : k = mb := e; omega), hF1.mono (fun k _ e => .inl e), BO.nil _ _, hlt, hB⟩
  have hw1 := HI1.out.size
  clear h hT hF1 hM1 H
  go_wp2_with (at_builtin; refine wpList_out rfl (.tmp 66) (.tmp 69) 24 rfl [c] rfl rfl (HI1.out.quiet (Fr.alloc Zero _ _)).so (src_at (heap_new_at rfl _)) ?hb3 ?hl3 ?_)
  case hb3 => simp; omega
  case hl3 => simp
  intro v2 w2 hB2' _ hF2
  have HI2 := hide (NB.ss (more := [c]) (HI1.out.quiet (Fr.alloc Zero _ _)) (by simpa using hB2') hF2)
  clear hB2' hF2 HI1
  go_wp2_with fail
  go_loopw [15, 16] (fun sv iv wr => ∃ (i S : Nat), i ≤ κ ∧ iv = .int .i64 i ∧ sv = .int .i64 S ∧ S ≤ 4 ∧ Hid (S = 2 ^ i) ∧ wr = w2) (fun _ iv _ => κ - (intOf iv).toNat)
  case atStart => exact ⟨0, 1, by omega, rfl, rfl, by omega, rfl, rfl⟩
  case round =>
    obtain ⟨i, S, hi, rfl, rfl, hS4, HS, rfl⟩ := hrel
    by_cases hik : i < κ
    · have hikI : (i : Int) < (κ : Int) := by omega
      have hS2 : S ≤ 2 := by
        have := HS.out
        rcases (show i = 0 ∨ i = 1 by omega) with rfl | rfl <;> simp at this <;> omega
      go_wp2_with fail
      exact ⟨⟨i + 1, 2 * S, by omega, by go_num, by go_num, by omega, by show _ = _; rw [HS.out, Nat.mul_comm, pow_two], trivial⟩, by simp [intOf]; omega⟩
    · have hikI : ¬ (i : Int) < (κ : Int) := by omega
      obtain rfl : i = κ := by omega
      have hS1 : 1 ≤ S := by have := HS.out; have := Nat.one_le_pow i 2 (by omega); omega
      go_wp2_with fail
      go_loopw [8, 14, 17, 18, 19] (fun bv vv pv' iv _ wr => ∃ (k n' V P : Nat) (acc : Bs), k ≤ S ∧ 1 ≤ k ∧ acc.length = k ∧ iv = .int .i64 k ∧ vv = .int .i64 V ∧ pv' = .int .i64 P ∧ n' ≤ n + k ∧ P ≤ 4294967296 ∧ V < P ∧ Hid (P = 256 ^ k) ∧ Hid (V = leNat acc) ∧ Hid (NB w wr B B2 mb tv n' (ways.map (·.1)) (ways.map (·.2)) nums sz pv qv nv bv acc)) (fun _ _ _ iv _ _ => S - (intOf iv).toNat)
      case atStart => exact ⟨1, n + 1, c.toNat, 256, [c], by omega, by omega, rfl, rfl, rfl, rfl, by omega, by omega, by omega, by show _ = _; rfl, by show _ = _; simp [leNat], HI2⟩
      case round =>
        obtain ⟨k, n', V, P, acc, hkS, hk1, hal, rfl, rfl, rfl, hn', hP, hVP, HP, HV, HI⟩ := hrel
        by_cases hkS2 : k < S
        · have hkI : (k : Int) < (S : Int) := by omega
          have hP3 : P ≤ 16777216 := by
            have := HP.out
            rcases (show k = 1 ∨ k = 2 ∨ k = 3 by omega) with rfl | rfl | rfl <;> simp at this <;> omega
          go_wp2_with fail
          refine (next_any HI.out.mm.bk HI.out.tp hB (by omega) 256 (by omega) (by omega)).mono ?_
          rintro e w3 ⟨⟨r3, hr3, rfl⟩, hF3, hM3⟩
          obtain ⟨c3, rfl⟩ := u8_of (r := r3) (by omega)
          have HI3 := hide (HI.out.next hF3 hM3)
          obtain ⟨Q, hQ⟩ : ∃ Q : Nat, Q = P * c3.toNat := ⟨_, rfl⟩
          have hQI : (P : Int) * (c3.toNat : Int) = (Q : Int) := by rw [hQ, Int.natCast_mul]
          have hQb : Q ≤ P * 255 := by rw [hQ]; exact Nat.mul_le_mul_left _ (by omega)
          have HV2 : Hid (V + Q = leNat (acc ++ [c3])) := by show _ = _; rw [leNat_snoc, hal, ← HP.out, ← HV.out, hQ]
          have HP2 : Hid (P * 256 = 256 ^ (k + 1)) := by show _ = _; rw [Nat.pow_succ, HP.out]
          have hw3 := HI3.out.size
          clear hF3 hM3 HI hQ
          go_wp2_with (at_builtin; refine wpList_out rfl (.tmp 92) (.tmp 95) 24 rfl [c3] rfl rfl (HI3.out.quiet (Fr.alloc Zero _ _)).so (src_at (heap_new_at rfl _)) ?hb4 ?hl4 ?_)
          case hb4 => simp; omega
          case hl4 => simp; omega
          intro v4 w4 hB4 _ hF4
          have HI4 := hide (NB.ss (more := [c3]) (HI3.out.quiet (Fr.alloc Zero _ _)) (by simpa using hB4) hF4)
          clear hB4 hF4 HI3
          go_wp2_with fail
          exact ⟨⟨k + 1, n' + 1, V + Q, P * 256, acc ++ [c3], by omega, by omega, by simp; omega, by go_num, by go_num, by go_num, by omega, by omega, by omega, HP2, HV2, HI4⟩, by simp [intOf]; omega⟩
        · have hkI : ¬ (k : Int) < (S : Int) := by omega
          obtain rfl : k = S := by omega
          have HFIN : Hid (∀ _ : i ≤ 2, (0 : Int) ≤ (V : Int) ∧ ((V : Nat) : Int) ≤ mostOf i ∧ acc = leBytes (widthOf i) ((V : Nat) : Int).toNat) := fun _ => by
            have e1 : leBytes acc.length (leNat acc) = acc := leBytes_leNat acc
            have e2 := HS.out
            have e3 := HP.out
            refine ⟨by omega, ?_, ?_⟩
            · rcases (show i = 0 ∨ i = 1 ∨ i = 2 by omega) with rfl | rfl | rfl <;> simp at e2 <;> subst e2 <;> simp at e3 <;> simp [mostOf] <;> omega
            · rw [Int.toNat_natCast, HV.out, ← (show acc.length = widthOf i by rw [hal, e2, (width_pow i hκ).1])]
              exact e1.symm
          obtain ⟨na, nc, hnv⟩ := HI.out.mm.rn.len
          subst hnv
          have c4 := HI.out.mm.bk.at4
          have HI1 := hide (HI.out.quiet (Fr.alloc Zero wr (.cells #[.string (ba st), .int .i64 (V : Nat)] 187)))
          have HSR : Hid (Src Tryz.prog 2 34 (.slice (some ⟨wr.heap.size, 0, none⟩) 1 1) 1 [.string (ba st), .int .i64 (V : Nat)] (wr.alloc (.cells #[.string (ba st), .int .i64 (V : Nat)] 187))) := src_num (heap_new_at rfl _)
          have hltr : mb < wr.heap.size := HI.out.mm.lt
          clear HI HI2
          go_wp2_with (at_builtin; refine wpList_pappend rfl (.tmp 101) (.tmp 105) 34 34 rfl Tryz.underlying34 infoMN rfl 1 [.string (ba st), .int .i64 (V : Nat)] rfl rfl HI1.out.mm.rn HSR.out ?hl9 ?h639 ?_)
          case hl9 => omega
          case h639 => omega
          intro v4 w4 hA4 hF4 hv4
          obtain ⟨q1, q2, q3, q4⟩ := HI1.out.num (v' := v4) hB2 hA4 hF4 (by simpa using hv4)
          obtain ⟨va, vc, rfl⟩ := hA4.len
          have d4 := q1.at4
          have f4 := q1.free 4
          have l4 := q1.lt
          have HB4 := hide (q4.keep (Fr.drew Zero _) (fun _ _ e => e))
          have k1 := HB4.out.conv
          have HQ2 := hide q2
          have HQ3 := hide q3
          clear q1 q2 q3 q4 hA4 hF4 hv4 HI1 HSR c4
          go_wp2_with fail
          go_region_held3 (fun W => (convert 24 9 u8).run Tryz.prog W = .ok (.string (ba (acc))) W) (first | assumption) (first | (go_at_call 86; refine (told_any (V : Nat) (by omega) (by omega) _).mono ?_; rintro e w5 ⟨rfl, hF5⟩; have k5 := (HB4.out.keep hF5 (fun _ _ e => e)).conv; have HF5 := hide ((Fr.drew Zero _).trans hF5); clear hF5))
          all_goals
            go_wp2_with fail
            go_ret2
            refine ⟨(V : Nat), acc, _, rfl, HQ3.out.trans HF5.out.of0, ⟨pv, qv, _, HQ2.out.quiet HF5.out⟩, ?_, ?_, ?_⟩
            · omega
            · exact HFIN.out
            · intro h; omega

end Go.Proofs.YtdcjogpkogidaaaGreatDoor.Q
