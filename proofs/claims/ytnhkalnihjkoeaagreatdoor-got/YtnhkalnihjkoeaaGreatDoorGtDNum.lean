/- The reference's reader takes numbers. The reference's reader takes texts and bytes. The reference's reader takes bytes. -/
import Derived.Test.YtnhkalnihjkoeaaGreatDoorGtVRead
import Derived.Test.YtnhkalnihjkoeaaGreatDoorGtDCount
namespace Go.Proofs.YtnhkalnihjkoeaaGreatDoor
open Go.RowKit

theorem infoNum : (Tryz.prog.info? 141).map (fun i => (i.zero, i.size, i.bytes)) = some (some (.agg #[.string ⟨#[]⟩, .int .i64 0]), 2, 24) := by kernel_rfl
theorem infoWay : (Tryz.prog.info? 119).map (fun i => (i.zero, i.size, i.bytes)) = some (some (.agg #[.string ⟨#[]⟩, .string ⟨#[]⟩]), 2, 32) := by kernel_rfl
theorem news2_heap {w w' : World} {x y : Value} {t : TypeId} {k : Nat} (hk : w.heap.size = k) (he : w'.heap = (w.alloc (.cells #[x, y] t)).heap) : ∀ (j : Nat) (q : Value), [x, y][j]? = some q → w'.cell? ((⟨k, 0, none⟩ : Addr).add j) = some q := by
  subst hk
  have h : w'.heap[w.heap.size]? = some (.cells #[x, y] t (0, 0)) := by rw [he]; exact heap_new_at rfl _
  intro j q hj
  match j, hj with
  | 0, hj => simp at hj; subst hj; simp [Addr.add, World.cell?, h]
  | 1, hj => simp at hj; subst hj; simp [Addr.add, World.cell?, h]
  | j + 2, hj => simp at hj
theorem i64_of (n : Nat) (h : n < 18446744073709551616) : wrap64 (n : Int) = toInt64 n := by
  unfold toInt64 wrap64; split <;> omega

def NPost (tb B db : Nat) (s : ByteArray) (nums : List (Bs × Int)) (ways : List (Bs × Bs)) (st : Bs) (w : World) (p : Option Bs × Bs) (vf : Bs → Int) (e : Ending) (w' : World) : Prop :=
  KFr tb w w' ∧ ∃ (nums' : List (Bs × Int)) (tx : ByteArray), KS w' B tb db s p.2 p.1.isNone nums' ways ∧ nums'.length = nums.length + 1 ∧ e = .returned (.string tx) ∧ ∀ b, p.1 = some b → nums' = nums ++ [(st, vf b)] ∧ tx = ba (decI (vf b))

/-- After i bytes of a number. -/
def Half (f : Bs → Nat) (l : Bs) (i N : Nat) (r : Bs) (bad : Bool) : Prop :=
  N < 256 ^ i ∧ (bad = false → i ≤ l.length ∧ r = l.drop i ∧ N = f (l.take i)) ∧ (bad = true → l.length < i ∧ r = [])
theorem Half.more {f : Bs → Nat} {l : Bs} {i N : Nat} {r : Bs} (h : Half f l i N r false) {N' : Nat} (hN : N' < 256 ^ (i + 1)) (hf : ∀ b r', r = b :: r' → N' = f (l.take (i + 1))) :
    Half f l (i + 1) N' (mBelow 256 r).2 (mBelow 256 r).1.isNone := by
  obtain ⟨h1, h2, h3⟩ := h
  obtain ⟨q1, q2, q3⟩ := h2 rfl
  refine ⟨hN, ?_⟩
  rcases r with _ | ⟨b, r'⟩
  · have hl : l.length = i := by
      have := congrArg List.length q2
      simp at this
      omega
    exact ⟨fun h => by simp [mBelow] at h, fun _ => ⟨by omega, rfl⟩⟩
  · have hb : mBelow 256 (b :: r') = (some b.toNat, r') := by simp only [mBelow]; rw [if_pos b.toNat_lt]
    rw [hb]
    refine ⟨fun _ => ?_, fun h => by simp at h⟩
    have hl : i < l.length := by
      have := congrArg List.length q2
      simp at this
      omega
    refine ⟨by omega, ?_, hf b r' rfl⟩
    rw [← List.drop_drop (i := 1), ← q2]
    rfl
theorem Half.badMore {f : Bs → Nat} {l : Bs} {i N : Nat} {r : Bs} (h : Half f l i N r true) {N' : Nat} (hN : N' < 256 ^ (i + 1)) : Half f l (i + 1) N' r true := by
  obtain ⟨h1, h2, h3⟩ := h
  obtain ⟨q1, q2⟩ := h3 rfl
  exact ⟨hN, fun h => by simp at h, fun _ => ⟨by omega, q2⟩⟩
/-- At the end. -/
theorem Half.done {f : Bs → Nat} {l : Bs} {c N : Nat} {r : Bs} {bad : Bool} (h : Half f l c N r bad) : mTake c l = (if bad then none else some (l.take c), r) ∧ (bad = false → N = f (l.take c)) := by
  obtain ⟨h1, h2, h3⟩ := h
  cases bad with
  | true => obtain ⟨q1, q2⟩ := h3 rfl; exact ⟨by simp [mTake, q1, q2], fun h => by simp at h⟩
  | false => obtain ⟨q1, q2, q3⟩ := h2 rfl; exact ⟨by unfold mTake; rw [if_neg (by omega), q2]; rfl, fun _ => q3⟩
theorem byte_at {l : Bs} {i : Nat} {b : UInt8} {r : Bs} (h : l.drop i = b :: r) : l.take (i + 1) = l.take i ++ [b] := by
  have hi : i < l.length := by
    rcases Nat.lt_or_ge i l.length with h' | h'
    · exact h'
    · rw [List.drop_eq_nil_of_le h'] at h; simp at h
  rw [List.take_succ_eq_append_getElem hi]
  have : l[i] = b := by
    have := List.drop_eq_getElem_cons hi
    rw [h] at this
    have h0 := congrArg List.head? this
    simp only [List.head?_cons, Option.some.injEq] at h0
    exact h0.symm
  rw [this]
theorem pow_le8 {i : Nat} (h : i ≤ 7) : 256 ^ i ≤ 72057594037927936 := Nat.pow_le_pow_right (by omega) h
theorem pow_le4 {i : Nat} (h : i ≤ 3) : 256 ^ i ≤ 16777216 := Nat.pow_le_pow_right (by omega) h

set_option maxHeartbeats 8000000 in
set_option maxRecDepth 100000 in
theorem kInt_any {w : World} {B tb db : Nat} {s : ByteArray} {l : Bs} {nums : List (Bs × Int)} {ways : List (Bs × Bs)} (h : KS w B tb db s l false nums ways) (hs : s.size ≤ maxLen) (st : Bs) (hn : nums.length ≤ 1000000) (hB : B ≤ w.heap.size) :
    Calls Tryz.prog 247 #[.pointer (some ⟨tb, 0, none⟩), .int .i64 3, .string (ba st)] w fun e w' => NPost tb B db s nums ways st w (mTake 8 l) (fun b => toInt64 (beNat b)) e w' := by
  have HK := hide h
  clear h
  go_enter Tryz.func247, Tryz.ntmps247
  go_wp2_with fail
  go_loopw [7, 8] (fun nv iv wr => ∃ (i N : Nat) (r : Bs) (bad : Bool), i ≤ 8 ∧ nv = .int .u64 N ∧ iv = .int .i64 i ∧ Hid (Half beNat l i N r bad) ∧ Hid (KS wr B tb db s r bad nums ways) ∧ Hid (KFr tb w wr)) (fun _ iv _ => 8 - (intOf iv).toNat)
  case atStart => exact ⟨0, 0, l, false, by omega, rfl, rfl, ⟨by simp, fun _ => ⟨by omega, rfl, rfl⟩, fun h => by simp at h⟩, HK, KFr.refl _ _⟩
  case round =>
    obtain ⟨i, N, r, bad, hi8, rfl, rfl, HH, HKr, HF⟩ := hrel
    by_cases hlt : i < 8
    · have hI : (i : Int) < 8 := by omega
      have hN1 := HH.out.1
      have hN2 := pow_le8 (i := i) (by omega)
      have hN : N ≤ 72057594037927935 := by omega
      have HN1 := hide hN1
      have hp1 : Hid (256 ^ (i + 1) = 256 ^ i * 256) := Nat.pow_succ _ _
      clear hN1 hN2
      cases bad with
      | true =>
        go_wp2_with fail
        refine (kByte_bad HKr _).mono ?_
        rintro e w1 ⟨hF1, hK1, rfl⟩
        have HF1 := hide (HF.out.trans hF1)
        have HK1 := hide hK1
        clear hF1 hK1
        go_wp2_with fail
        go_roundw
        case rel =>
          have h1 := HN1.out
          have h2 := hp1.out
          exact ⟨i + 1, N * 256, r, true, by omega, by go_num, by go_num, HH.out.badMore (by rw [h2]; omega), HK1, HF1⟩
        case measure => simp [intOf]; omega
      | false =>
        go_wp2_with fail
        refine (kByte_any HKr hs 256 (by omega)).mono ?_
        rintro e w1 ⟨hF1, hK1, rfl⟩
        have HF1 := hide (HF.out.trans hF1)
        have HK1 := hide hK1
        obtain ⟨d, hd, hd8, hdr⟩ : ∃ d : Nat, (mBelow 256 r).1.getD 0 = d ∧ d < 256 ∧ ∀ b r', r = b :: r' → d = b.toNat := by
          refine ⟨_, rfl, ?_, fun b r' e => ?_⟩
          · rcases r with _ | ⟨b, r'⟩
            · simp [mBelow]
            · have := b.toNat_lt
              simp only [mBelow]
              rw [if_pos this]
              exact this
          · subst e
            simp only [mBelow]
            rw [if_pos b.toNat_lt]
            rfl
        rw [hd]
        have HDR := hide hdr
        clear hF1 hK1 hd hdr
        go_wp2_with fail
        go_roundw
        case rel =>
          have h1 := HN1.out
          have h2 := hp1.out
          refine ⟨i + 1, N * 256 + d, _, _, by omega, by go_num, by go_num, HH.out.more (by rw [h2]; omega) (fun b r' e => ?_), HK1, HF1⟩
          obtain ⟨_, q2, q3⟩ := HH.out.2.1 rfl
          rw [byte_at (q2.symm.trans e), beNat_snoc, ← q3, HDR.out b r' e]
        case measure => simp [intOf]; omega
    · have hi : i = 8 := by omega
      subst hi
      have hI : ¬ ((8 : Nat) : Int) < 8 := by omega
      obtain ⟨hp, hv0⟩ := HH.out.done
      have hN := HH.out.1
      have hv : ∀ b, (mTake 8 l).1 = some b → toInt64 (beNat b) = wrap64 N := fun b hb => by
        rw [hp] at hb
        cases bad with
        | true => simp at hb
        | false => simp at hb; subst hb; rw [← hv0 rfl]; exact (i64_of N (by simpa using hN)).symm
      replace hp : (mTake 8 l).2 = r ∧ (mTake 8 l).1.isNone = bad := by rw [hp]; cases bad <;> exact ⟨rfl, rfl⟩
      have hN : N ≤ 18446744073709551615 := by simp at hN; omega
      have HVN := hide hv
      have HPN := hide hp
      obtain ⟨nv, wv, hb, hBt, hn, hw⟩ := HKr.out
      obtain ⟨na, nc, rfl⟩ : ∃ na nc, nv = .slice na nums.length nc := by
        rcases hn.2 with ⟨h1, h0⟩ | ⟨g, cap, cur, h1, _⟩
        · exact ⟨none, 0, by rw [h1, h0]⟩
        · exact ⟨_, _, h1⟩
      have k4 := hb.at4
      have f4 := hb.free 4
      have hlt := hb.lt
      have HB := hide hb
      have HN := hide hn
      have HWo := hide hw
      have HBt := hide hBt
      have hsz := HF.out.fr.size
      clear hb hn hw hBt hv hp
      obtain ⟨V, hV⟩ : ∃ V, wrap64 (N : Int) = V := ⟨_, rfl⟩
      have hVl : -9223372036854775808 ≤ V := by rw [← hV]; unfold wrap64; omega
      have hVh : V ≤ 9223372036854775807 := by rw [← hV]; unfold wrap64; omega
      have HVV := hide hV
      obtain ⟨i0, hi, hz0, hz1, hz2⟩ := info_parts infoNum
      go_wp2_with (at_builtin; refine wpList_append_mine _ rfl _ _ 120 rfl B 141 i0 (.agg #[.string ⟨#[]⟩, .int .i64 0]) 2 24 Tryz.underlying120 hi hz0 hz1 hz2 rfl (by decide) (.slice na nums.length nc) nums.length (numCells nums) rfl ?o1 ⟨wr.heap.size, 0, none⟩ 1 1 (by omega) [.string (ba st), .int .i64 (V)] rfl rfl ?c1 ?c2 ?c3 ?c4 ?c5 ?_)
      case o1 => exact HN.out.alloc _
      case c2 => exact ⟨rfl, rfl⟩
      case c3 => unfold maxLen; omega
      case c4 => omega
      case c5 => have := HN.out; simp; omega
      intro v' w4 hO4 hg4 gn capn hv' hgg
      subst hv'
      have hb1 := HB.out.keep (Fr.alloc Zero _ (.cells #[.string (ba st), .int .i64 (V)] 141)) (fun h => h)
      have HE := hide (KS.toldNum (st, V) hb1 HBt.out (HN.out.alloc _) (HWo.out.alloc _) (by rw [numCells_snoc]; exact hO4) hg4 ⟨gn, capn, rfl, by simpa using hgg⟩)
      have hb4 := hb1.keep (Fr.grown (X := fun k => (Value.slice na nums.length nc).ownBlock = some k) hg4 (fun k e _ => e)) (fun e => own_ne HN.out HB.out.block (by decide) e)
      have q4 := hb4.at4
      have qf := hb4.free 4
      clear hO4 hg4 hgg hb1 hb4 k4 f4 hi hz0 hz1 hz2
      go_wp2_with fail
      refine (decimal_any (V) hVl hVh _).mono ?_
      rintro e w5 ⟨rfl, hF5⟩
      have HF5 := hide hF5
      clear hF5
      go_wp2_with fail
      go_ret
      refine ⟨((HF.out.trans (KFr.quiet (Fr.alloc _ _ _) hlt)).trans HE.out.2).trans (KFr.quiet HF5 HE.out.1.lt), nums ++ [(st, V)], _, ?_, by simp, rfl, fun b hb => ?_⟩
      · rw [HPN.out.1, HPN.out.2]; exact HE.out.1.quiet HF5
      · have e := HVV.out.symm.trans (HVN.out b hb).symm
        exact ⟨congrArg (fun x => nums ++ [(st, x)]) e, congrArg (fun x => ba (decI x)) e⟩

set_option maxHeartbeats 8000000 in
set_option maxRecDepth 100000 in
theorem kPlain_any {w : World} {B tb db : Nat} {s : ByteArray} {l : Bs} {nums : List (Bs × Int)} {ways : List (Bs × Bs)} (h : KS w B tb db s l false nums ways) (hs : s.size ≤ maxLen) (kind : Nat) (hkd : kind ≤ 2) (st : Bs) (hn : nums.length ≤ 1000000) (hB : B ≤ w.heap.size) :
    Calls Tryz.prog 247 #[.pointer (some ⟨tb, 0, none⟩), .int .i64 kind, .string (ba st)] w fun e w' => NPost tb B db s nums ways st w (mTake (widthOf kind) l) (fun b => leNat b) e w' := by
  have HK := hide h
  have hk3 : ((kind : Int) == 3) = false := beq_eq_false_iff_ne.2 (by omega)
  have HWd : Hid (2 ^ kind = widthOf kind) := by
    obtain rfl | rfl | rfl : kind = 0 ∨ kind = 1 ∨ kind = 2 := by omega
    all_goals rfl
  clear h
  go_enter Tryz.func247, Tryz.ntmps247
  go_wp2_with fail
  go_loopw [11, 12] (fun sv iv wr => ∃ i : Nat, i ≤ kind ∧ sv = .int .i64 ((2 ^ i : Nat) : Int) ∧ iv = .int .i64 i ∧ Hid (wr = w)) (fun _ iv _ => kind - (intOf iv).toNat)
  case atStart => exact ⟨0, by omega, rfl, rfl, rfl⟩
  case round =>
    obtain ⟨j, hjk, rfl, rfl, hwr⟩ := hrel
    obtain rfl := hwr.out.symm
    clear hwr
    by_cases hlt : j < kind
    · have hI : (j : Int) < (kind : Int) := by omega
      have h2 : 2 ^ j ≤ 2 ^ 2 := Nat.pow_le_pow_right (by omega) (by omega)
      have HP : Hid (2 ^ (j + 1) = 2 ^ j * 2) := Nat.pow_succ _ _
      obtain ⟨q, hq⟩ : ∃ q, 2 ^ j = q := ⟨_, rfl⟩
      rw [hq] at h2 HP ⊢
      clear hq
      go_wp2_with fail
      go_roundw
      case rel => exact ⟨j + 1, by omega, by rw [HP.out]; go_num, by go_num, (trivial : True)⟩
      case measure => simp [intOf]; omega
    · have hj : j = kind := by omega
      subst hj
      have hI : ¬ (j : Int) < (j : Int) := by omega
      rw [HWd.out]
      obtain ⟨c, hc⟩ : ∃ c, widthOf j = c := ⟨_, rfl⟩
      have hc4 : c ≤ 4 := by rw [← hc]; unfold widthOf; split; omega; split <;> omega
      rw [hc]
      have HC := hide hc
      clear hc hlt
      go_wp2_with fail
      go_loopw [7, 10, 13] (fun nv bv iv wr => ∃ (i N : Nat) (r : Bs) (bad : Bool), i ≤ c ∧ nv = .int .u64 N ∧ bv = .int .u64 ((256 ^ i : Nat) : Int) ∧ iv = .int .i64 i ∧ Hid (Half leNat l i N r bad) ∧ Hid (KS wr B tb db s r bad nums ways) ∧ Hid (KFr tb w wr)) (fun _ _ iv _ => c - (intOf iv).toNat)
      case atStart => exact ⟨0, 0, l, false, by omega, rfl, rfl, rfl, ⟨by simp, fun _ => ⟨by omega, rfl, rfl⟩, fun h => by simp at h⟩, HK, KFr.refl _ _⟩
      case round =>
        obtain ⟨i, N, r, bad, hi8, rfl, rfl, rfl, HH, HKr, HF⟩ := hrel
        by_cases hlt : i < c
        · have hI : (i : Int) < (c : Int) := by omega
          have hN1 := HH.out.1
          have hN2 := pow_le4 (i := i) (by omega)
          have hN : N ≤ 16777215 := by omega
          have HN1 := hide hN1
          have hp1 : Hid (256 ^ (i + 1) = 256 ^ i * 256) := Nat.pow_succ _ _
          obtain ⟨q, hq⟩ : ∃ q, 256 ^ i = q := ⟨_, rfl⟩
          have HQ := hide hq
          rw [hq] at hN2 HN1 hp1 ⊢
          clear hN1 hq
          cases bad with
          | true =>
            go_wp2_with fail
            refine (kByte_bad HKr _).mono ?_
            rintro e w1 ⟨hF1, hK1, rfl⟩
            have HF1 := hide (HF.out.trans hF1)
            have HK1 := hide hK1
            clear hF1 hK1
            go_wp2_with fail
            go_roundw
            case rel =>
              have h1 := HN1.out
              have h2 := hp1.out
              exact ⟨i + 1, N, r, true, by omega, by go_num, by rw [h2]; go_num, by go_num, HH.out.badMore (by rw [h2]; omega), HK1, HF1⟩
            case measure => simp [intOf]; omega
          | false =>
            go_wp2_with fail
            refine (kByte_any HKr hs 256 (by omega)).mono ?_
            rintro e w1 ⟨hF1, hK1, rfl⟩
            have HF1 := hide (HF.out.trans hF1)
            have HK1 := hide hK1
            obtain ⟨d, hd, hd8, hdr⟩ : ∃ d : Nat, (mBelow 256 r).1.getD 0 = d ∧ d < 256 ∧ ∀ b r', r = b :: r' → d = b.toNat := by
              refine ⟨_, rfl, ?_, fun b r' e => ?_⟩
              · rcases r with _ | ⟨b, r'⟩
                · simp [mBelow]
                · have := b.toNat_lt
                  simp only [mBelow]
                  rw [if_pos this]
                  exact this
              · subst e
                simp only [mBelow]
                rw [if_pos b.toNat_lt]
                rfl
            rw [hd]
            have HDR := hide hdr
            have hqd : q * d ≤ 16777216 * 255 := Nat.mul_le_mul hN2 (by omega)
            have hqd2 : q * d ≤ q * 255 := Nat.mul_le_mul_left q (by omega)
            have hqI : (q : Int) * (d : Int) = ((q * d : Nat) : Int) := by simp
            obtain ⟨e0, he0⟩ : ∃ e0, q * d = e0 := ⟨_, rfl⟩
            rw [he0] at hqd hqd2 hqI
            have HE0 := hide he0
            have HQD := hide hqd2
            clear hF1 hK1 hd hdr he0 hqd2
            go_wp2_with fail
            go_roundw
            case rel =>
              have h1 := HN1.out
              have h2 := hp1.out
              have h3 := HQD.out
              refine ⟨i + 1, N + e0, _, _, by omega, by go_num, by rw [h2]; go_num, by go_num, HH.out.more (by rw [h2]; omega) (fun b r' e => ?_), HK1, HF1⟩
              obtain ⟨q1, q2, q3⟩ := HH.out.2.1 rfl
              rw [byte_at (q2.symm.trans e), leNat_snoc, ← q3, ← HDR.out b r' e, List.length_take, Nat.min_eq_left q1, HQ.out, HE0.out]
            case measure => simp [intOf]; omega
        · have hi : i = c := by omega
          subst hi
          have hI : ¬ (i : Int) < (i : Int) := by omega
          obtain ⟨hp, hv0⟩ := HH.out.done
          have hN := Nat.lt_of_lt_of_le HH.out.1 (Nat.pow_le_pow_right (n := 256) (by omega) hc4)
          have hN : N ≤ 4294967295 := by simp at hN; omega
          have hv : ∀ b, (mTake (widthOf j) l).1 = some b → (leNat b : Int) = wrap64 N := fun b hb => by
            rw [HC.out, hp] at hb
            cases bad with
            | true => simp at hb
            | false => simp at hb; subst hb; rw [← hv0 rfl]; unfold wrap64; omega
          replace hp : (mTake (widthOf j) l).2 = r ∧ (mTake (widthOf j) l).1.isNone = bad := by rw [HC.out, hp]; cases bad <;> exact ⟨rfl, rfl⟩
          have HVN := hide hv
          have HPN := hide hp
          obtain ⟨nv, wv, hb, hBt, hn, hw⟩ := HKr.out
          obtain ⟨na, nc, rfl⟩ : ∃ na nc, nv = .slice na nums.length nc := by
            rcases hn.2 with ⟨h1, h0⟩ | ⟨g, cap, cur, h1, _⟩
            · exact ⟨none, 0, by rw [h1, h0]⟩
            · exact ⟨_, _, h1⟩
          have k4 := hb.at4
          have f4 := hb.free 4
          have hlt := hb.lt
          have HB := hide hb
          have HN := hide hn
          have HWo := hide hw
          have HBt := hide hBt
          have hsz := HF.out.fr.size
          clear hb hn hw hBt hv hp
          have hVl : -9223372036854775808 ≤ (N : Int) := by omega
          have hVh : (N : Int) ≤ 9223372036854775807 := by omega
          have HVV : Hid (wrap64 (N : Int) = (N : Int)) := by show _ = _; unfold wrap64; omega
          obtain ⟨i0, hi, hz0, hz1, hz2⟩ := info_parts infoNum
          go_wp2_with (at_builtin; refine wpList_append_mine _ rfl _ _ 120 rfl B 141 i0 (.agg #[.string ⟨#[]⟩, .int .i64 0]) 2 24 Tryz.underlying120 hi hz0 hz1 hz2 rfl (by decide) (.slice na nums.length nc) nums.length (numCells nums) rfl ?o1 ⟨wr.heap.size, 0, none⟩ 1 1 (by omega) [.string (ba st), .int .i64 ((N : Int))] rfl rfl ?c1 ?c2 ?c3 ?c4 ?c5 ?_)
          case o1 => exact HN.out.alloc _
          case c2 => exact ⟨rfl, rfl⟩
          case c3 => unfold maxLen; omega
          case c4 => omega
          case c5 => have := HN.out; simp; omega
          intro v' w4 hO4 hg4 gn capn hv' hgg
          subst hv'
          have hb1 := HB.out.keep (Fr.alloc Zero _ (.cells #[.string (ba st), .int .i64 ((N : Int))] 141)) (fun h => h)
          have HE := hide (KS.toldNum (st, (N : Int)) hb1 HBt.out (HN.out.alloc _) (HWo.out.alloc _) (by rw [numCells_snoc]; exact hO4) hg4 ⟨gn, capn, rfl, by simpa using hgg⟩)
          have hb4 := hb1.keep (Fr.grown (X := fun k => (Value.slice na nums.length nc).ownBlock = some k) hg4 (fun k e _ => e)) (fun e => own_ne HN.out HB.out.block (by decide) e)
          have q4 := hb4.at4
          have qf := hb4.free 4
          clear hO4 hg4 hgg hb1 hb4 k4 f4 hi hz0 hz1 hz2
          go_wp2_with fail
          refine (decimal_any ((N : Int)) hVl hVh _).mono ?_
          rintro e w5 ⟨rfl, hF5⟩
          have HF5 := hide hF5
          clear hF5
          go_wp2_with fail
          go_ret
          refine ⟨((HF.out.trans (KFr.quiet (Fr.alloc _ _ _) hlt)).trans HE.out.2).trans (KFr.quiet HF5 HE.out.1.lt), nums ++ [(st, (N : Int))], _, ?_, by simp, rfl, fun b hb => ?_⟩
          · rw [HPN.out.1, HPN.out.2]; exact HE.out.1.quiet HF5
          · have e := HVV.out.symm.trans (HVN.out b hb).symm
            exact ⟨congrArg (fun x => nums ++ [(st, x)]) e, congrArg (fun x => ba (decI x)) e⟩

end Go.Proofs.YtnhkalnihjkoeaaGreatDoor

namespace Go.Proofs.YtnhkalnihjkoeaaGreatDoor
open Go.RowKit

def TPost (tb B db : Nat) (s : ByteArray) (nums : List (Bs × Int)) (ways : List (Bs × Bs)) (w : World) (p : Option Bs × Bs) (tf : Bs → Bs) (e : Ending) (w' : World) : Prop :=
  KFr tb w w' ∧ ∃ tx : ByteArray, KS w' B tb db s p.2 p.1.isNone nums ways ∧ e = .returned (.string tx) ∧ ∀ b, p.1 = some b → tx = ba (tf b)

theorem BO.new (w : World) (b : UInt8) (x : Int) (hx : x = b.toNat) : BO (w.alloc (.cells #[.int .u8 x] 5)) w.heap.size (.slice (some ⟨w.heap.size, 0, none⟩) 1 1) [b] := by
  subst hx
  refine ⟨⟨rfl, .inr ⟨w.heap.size, 1, #[.int .u8 b.toNat], rfl, Nat.zero_le _, heap_new_at rfl _, Nat.le_refl _, by unfold maxLen; omega, rfl, rfl⟩⟩, fun g hg => ?_⟩
  simp [Value.ownBlock] at hg
  omega

/-- The reader and a row of bytes that grows beside it. -/
structure KT (w wr : World) (tb db : Nat) (s : ByteArray) (nv wv : Value) (r : Bs) (bad : Bool) (sv : Value) (acc : Bs) : Prop where
  kb : KB wr tb db s r bad nv wv
  bo : BO wr w.heap.size sv acc
  fr : Fr (TX tb w) w wr
  lt : tb < w.heap.size

section
variable {w wr w' : World} {tb db : Nat} {s : ByteArray} {nv wv : Value} {r : Bs} {bad : Bool} {sv : Value} {acc : Bs}
theorem KT.drewN (h : KT w wr tb db s nv wv r bad sv acc) (k : Nat) : KT w (wr.drewN k) tb db s nv wv r bad sv acc :=
  ⟨h.kb.keep (Fr.drewN Zero _ _) (fun h => h), h.bo.keep (Fr.drewN Zero _ _) (fun _ _ h => h), h.fr.trans (Fr.drewN _ _ _), h.lt⟩
theorem KT.alloc (h : KT w wr tb db s nv wv r bad sv acc) (o : Obj) : KT w (wr.alloc o) tb db s nv wv r bad sv acc :=
  ⟨h.kb.keep (Fr.alloc Zero _ _) (fun h => h), h.bo.alloc o, h.fr.trans (Fr.alloc _ _ _), h.lt⟩
theorem KT.out (h : KT w wr tb db s nv wv r bad sv acc) {v' : Value} {acc' : Bs} (hb : BO w' w.heap.size v' acc') (hf : Fr (From w.heap.size) wr w') : KT w w' tb db s nv wv r bad v' acc' :=
  ⟨h.kb.keep hf (fun e => by unfold From at e; have := h.lt; omega), hb, h.fr.trans (hf.mono (fun _ _ e => .inr e)), h.lt⟩
theorem KT.one (h : KT w wr tb db s nv wv r bad sv acc) {r' : Bs} {bad' : Bool} (hb : KB w' tb db s r' bad' nv wv) (hf : Fr (One tb) wr w') : KT w w' tb db s nv wv r' bad' sv acc :=
  ⟨hb, h.bo.keep hf (fun k hk e => by have e' : k = tb := e; have := h.lt; omega), h.fr.trans (hf.mono (fun _ _ e => .inl e)), h.lt⟩
theorem KT.size (h : KT w wr tb db s nv wv r bad sv acc) : w.heap.size ≤ wr.heap.size := h.fr.size
end

set_option maxHeartbeats 8000000 in
set_option maxRecDepth 100000 in
theorem kText_any {w : World} {B tb db : Nat} {s : ByteArray} {l : Bs} {nums : List (Bs × Int)} {ways : List (Bs × Bs)} (h : KS w B tb db s l false nums ways) (hs : s.size ≤ maxLen) :
    Calls Tryz.prog 249 #[.pointer (some ⟨tb, 0, none⟩)] w fun e w' => TPost tb B db s nums ways w (mText l) (fun b => 34 :: (wQuo b ++ [34])) e w' := by
  have HK := hide h
  clear h
  go_enter Tryz.func249, Tryz.ntmps249
  go_wp2_with fail
  refine (kCount_any HK hs).mono ?_
  rintro e w1 ⟨hF1, hK1, n, rfl, hn, hnx⟩
  have HF1 := hide hF1
  obtain ⟨nv, wv, hb1, hB1, ho1, ho2⟩ := hK1
  have HS : Hid (∀ (w' : World) (r : Bs) (bad' : Bool), KB w' tb db s r bad' nv wv → Fr (TX tb w1) w1 w' → KS w' B tb db s r bad' nums ways ∧ KFr tb w w') := fun w' r bad' hb' hf' =>
    ⟨(KS.seal hb1 hB1 ho1 ho2 hb' hf').1, hF1.trans (KS.seal hb1 hB1 ho1 ho2 hb' hf').2⟩
  have HT0 : Hid (KT w1 (w1.alloc (.cells #[.int .u8 34] 5)) tb db s nv wv (mCount l).2 (mCount l).1.isNone (.slice (some ⟨w1.heap.size, 0, none⟩) 1 1) [34]) :=
    ⟨hb1.keep (Fr.alloc Zero _ _) (fun h => h), BO.new w1 34 34 rfl, Fr.alloc _ _ _, hb1.lt⟩
  rcases hc : mCount l with ⟨_ | m, r0⟩
  · rw [hc] at HT0
    have HU : Hid (mText l = (none, r0)) := by show _ = _; unfold mText; rw [hc]
    clear hF1 hb1 hB1 ho1 ho2 hnx hc
    simp only [Option.isNone_none] at HT0
    go_wp2_with fail
    go_loopw [4, 5] (fun sv iv wr => iv = .int .i64 0 ∧ Hid (KT w1 wr tb db s nv wv r0 true sv [34])) (fun _ _ _ => 0)
    case atStart => exact ⟨rfl, HT0⟩
    case round =>
      obtain ⟨rfl, HTr⟩ := hrel
      have h3 := HTr.out.kb.at3
      obtain ⟨sa, sc, rfl⟩ := HTr.out.bo.len
      have hsz := HTr.out.size
      rcases Nat.eq_zero_or_pos n with hn0 | hn0
      all_goals
        first
          | (have hI : (0 : Int) < (n : Int) := by omega)
          | (have hI : decide ((0 : Int) < (n : Int)) = false := decide_eq_false (by omega)
             have hI2 : decide (0 < n) = false := decide_eq_false (by omega))
        clear hn0
        go_wp2_with (at_builtin; refine wpList_out rfl (.tmp 88) (.tmp 89) 32 rfl [34] rfl rfl (HTr.out.alloc (.cells #[.int .u8 34] 5)).bo (src_one rfl) ?hb4 ?hl4 ?_)
        case hb4 => first | omega | (simp; omega) | simp
        case hl4 => first | omega | (simp; omega) | simp
        intro v4 w4 hB4 hF4 _
        have HT4 := hide ((HTr.out.alloc (.cells #[.int .u8 34] 5)).out hB4 hF4)
        have hcv := hB4.conv
        clear hB4 hF4
        go_wp2_with fail
        go_ret
        have := HS.out _ _ _ HT4.out.kb HT4.out.fr
        rw [HU.out]
        exact ⟨this.2, _, this.1, rfl, fun b hb => by simp at hb⟩
  · have hmn : n = m := hnx m (by rw [hc])
    subst hmn
    rw [hc] at HT0
    have HU : Hid (mText l = mVis n [] r0) := by show _ = _; unfold mText; rw [hc]
    clear hF1 hb1 hB1 ho1 ho2 hnx hc
    simp only [Option.isNone_some] at HT0
    go_wp2_with fail
    go_loopw [4, 5] (fun sv iv wr => ∃ (k : Nat) (got r : Bs), k ≤ n ∧ iv = .int .i64 k ∧ got.length = k ∧ Hid (mVis n [] r0 = mVis (n - k) got r) ∧ Hid (KT w1 wr tb db s nv wv r false sv ([34] ++ wQuo got))) (fun _ iv _ => n - (intOf iv).toNat)
    case atStart => exact ⟨0, [], r0, by omega, rfl, rfl, rfl, HT0⟩
    case round =>
      obtain ⟨k, got, r, hk, rfl, hgl, HV, HTr⟩ := hrel
      have hqg := wQuo_length got
      have h1 := HTr.out.kb.at1
      have h2 := HTr.out.kb.at2
      have h3 := HTr.out.kb.at3
      have f2 := HTr.out.kb.free 2
      have f3 := HTr.out.kb.free 3
      by_cases hlt : k < n
      · have hI : (k : Int) < (n : Int) := by omega
        have hps := HTr.out.kb.posle
        have hs' := hs
        unfold maxLen at hs'
        have hnk : n - k = n - (k + 1) + 1 := by omega
        rcases r with _ | ⟨b, r⟩
        · have he := HTr.out.kb.end
          have hge : ((s.size : Nat) : Int) ≤ ((pos s [] : Nat) : Int) := by omega
          have hgn : s.size ≤ pos s [] := by omega
          have HV' : Hid (mVis n [] r0 = (none, [])) := HV.out.trans (by rw [hnk]; rfl)
          clear he hnk
          go_wp2_with fail
          go_quiet (fail)
          go_wp2_with fail
          go_ret
          have hT2 := (HTr.out.drewN nq).one ((HTr.out.drewN nq).kb.mark true) (Fr.setCell (One tb) _ _ _ rfl)
          have := HS.out _ _ _ hT2.kb hT2.fr
          rw [HU.out, HV'.out]
          exact ⟨this.2, _, this.1, rfl, fun b hb => by simp at hb⟩
        · obtain ⟨hp, hp1, htl, hgb⟩ := HTr.out.kb.next
          replace hgb := hgb hp
          have hpI : ((pos s (b :: r) : Nat) : Int) < ((s.size : Nat) : Int) := by omega
          have hdd : decide (s.size ≤ pos s (b :: r)) = false := decide_eq_false (by omega)
          have hb8 := b.toNat_lt
          have HG := hide hgb
          have hgi : ((s[pos s (b :: r)].toNat : Nat) : Int) = ((b.toNat : Nat) : Int) := by rw [hgb]
          by_cases h32 : b.toNat < 32
          · have HV' : Hid (mVis n [] r0 = (none, b :: r)) := HV.out.trans (by rw [hnk]; simp only [mVis]; rw [if_neg (by omega)])
            have hx : ((b.toNat : Nat) : Int) < 32 := by omega
            clear hnk
            go_wp2_with fail
            go_quiet (fail)
            go_wp2_with fail
            go_ret
            have hT2 := (HTr.out.drewN nq).one ((HTr.out.drewN nq).kb.mark true) (Fr.setCell (One tb) _ _ _ rfl)
            have := HS.out _ _ _ hT2.kb hT2.fr
            rw [HU.out, HV'.out]
            exact ⟨this.2, _, this.1, rfl, fun b hb => by simp at hb⟩
          · by_cases h126 : 126 < b.toNat
            · have HV' : Hid (mVis n [] r0 = (none, b :: r)) := HV.out.trans (by rw [hnk]; simp only [mVis]; rw [if_neg (by omega)])
              have hx : decide (((b.toNat : Nat) : Int) < 32) = false := decide_eq_false (by omega)
              have hy : 126 < ((b.toNat : Nat) : Int) := by omega
              clear hnk
              go_wp2_with fail
              go_quiet (fail)
              go_wp2_with fail
              go_ret
              have hT2 := (HTr.out.drewN nq).one ((HTr.out.drewN nq).kb.mark true) (Fr.setCell (One tb) _ _ _ rfl)
              have := HS.out _ _ _ hT2.kb hT2.fr
              rw [HU.out, HV'.out]
              exact ⟨this.2, _, this.1, rfl, fun b hb => by simp at hb⟩
            · have HV' : Hid (mVis n [] r0 = mVis (n - (k + 1)) (got ++ [b]) r) := HV.out.trans (by rw [hnk]; simp only [mVis]; rw [if_pos (by omega)])
              have hx : decide (((b.toNat : Nat) : Int) < 32) = false := decide_eq_false (by omega)
              have hy : decide (126 < ((b.toNat : Nat) : Int)) = false := decide_eq_false (by omega)
              obtain ⟨sa, sc, rfl⟩ := HTr.out.bo.len
              have hsz := HTr.out.size
              have HTL := hide htl
              have hpe : ((pos s (b :: r) : Nat) : Int) + 1 = ((pos s r : Nat) : Int) := by omega
              have HLR : Hid (r.length ≤ s.size) := by show _ ≤ _; have := HTr.out.kb.len; simp at this; omega
              clear hnk htl hp1
              go_wp2_with fail
              go_quiet (fail)
              go_wp2_with fail
              go_quiet (fail)
              have HTd : ∀ j, Hid (KT w1 (wr.drewN j) tb db s nv wv (b :: r) false (.slice sa ([34] ++ wQuo got).length sc) ([34] ++ wQuo got)) := fun j => HTr.out.drewN j
              clear h1 h2 h3 f2 f3 hdd
              by_cases hq : b.toNat = 34 ∨ b.toNat = 92
              · have HQ : Hid (quo1 b = [92] ++ [b]) := if_pos hq
                have q : (((b.toNat : Int) == 34) = true) ∨ (((b.toNat : Int) == 34) = false ∧ ((b.toNat : Int) == 92) = true) := by
                  rcases hq with hq | hq
                  · exact .inl (beq_iff_eq.2 (by omega))
                  · exact .inr ⟨beq_eq_false_iff_ne.2 (by omega), beq_iff_eq.2 (by omega)⟩
                clear hq
                rcases q with q1 | ⟨q1, q2⟩
                all_goals
                  go_wp2_with (at_builtin; refine wpList_out rfl (.tmp 74) (.tmp 75) 32 rfl [92] rfl rfl ((HTd _).out.alloc (.cells #[.int .u8 92] 5)).bo (src_one rfl) ?hb5 ?hl5 ?_)
                  case hb5 => (try simp); omega
                  case hl5 => (try simp); omega
                  intro v5 w5 hB5 hF5 _
                  have HT5 := hide (((HTd _).out.alloc (.cells #[.int .u8 92] 5)).out hB5 hF5)
                  clear hB5 hF5
                  have hsz5 := HT5.out.size
                  go_wp2_with (at_builtin; refine wpList_out rfl (.tmp 77) (.tmp 79) 32 rfl [b] rfl rfl (HT5.out.alloc (.cells #[.int .u8 b.toNat] 5)).bo (src_one rfl) ?hb6 ?hl6 ?_)
                  case hb6 => (try simp); omega
                  case hl6 => (try simp); omega
                  intro v6 w6 hB6 hF6 _
                  have HT6 := hide ((HT5.out.alloc (.cells #[.int .u8 b.toNat] 5)).out hB6 hF6)
                  clear hB6 hF6
                  have g2 := HT6.out.kb.at2
                  have gf := HT6.out.kb.free 2
                  go_wp2_with fail
                  refine ⟨⟨k + 1, got ++ [b], r, by omega, by go_num, by simp [hgl], HV', ?_⟩, by simp [intOf]; omega⟩
                  have := HT6.out.one (HT6.out.kb.move HLR.out HTL.out) (Fr.setCell (One tb) _ _ _ rfl)
                  rw [wQuo_snoc, HQ.out]
                  exact hide (by simpa using this)
              · have HQ : Hid (quo1 b = [b]) := if_neg hq
                have q1 : ((b.toNat : Int) == 34) = false := beq_eq_false_iff_ne.2 (by omega)
                have q2 : ((b.toNat : Int) == 92) = false := beq_eq_false_iff_ne.2 (by omega)
                clear hq
                go_wp2_with (at_builtin; refine wpList_out rfl (.tmp 77) (.tmp 79) 32 rfl [b] rfl rfl ((HTd _).out.alloc (.cells #[.int .u8 b.toNat] 5)).bo (src_one rfl) ?hb6 ?hl6 ?_)
                case hb6 => (try simp); omega
                case hl6 => (try simp); omega
                intro v6 w6 hB6 hF6 _
                have HT6 := hide (((HTd _).out.alloc (.cells #[.int .u8 b.toNat] 5)).out hB6 hF6)
                clear hB6 hF6
                have g2 := HT6.out.kb.at2
                have gf := HT6.out.kb.free 2
                go_wp2_with fail
                refine ⟨⟨k + 1, got ++ [b], r, by omega, by go_num, by simp [hgl], HV', ?_⟩, by simp [intOf]; omega⟩
                have := HT6.out.one (HT6.out.kb.move HLR.out HTL.out) (Fr.setCell (One tb) _ _ _ rfl)
                rw [wQuo_snoc, HQ.out]
                exact hide (by simpa using this)
      · have hkn : k = n := by omega
        subst hkn
        have hI : ¬ (k : Int) < (k : Int) := by omega
        have HV' : Hid (mVis k [] r0 = (some got, r)) := HV.out.trans (by rw [Nat.sub_self]; rfl)
        obtain ⟨sa, sc, rfl⟩ := HTr.out.bo.len
        have hsz := HTr.out.size
        go_wp2_with (at_builtin; refine wpList_out rfl (.tmp 88) (.tmp 89) 32 rfl [34] rfl rfl (HTr.out.alloc (.cells #[.int .u8 34] 5)).bo (src_one rfl) ?hb4 ?hl4 ?_)
        case hb4 => (try simp); omega
        case hl4 => (try simp); omega
        intro v4 w4 hB4 hF4 _
        have HT4 := hide ((HTr.out.alloc (.cells #[.int .u8 34] 5)).out hB4 hF4)
        have hcv := hB4.conv
        clear hB4 hF4
        go_wp2_with fail
        go_ret
        have := HS.out _ _ _ HT4.out.kb HT4.out.fr
        rw [HU.out, HV'.out]
        exact ⟨this.2, _, this.1, rfl, fun b hb => by simp at hb; subst hb; simp⟩

end Go.Proofs.YtnhkalnihjkoeaaGreatDoor

namespace Go.Proofs.YtnhkalnihjkoeaaGreatDoor
open Go.RowKit

/-- After k bytes. -/
def HalfB (r0 : Bs) (k : Nat) (r : Bs) (bad : Bool) (acc : Bs) : Prop :=
  acc.length ≤ 1 + 2 * k ∧ (bad = false → k ≤ r0.length ∧ r = r0.drop k ∧ acc = [120] ++ wHex (r0.take k)) ∧ (bad = true → r0.length < k ∧ r = [])

set_option maxHeartbeats 8000000 in
set_option maxRecDepth 100000 in
theorem kBytes_any {w : World} {B tb db : Nat} {s : ByteArray} {l : Bs} {nums : List (Bs × Int)} {ways : List (Bs × Bs)} (h : KS w B tb db s l false nums ways) (hs : s.size ≤ maxLen) :
    Calls Tryz.prog 250 #[.pointer (some ⟨tb, 0, none⟩)] w fun e w' => TPost tb B db s nums ways w (mBytes l) (fun b => 120 :: wHex b) e w' := by
  have HK := hide h
  clear h
  go_enter Tryz.func250, Tryz.ntmps250
  go_wp2_with fail
  refine (kCount_any HK hs).mono ?_
  rintro e w1 ⟨hF1, hK1, n, rfl, hn, hnx⟩
  have HF1 := hide hF1
  obtain ⟨nv, wv, hb1, hB1, ho1, ho2⟩ := hK1
  have HS : Hid (∀ (w' : World) (r : Bs) (bad' : Bool), KB w' tb db s r bad' nv wv → Fr (TX tb w1) w1 w' → KS w' B tb db s r bad' nums ways ∧ KFr tb w w') := fun w' r bad' hb' hf' =>
    ⟨(KS.seal hb1 hB1 ho1 ho2 hb' hf').1, hF1.trans (KS.seal hb1 hB1 ho1 ho2 hb' hf').2⟩
  have HT0 : Hid (KT w1 (w1.alloc (.cells #[.int .u8 120] 5)) tb db s nv wv (mCount l).2 (mCount l).1.isNone (.slice (some ⟨w1.heap.size, 0, none⟩) 1 1) [120]) :=
    ⟨hb1.keep (Fr.alloc Zero _ _) (fun h => h), BO.new w1 120 120 rfl, Fr.alloc _ _ _, hb1.lt⟩
  rcases hc : mCount l with ⟨_ | m, r0⟩
  · rw [hc] at HT0
    have HU : Hid (mBytes l = (none, r0)) := by show _ = _; unfold mBytes; rw [hc]
    clear hF1 hb1 hB1 ho1 ho2 hnx hc
    simp only [Option.isNone_none] at HT0
    go_wp2_with fail
    go_loopw [5, 6] (fun sv iv wr => iv = .int .i64 0 ∧ Hid (KT w1 wr tb db s nv wv r0 true sv [120])) (fun _ _ _ => 0)
    case atStart => exact ⟨rfl, HT0⟩
    case round =>
      obtain ⟨rfl, HTr⟩ := hrel
      have h3 := HTr.out.kb.at3
      have hcv := HTr.out.bo.conv
      rcases Nat.eq_zero_or_pos n with hn0 | hn0
      all_goals
        first
          | (have hI : (0 : Int) < (n : Int) := by omega)
          | (have hI : decide ((0 : Int) < (n : Int)) = false := decide_eq_false (by omega)
             have hI2 : decide (0 < n) = false := decide_eq_false (by omega))
        clear hn0
        go_wp2_with fail
        go_ret
        have := HS.out _ _ _ HTr.out.kb HTr.out.fr
        rw [HU.out]
        exact ⟨this.2, _, this.1, rfl, fun b hb => by simp at hb⟩
  · have hmn : n = m := hnx m (by rw [hc])
    subst hmn
    rw [hc] at HT0
    have HU : Hid (mBytes l = mTake n r0) := by show _ = _; unfold mBytes; rw [hc]
    clear hF1 hb1 hB1 ho1 ho2 hnx hc
    simp only [Option.isNone_some] at HT0
    go_wp2_with fail
    go_loopw [5, 6] (fun sv iv wr => ∃ (k : Nat) (r acc : Bs) (bad : Bool), k ≤ n ∧ iv = .int .i64 k ∧ Hid (HalfB r0 k r bad acc) ∧ Hid (KT w1 wr tb db s nv wv r bad sv acc)) (fun _ iv _ => n - (intOf iv).toNat)
    case atStart => exact ⟨0, r0, [120], false, by omega, rfl, ⟨by simp, fun _ => ⟨by omega, rfl, rfl⟩, fun h => by simp at h⟩, HT0⟩
    case round =>
      obtain ⟨k, r, acc, bad, hk, rfl, HH, HTr⟩ := hrel
      have h3 := HTr.out.kb.at3
      have hal := HH.out.1
      cases bad with
      | true =>
        have hcv := HTr.out.bo.conv
        have HP : Hid (mTake n r0 = (none, [])) := by
          obtain ⟨q1, _⟩ := HH.out.2.2 rfl
          show _ = _
          unfold mTake
          rw [if_pos (by omega)]
        have HR : Hid (r = []) := (HH.out.2.2 rfl).2
        rcases Nat.lt_or_ge k n with hlt | hlt
        all_goals
          first
            | (have hI : (k : Int) < (n : Int) := by omega)
            | (have hI : decide ((k : Int) < (n : Int)) = false := decide_eq_false (by omega)
               have hI2 : decide (k < n) = false := decide_eq_false (by omega))
          clear hlt
          go_wp2_with fail
          go_ret
          have := HS.out _ _ _ HTr.out.kb HTr.out.fr
          rw [HU.out, HP.out]
          rw [HR.out] at this
          exact ⟨this.2, _, this.1, rfl, fun b hb => by simp at hb⟩
      | false =>
        by_cases hlt : k < n
        · have hI : (k : Int) < (n : Int) := by omega
          obtain ⟨sa, sc, rfl⟩ := HTr.out.bo.len
          go_wp2_with fail
          refine (kByteB HTr.out.kb hs 256 (by omega)).mono ?_
          rintro e w2 ⟨hF2, hb2, rfl⟩
          have HT2 := hide (HTr.out.one hb2 hF2)
          obtain ⟨d, hd, hd8, hdr⟩ : ∃ d : Nat, (mBelow 256 r).1.getD 0 = d ∧ d < 256 ∧ ∀ b r', r = b :: r' → d = b.toNat := by
            refine ⟨_, rfl, ?_, fun b r' e => ?_⟩
            · rcases r with _ | ⟨b, r'⟩
              · simp [mBelow]
              · have := b.toNat_lt
                simp only [mBelow]
                rw [if_pos this]
                exact this
            · subst e
              simp only [mBelow]
              rw [if_pos b.toNat_lt]
              rfl
          rw [hd]
          have HDR := hide hdr
          obtain ⟨x, hx⟩ : ∃ x, x = d / 16 := ⟨_, rfl⟩
          obtain ⟨y, hy⟩ : ∃ y, y = d % 16 := ⟨_, rfl⟩
          have hmod : (d : Int) % 16 = (y : Int) := by omega
          have hdiv : (d : Int) / 16 = (x : Int) := by omega
          have hx16 : x < 16 := by omega
          have hy16 : y < 16 := by omega
          have hxI : (x : Int) < 16 := by omega
          have hyI : (y : Int) < 16 := by omega
          obtain ⟨c1, hc1⟩ : ∃ c1, c1 = hexC x := ⟨_, rfl⟩
          obtain ⟨c2, hc2⟩ : ∃ c2, c2 = hexC y := ⟨_, rfl⟩
          have g1 : ∀ h', ({ data := #[48, 49, 50, 51, 52, 53, 54, 55, 56, 57, 97, 98, 99, 100, 101, 102] } : ByteArray)[x]'h' = c1 := fun h' => (hexS_at x hx16 h').trans hc1.symm
          have g2 : ∀ h', ({ data := #[48, 49, 50, 51, 52, 53, 54, 55, 56, 57, 97, 98, 99, 100, 101, 102] } : ByteArray)[y]'h' = c2 := fun h' => (hexS_at y hy16 h').trans hc2.symm
          have HH2 : Hid (HalfB r0 (k + 1) (mBelow 256 r).2 (mBelow 256 r).1.isNone (acc ++ [c1, c2])) := by
            obtain ⟨q1, q2, q3⟩ := HH.out.2.1 rfl
            refine ⟨by simp; omega, ?_⟩
            rcases r with _ | ⟨b, r'⟩
            · have hl : r0.length = k := by
                have := congrArg List.length q2
                simp at this
                omega
              exact ⟨fun h => by simp [mBelow] at h, fun _ => ⟨by omega, rfl⟩⟩
            · have hb : mBelow 256 (b :: r') = (some b.toNat, r') := by simp only [mBelow]; rw [if_pos b.toNat_lt]
              rw [hb]
              refine ⟨fun _ => ?_, fun h => by simp at h⟩
              have hl : k < r0.length := by
                have := congrArg List.length q2
                simp at this
                omega
              refine ⟨by omega, ?_, ?_⟩
              · rw [← List.drop_drop (i := 1), ← q2]
                rfl
              · rw [byte_at q2.symm, wHex_snoc, q3, hc1, hc2, hx, hy, hdr b r' rfl]
                simp
          clear hF2 hb2 hd hdr hx hy hc1 hc2 h3
          have hsz2 := HT2.out.size
          go_wp2_with (at_builtin; refine wpList_out rfl (.tmp 25) (.tmp 30) 32 rfl [c1] rfl rfl (HT2.out.alloc (.cells #[.int .u8 c1.toNat] 5)).bo (src_one rfl) ?hb5 ?hl5 ?_)
          case hb5 => first | omega | (simp; omega) | simp
          case hl5 => first | omega | (simp; omega) | simp
          intro v5 w5 hB5 hF5 _
          have HT5 := hide ((HT2.out.alloc (.cells #[.int .u8 c1.toNat] 5)).out hB5 hF5)
          clear hB5 hF5
          have hsz5 := HT5.out.size
          go_wp2_with (at_builtin; refine wpList_out rfl (.tmp 32) (.tmp 37) 32 rfl [c2] rfl rfl (HT5.out.alloc (.cells #[.int .u8 c2.toNat] 5)).bo (src_one rfl) ?hb6 ?hl6 ?_)
          case hb6 => first | omega | (simp; omega) | simp
          case hl6 => first | omega | (simp; omega) | simp
          intro v6 w6 hB6 hF6 _
          have HT6 := hide ((HT5.out.alloc (.cells #[.int .u8 c2.toNat] 5)).out hB6 hF6)
          clear hB6 hF6
          go_wp2_with fail
          exact ⟨⟨k + 1, _, _, _, by omega, by go_num, HH2, HT6⟩, by simp [intOf]; omega⟩
        · have hkn : k = n := by omega
          subst hkn
          have hI : ¬ (k : Int) < (k : Int) := by omega
          have hcv := HTr.out.bo.conv
          have HP : Hid (mTake k r0 = (some (r0.take k), r) ∧ acc = [120] ++ wHex (r0.take k)) := by
            obtain ⟨q1, q2, q3⟩ := HH.out.2.1 rfl
            refine ⟨?_, q3⟩
            unfold mTake
            rw [if_neg (by omega), q2]
          go_wp2_with fail
          go_ret
          have := HS.out _ _ _ HTr.out.kb HTr.out.fr
          rw [HU.out, HP.out.1]
          exact ⟨this.2, _, this.1, rfl, fun b hb => by simp at hb; subst hb; rw [HP.out.2]; rfl⟩

end Go.Proofs.YtnhkalnihjkoeaaGreatDoor
