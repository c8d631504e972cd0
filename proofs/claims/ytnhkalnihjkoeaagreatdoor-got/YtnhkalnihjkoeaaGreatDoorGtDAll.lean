/- The reference's reader takes lists. The reference's Decode. -/
import Derived.Test.YtnhkalnihjkoeaaGreatDoorGtDRec
namespace Go.Proofs.YtnhkalnihjkoeaaGreatDoor
open Go.RowKit

/-- After i of n elements. -/
def LstInv (k : Nat) (t : PT) (p st r0 : Bs) (n : Nat) (nums : List (Bs × Int)) (ways : List (Bs × Bs)) (i : Nat) (bad : Bool) (r tx : Bs) (nums' : List (Bs × Int)) (ways' : List (Bs × Bs)) : Prop :=
  (bad = false → ∃ vs : List PV, vs.length = i ∧ mSeveral (rMsg k (t.sub 0)) n [] r0 = mSeveral (rMsg k (t.sub 0)) (n - i) vs r ∧ tx = wBetween (wText k) vs ∧ nums' = nums ++ kids (fun _ x => numsOf k (under st [42]) x) 0 vs ∧ ways' = ways ++ kids (fun j x => waysOf k (under p (decI j)) x) 0 vs ∧
    nums'.length + k * r.length ≤ nums.length + k * r0.length ∧ ways'.length + k * r.length ≤ ways.length + k * r0.length ∧ r.length ≤ r0.length) ∧
  (bad = true → mSeveral (rMsg k (t.sub 0)) n [] r0 = (none, r) ∧ nums'.length ≤ nums.length + k * r0.length + 6 * k ∧ ways'.length ≤ ways.length + k * r0.length + 6 * k)

theorem LstInv.good {k : Nat} {t : PT} {p st r0 : Bs} {n : Nat} {nums : List (Bs × Int)} {ways : List (Bs × Bs)} {i : Nat} {r tx : Bs} {nums1 : List (Bs × Int)} {ways1 : List (Bs × Bs)} (h : LstInv k t p st r0 n nums ways i false r tx nums1 ways1) (hi : i < n) (hW : WFT k (t.sub 0))
    {ty : Bs} {nums2 : List (Bs × Int)} {ways2 : List (Bs × Bs)} (hb : (rMsg k (t.sub 0) r).1 = none → ty = [] ∧ nums2.length ≤ nums1.length + k * r.length + 6 * k ∧ ways2.length ≤ ways1.length + k * r.length + 6 * k)
    (hg : ∀ v, (rMsg k (t.sub 0) r).1 = some v → ty = wText k v ∧ nums2 = nums1 ++ numsOf k (under st [42]) v ∧ ways2 = ways1 ++ waysOf k (under p (decI i)) v) :
    LstInv k t p st r0 n nums ways (i + 1) (rMsg k (t.sub 0) r).1.isNone (rMsg k (t.sub 0) r).2 (tx ++ sepOf i ++ ty) nums2 ways2 := by
  obtain ⟨vs, h1, h2, h3, h4, h5, h6, h7, h8⟩ := h.1 rfl
  rw [show n - i = (n - (i + 1)) + 1 by omega] at h2
  simp only [mSeveral] at h2
  rcases hr : rMsg k (t.sub 0) r with ⟨_ | v, r'⟩
  · rw [hr] at h2 hb
    obtain ⟨_, q2, q3⟩ := hb rfl
    exact ⟨fun h => by simp at h, fun _ => ⟨h2, by omega, by omega⟩⟩
  · rw [hr] at h2 hg
    obtain ⟨q1, q2, q3⟩ := hg v rfl
    obtain ⟨g1, g2, g3⟩ := told_room hW hr
    refine ⟨fun _ => ⟨vs ++ [v], by simp [h1], h2, ?_, ?_, ?_, ?_, ?_, by simp only; omega⟩, fun h => by simp at h⟩
    · rw [wBetween_more, h3, q1]
      unfold sepOf
      rw [h1]
      simp
    · rw [kids_snoc, q2, h4]
      simp
    · rw [kids_snoc, q3, h5, h1]
      simp
    · have := g2 (under st [42])
      rw [q2]
      simp only [List.length_append]
      omega
    · have := g3 (under p (decI i))
      rw [q3]
      simp only [List.length_append]
      omega

theorem decI_nat (i : Nat) : decI (i : Int) = decN 20 i := by
  unfold decI
  rw [if_neg (by omega)]
  simp
theorem mCount_len (l : Bs) : (mCount l).2.length ≤ l.length := by
  rcases l with _ | ⟨b, l⟩
  · simp [mCount]
  · simp only [mCount]
    split
    · simp
    · rcases l with _ | ⟨c, l⟩
      · simp
      · simp only
        split <;> simp <;> omega

set_option maxHeartbeats 8000000 in
set_option maxRecDepth 100000 in
theorem sev_list {w : World} {B tb db : Nat} {s : ByteArray} {l : Bs} {nums : List (Bs × Int)} {ways : List (Bs × Bs)} {tab : List RT} {roots : List Nat} {k x : Nat} {t : PT} (hV : VSaid k) (p st : Bs) (h : SIn w B tb db s l nums ways tab roots) (hI : Is tab x t) (hk : t.kind = 7) (hW : WFT (k + 1) t)
    (hp : p.length + 500 * (k + 1) ≤ 10000) (hst : st.length + 500 * (k + 1) ≤ 10000) (hn : Room (k + 1) nums.length l.length) (hm : Room k ways.length l.length) :
    Calls Tryz.prog 179 #[.pointer (some ⟨tb, 0, none⟩), .int .i64 x, .string (ba p), .string (ba st)] w fun e w' => SPost tb B db s nums ways k t p st l w e w' := by
  obtain ⟨nv, wv, hb⟩ := h.ks.block
  have h0 := hb.at0
  have h3 := hb.at3
  have HI := hide h
  have HIs := hide hI
  have HR := hide hn
  have HM := hide hm
  have HW := hide hW
  have HV := hide hV
  have hlt := hb.lt
  clear h hI hn hm hW hV hb
  go_enter Tryz.func179, Tryz.ntmps179
  go_wp2_with fail
  refine (at_tab HI.out.df x t HIs.out HI.out.hB HI.out.tl).mono ?_
  rintro e w1 ⟨hF1, row, o, nv1, a, rfl, hrow, hRT⟩
  have hs1 : t.subs.length = 1 := HW.out.2.2.2.2.1 (.inl hk)
  have hol : row.of.length = 1 := hrow.len.trans hs1
  have hkk := hrow.kind
  rw [hkk] at hRT ⊢
  have hRT1 := hRT.keep hF1.of0
  obtain ⟨go, co, rfl, hT9⟩ := T9.new hRT1 (by omega)
  obtain ⟨pn, qn, rfl⟩ := hRT.2.2.1.shape
  obtain ⟨pa, qa, rfl⟩ := hRT.2.2.2.shape
  have HIsub := hide (hrow.sub 0 (by omega))
  have HF1 := hide (hF1.trans (Fr.alloc Zero w1 (.cells #[.int .i64 t.kind, .slice (some ⟨go, 0, none⟩) row.of.length co, .slice pn (texts row.names).length qn, .slice pa (ints row.ats).length qa] 293)))
  have HT9 := hide hT9
  have HOL := hide hol
  have HE : Hid (rMsg (k + 1) t l = ((mList (rMsg k (t.sub 0)) l).1.map (vParts t 0), (mList (rMsg k (t.sub 0)) l).2)) := by show _ = _; simp only [rMsg]; rw [if_neg (by omega), if_neg (by omega), if_neg (by omega), if_neg (by omega), if_neg (by omega), if_pos hk]
  rw [hol] at HF1
  rw [hol]
  rw [hol] at HT9
  rw [hk] at HT9
  rw [hk] at HF1
  rw [hk]
  have HKK := hide hk
  have HWs := hide (HW.out.sub (i := 0) (by omega))
  clear hF1 hrow hRT hRT1 hkk hT9 hol hk hs1
  go_wp2_with fail
  have HI1 := hide (HI.out.quiet HF1.out)
  refine (kCount_any HI1.out.ks (by have := HI.out.hs; unfold maxLen; omega)).mono ?_
  rintro e w2 ⟨hF2, hK2, n, rfl, hnn, hnx⟩
  have HF2 := hide ((KFr.quiet HF1.out hlt).trans hF2)
  have HK2 := hide hK2
  have HT2 := hide (HT9.out.keep HI1.out.ks hF2)
  have HLN := hide (mCount_len l)
  have HO1 : Hid (0 < row.of.length) := by show _ < _; have := HOL.out; omega
  rcases hq : mCount l with ⟨_ | d, r0⟩
  · rw [hq] at HK2
    have HU : Hid (mList (rMsg k (t.sub 0)) l = (none, r0)) := by show _ = _; unfold mList; rw [hq]
    clear hF2 hK2 hq hnx
    obtain ⟨_, _, hb2⟩ := HK2.out.block
    have g3 := hb2.at3
    simp only [Option.isNone_none] at g3
    clear hb2
    go_wp2_with fail
    refine wp_loop_rounds 1 ?_
    rw [rounds_succ]
    rcases Nat.eq_zero_or_pos n with hn0 | hn0
    all_goals
      first
        | (have hI : (0 : Int) < (n : Int) := by omega)
        | (have hI : decide ((0 : Int) < (n : Int)) = false := decide_eq_false (by omega)
           have hI2 : decide (0 < n) = false := decide_eq_false (by omega))
      clear hn0
      go_wp2_with fail
      go_ret
      refine ⟨HF2, _, nums, ways, by rw [HE.out, HU.out]; exact HK2.out, rfl, fun _ => ⟨by omega, by omega⟩, fun v hv => ?_⟩
      rw [HE.out, HU.out] at hv
      simp at hv
  · have hdn : n = d := hnx d (by rw [hq])
    subst hdn
    have hn300 := mCount_le hq
    rw [hq] at HK2
    rw [hq] at HLN
    have HU : Hid (mList (rMsg k (t.sub 0)) l = mSeveral (rMsg k (t.sub 0)) n [] r0) := by show _ = _; unfold mList; rw [hq]
    clear hF2 hK2 hq hnx
    simp only [Option.isNone_some] at HK2
    simp only at HLN
    have h1m : Hid (k * r0.length ≤ k * l.length) := Nat.mul_le_mul_left k HLN.out
    go_wp2_with fail
    go_loopw [12, 13] (fun sv iv wr => ∃ (i : Nat) (bad : Bool) (r tx : Bs) (nums1 : List (Bs × Int)) (ways1 : List (Bs × Bs)), i ≤ n ∧ iv = .int .i64 i ∧ sv = .string (ba tx) ∧ tx.length ≤ i * 10000001 ∧ Hid (LstInv k t p st r0 n nums ways i bad r tx nums1 ways1) ∧
      Hid (KS wr B tb db s r bad nums1 ways1) ∧ Hid (KFr tb w wr) ∧ Hid (T9 wr B w1.heap.size row 7 go co (.slice pn (texts row.names).length qn) (.slice pa (ints row.ats).length qa))) (fun _ iv _ => n - (intOf iv).toNat)
    case atStart => exact ⟨0, false, r0, [], nums, ways, by omega, rfl, rfl, by simp, ⟨fun _ => ⟨[], rfl, rfl, rfl, by simp [kids], by simp [kids], by omega, by omega, by omega⟩, fun h => by simp at h⟩, HK2, HF2, HT2⟩
    case round =>
      obtain ⟨i, bad, r, tx, nums1, ways1, hin, rfl, rfl, htx, HV1, HKr, HF, HTr⟩ := hrel
      have hz0 := ba_size tx
      have a1 : ⟨#[91]⟩ ++ ba tx = ba (91 :: tx) := ba_append [91] tx
      have a2 : ba (91 :: tx) ++ ⟨#[93]⟩ = ba (91 :: (tx ++ [93])) := ba_append (91 :: tx) [93]
      have y1 := ba_size (91 :: tx)
      simp only [List.length_cons] at y1
      have y2 : ¬ (9223372036854775807 < 1 + tx.length) := by omega
      have y3 : ¬ (9223372036854775807 < tx.length + 1 + 1) := by omega
      obtain ⟨_, _, hb2⟩ := HKr.out.block
      have g3 := hb2.at3
      clear hb2
      cases bad with
      | true =>
        obtain ⟨q2, q3, q4⟩ := HV1.out.2 rfl
        have HQ2 := hide q2
        have HQ3 := hide q3
        have HQ4 := hide q4
        clear q2 q3 q4
        rcases Nat.lt_or_ge i n with hlt' | hlt'
        all_goals
          first
            | (have hI : (i : Int) < (n : Int) := by omega)
            | (have hI : decide ((i : Int) < (n : Int)) = false := decide_eq_false (by omega)
               have hI2 : decide (i < n) = false := decide_eq_false (by omega))
          clear hlt'
          go_wp2_with fail
          go_ret
          have h2 : (k + 1) * l.length = k * l.length + l.length := Nat.succ_mul k _
          have h3 := h1m.out
          have h4 := HQ3.out
          have h5 := HQ4.out
          refine ⟨HF, _, nums1, ways1, by rw [HE.out, HU.out, HQ2.out]; exact HKr, rfl, fun _ => ⟨by omega, by omega⟩, fun v hv => ?_⟩
          rw [HE.out, HU.out, HQ2.out] at hv
          simp at hv
      | false =>
        by_cases hlt' : i < n
        · have hI : (i : Int) < (n : Int) := by omega
          have c1 := HTr.out.at1n HOL.out
          have c2 := HTr.out.of 0 HO1.out
          obtain ⟨vs, b1, b2, b3, b4, b5, b6, b7, b8⟩ := HV1.out.1 rfl
          have HI2 := hide (HI.out.keep HKr.out HF.out)
          have hu0 := decI_len (i : Int)
          have hu1 := under_size p (decI i)
          have hu2 := under_size st [42]
          simp only [List.length_cons, List.length_nil] at hu2
          have HU1 : Hid (p.length + (decI i).length + 1 ≤ 1000000) := by show _ ≤ _; omega
          have HU2 : Hid (st.length + [42].length + 1 ≤ 1000000) := by show _ ≤ _; simp; omega
          have HVC : Hid (∀ W, Fr Zero wr W → Calls Tryz.prog 108 #[.pointer (some ⟨tb, 0, none⟩), .int .i64 (numAt row.of 0 : Nat), .string (ba (under p (decI i))), .string (ba (under st [42]))] W fun e w' => VPost tb B db s nums1 ways1 k (t.sub 0) (under p (decI i)) (under st [42]) r W e w') := fun W hf =>
            HV.out W B tb db s r nums1 ways1 tab roots _ (t.sub 0) _ _ (HI2.out.quiet hf) HIsub.out HWs.out (by omega) (by omega) (by have := HR.out.less HLN.out; unfold Room at *; omega) (by have := HM.out.down HLN.out; unfold Room at *; omega)
          clear b1 b2 b3 b4 b5 b6 b7 b8 hu0 hu1 hu2 a1 a2 y1 y2 y3 hz0
          by_cases hi0 : i = 0
          · subst hi0
            have z1 := ba_size tx
            have HSEP : Hid (sepOf 0 = []) := rfl
            go_wp2_with fail
            go_region_held3 (fun W => W.cell? ⟨w1.heap.size, 1, none⟩ = some (.slice (some ⟨go, 0, none⟩) 1 co) ∧ W.cell? ⟨go, 0, none⟩ = some (.int .i64 (numAt row.of 0 : Nat))) (first | exact ⟨by assumption, by assumption⟩) (first | (go_at_call 253; refine (decimal_any 0 (by omega) (by omega) _).mono ?_; rintro e w3 ⟨rfl, hF3⟩; have HF3 : Hid (Fr Zero wr w3) := (Fr.drew Zero wr).trans hF3; have e1 := (HTr.out.quiet HF3.out).at1n HOL.out; have e2 := (HTr.out.quiet HF3.out).of 0 HO1.out; clear hF3) | (go_at_call 252; refine (under_any _ _ _ (by first | exact HU1.out | exact HU2.out)).mono ?_; rintro e w' ⟨rfl, rfl⟩) | (go_at_call 108; refine (HVC.out _ (HF3.out)).mono ?_; rintro e w4 ⟨hF4, ty, nums2, ways2, hK4, rfl, htl, hbd, hgd⟩; have hz4 := ba_size ty; have hn4 : ¬ (9223372036854775807 < tx.length + ty.length) := (by omega); have HFZ : Hid (Fr Zero wr _) := HF3.out; have hT4 := (HTr.out.quiet HFZ.out).keep (HKr.out.quiet HFZ.out) hF4; have d1 := hT4.at1n HOL.out; have d2 := hT4.of 0 HO1.out; have HT4 := hide hT4; have HF4 := hide ((HF.out.trans (KFr.quiet HFZ.out HKr.out.lt)).trans hF4); have HK4 := hide hK4; have HBD := hide hbd; have HGD := hide hgd; clear hF4 hK4 hbd hgd hT4))
            all_goals
              go_wp2_with fail
              go_roundw
              case rel =>
                have hV2 := HV1.out.good (i := 0) (by omega) HWs.out HBD.out HGD.out
                rw [HSEP.out] at hV2
                exact ⟨0 + 1, _, _, tx ++ ty, nums2, ways2, by omega, by go_num, by rw [ba_append], by simp only [List.length_append]; omega, hide (by simpa using hV2), HK4, HF4, HT4⟩
              case measure => simp [intOf]; omega

          · have z1 := ba_size (tx ++ [44])
            simp only [List.length_append, List.length_cons, List.length_nil] at z1
            replace z1 : (ba (tx ++ [44])).size = tx.length + 1 := z1
            have a44 : ba tx ++ ⟨#[44]⟩ = ba (tx ++ [44]) := ba_append tx [44]
            have z0 := ba_size tx
            have n0 : ¬ (9223372036854775807 < tx.length + 1) := by omega
            have hg0 : (0 : Int) < (i : Int) := by omega
            have hg1 : decide (0 < i) = true := decide_eq_true (by omega)
            have HSEP : Hid (sepOf i = [44]) := if_neg (by omega)
            go_wp2_with fail
            go_region_held3 (fun W => W.cell? ⟨w1.heap.size, 1, none⟩ = some (.slice (some ⟨go, 0, none⟩) 1 co) ∧ W.cell? ⟨go, 0, none⟩ = some (.int .i64 (numAt row.of 0 : Nat))) (first | exact ⟨by assumption, by assumption⟩) (first | (go_at_call 253; refine (decimal_any i (by omega) (by omega) _).mono ?_; rintro e w3 ⟨rfl, hF3⟩; have HF3 : Hid (Fr Zero wr w3) := (Fr.drew Zero wr).trans hF3; have e1 := (HTr.out.quiet HF3.out).at1n HOL.out; have e2 := (HTr.out.quiet HF3.out).of 0 HO1.out; clear hF3) | (go_at_call 252; refine (under_any _ _ _ (by first | exact HU1.out | exact HU2.out)).mono ?_; rintro e w' ⟨rfl, rfl⟩) | (go_at_call 108; refine (HVC.out _ (HF3.out)).mono ?_; rintro e w4 ⟨hF4, ty, nums2, ways2, hK4, rfl, htl, hbd, hgd⟩; have hz4 := ba_size ty; have hn4 : ¬ (9223372036854775807 < tx.length + 1 + ty.length) := (by omega); have HFZ : Hid (Fr Zero wr _) := HF3.out; have hT4 := (HTr.out.quiet HFZ.out).keep (HKr.out.quiet HFZ.out) hF4; have d1 := hT4.at1n HOL.out; have d2 := hT4.of 0 HO1.out; have HT4 := hide hT4; have HF4 := hide ((HF.out.trans (KFr.quiet HFZ.out HKr.out.lt)).trans hF4); have HK4 := hide hK4; have HBD := hide hbd; have HGD := hide hgd; clear hF4 hK4 hbd hgd hT4))
            all_goals
              go_wp2_with fail
              go_roundw
              case rel =>
                have hV2 := HV1.out.good (i := i) (by omega) HWs.out HBD.out HGD.out
                rw [HSEP.out] at hV2
                exact ⟨i + 1, _, _, (tx ++ [44]) ++ ty, nums2, ways2, by omega, by go_num, by rw [ba_append], by simp only [List.length_append, List.length_cons, List.length_nil]; omega, hide (by simpa using hV2), HK4, HF4, HT4⟩
              case measure => simp [intOf]; omega

        · have hin' : i = n := by omega
          subst hin'
          have hI : ¬ (i : Int) < (i : Int) := by omega
          obtain ⟨vs, b1, b2, b3, b4, b5, _⟩ := HV1.out.1 rfl
          rw [Nat.sub_self] at b2
          have HB2 : Hid (mList (rMsg k (t.sub 0)) l = (some vs, r)) := HU.out.trans b2
          have HB3 := hide b3
          have HB4 := hide b4
          have HB5 := hide b5
          clear b1 b2 b3 b4 b5
          go_wp2_with fail
          go_ret
          have hk7 := HKK.out
          refine ⟨HF, _, nums1, ways1, by rw [HE.out, HB2.out]; exact HKr, rfl, fun hno => ?_, fun v hv => ?_⟩
          · rw [HE.out, HB2.out] at hno
            simp at hno
          · rw [HE.out, HB2.out] at hv
            simp at hv
            subst hv
            refine ⟨?_, ?_, ?_⟩
            · show _ = ba (wText (k + 1) ⟨t, 0, [], vs⟩)
              rw [wText_mk, if_neg (by omega), if_neg (by omega), if_neg (by omega), if_neg (by omega), if_pos hk7, HB3.out]
            · rw [HB4.out]
              simp [numsOf, vParts, starOf, hk7]
            · rw [HB5.out]
              simp [kidsW, vParts, stepOf, hk7, decI_nat]

end Go.Proofs.YtnhkalnihjkoeaaGreatDoor

namespace Go.Proofs.YtnhkalnihjkoeaaGreatDoor
open Go.RowKit

theorem several_all {k : Nat} (hV : VSaid k) : SSaid k := by
  intro w B tb db s l nums ways tab roots x t p st h hI hW hp hst hn hm
  have hk := hW.1
  by_cases h2 : t.kind ≤ 2
  · exact sev_num p st h hI h2 hn
  obtain h3 | h4 | h5 | h6 | h7 | h8 | h9 | h10 : t.kind = 3 ∨ t.kind = 4 ∨ t.kind = 5 ∨ t.kind = 6 ∨ t.kind = 7 ∨ t.kind = 8 ∨ t.kind = 9 ∨ t.kind = 10 := by omega
  · exact sev_int p st h hI h3 hn
  · exact sev_bool p st h hI h4 hn
  · exact sev_text p st h hI h5 hn
  · exact sev_bytes p st h hI h6 hn
  · exact sev_list hV p st h hI h7 hW hp hst hn hm
  · exact sev_option hV p st h hI h8 hW hp hst hn hm
  · exact sev_record hV p st h hI h9 hW hp hst hn hm
  · exact sev_choice hV p st h hI h10 hW hp hst hn hm
theorem value_every : ∀ k, VSaid k := by
  intro k
  induction k with
  | zero => intro w B tb db s l nums ways tab roots x t p st h hI hW; exact hW.elim
  | succ k ih => exact value_of (several_all ih)

/-- What the reference's reader leaves behind a message. -/
def DPost (w : World) (db : Nat) (data : ByteArray) (R : Option PV × Bs) (e : Ending) (w' : World) : Prop :=
  Fr Zero w w' ∧ ((∃ v tb, R = (some v, []) ∧ e = .returned (.tuple #[.pointer (some ⟨tb, 0, none⟩), .int .i64 0, .int .i64 0]) ∧ KS w' w.heap.size tb db data [] false (numsOf 12 [] v) (waysOf 12 [] v)) ∨
    ((¬ ∃ v, R = (some v, [])) ∧ e = .returned (.tuple #[.pointer none, .int .i64 6, .int .i64 (pos data R.2)])))

set_option maxHeartbeats 8000000 in
set_option maxRecDepth 100000 in
theorem decodeR_short {w : World} {db : Nat} {tab : List RT} {roots : List Nat} (hD : DF w w.heap.size db tab roots) (hp : 0 < roots.length) (hl : roots.length ≤ 1000) (htl : tab.length ≤ 1000000) (t : PT) (hI : Is tab (numAt roots (roots.length - 1)) t) (hW : WFT 12 t) (data : ByteArray) (hd : data.size ≤ 1000) :
    Calls Tryz.prog 53 #[.pointer (some ⟨db, 0, none⟩), .string data] w fun e w' => DPost w db data (rMsg 12 t data.data.toList) e w' := by
  have HD := hide hD
  have HI := hide hI
  have HW := hide hW
  have hdI : ¬ (1000 : Int) < (data.size : Int) := by omega
  have hdl : db < w.heap.size := by
    obtain ⟨g, cap, c5, _⟩ := hD.root hp
    exact World.block_lt_of_cell? w _ c5
  clear hD hI hW
  go_enter Tryz.func53, Tryz.ntmps53
  go_wp2_with fail
  have HD1 := hide (HD.out.keep (Fr.alloc (From w.heap.size) w (.cells #[.pointer (some ⟨db, 0, none⟩), .string data, .int .i64 0, .bool false, .slice none 0 0, .slice none 0 0] 123)))
  refine (root_any HD1.out hp hl).mono ?_
  rintro e w1 ⟨rfl, n1, e1⟩
  obtain rfl := e1.symm
  have HF1 : Hid (Fr Zero w ((w.alloc (.cells #[.pointer (some ⟨db, 0, none⟩), .string data, .int .i64 0, .bool false, .slice none 0 0, .slice none 0 0] 123)).drewN n1)) := (Fr.alloc _ _ _).trans (Fr.drewN _ _ _)
  have HB1 : Hid (KB ((w.alloc (.cells #[.pointer (some ⟨db, 0, none⟩), .string data, .int .i64 0, .bool false, .slice none 0 0, .slice none 0 0] 123)).drewN n1) w.heap.size db data data.data.toList false (.slice none 0 0) (.slice none 0 0)) := by
    obtain ⟨q1, q2⟩ := data_tail data
    refine ⟨by rw [Array.length_toList]; exact Nat.le_refl _, q1, ?_⟩
    rw [q2]
    exact heap_new_at rfl _
  have HK1 : Hid (KS ((w.alloc (.cells #[.pointer (some ⟨db, 0, none⟩), .string data, .int .i64 0, .bool false, .slice none 0 0, .slice none 0 0] 123)).drewN n1) w.heap.size w.heap.size db data data.data.toList false [] []) :=
    ⟨_, _, HB1.out, Nat.le_refl _, World.ownsRow_nil _ _ _ _, World.ownsRow_nil _ _ _ _⟩
  have HD2 := hide (HD1.out.keep (Fr.drewN (From w.heap.size) _ n1))
  generalize (w.alloc (.cells #[.pointer (some ⟨db, 0, none⟩), .string data, .int .i64 0, .bool false, .slice none 0 0, .slice none 0 0] 123)).drewN n1 = w1 at *
  have hll : data.data.toList.length ≤ 1000 := by rw [Array.length_toList]; exact hd
  have HS : Hid (SIn w1 w.heap.size w.heap.size db data data.data.toList [] [] tab roots) := ⟨HK1.out, HD2.out, hd, htl, HF1.out.size⟩
  go_wp2_with fail
  refine (value_every 12 w1 w.heap.size w.heap.size db data data.data.toList [] [] tab roots _ t [] [] HS.out HI.out HW.out (by simp) (by simp) (by unfold Room; simp; omega) (by unfold Room; simp; omega)).mono ?_
  rintro e w2 ⟨hF2, tx, nums', ways', hK2, rfl, _, _, hgd⟩
  have HKF := hide hF2
  have HF2 : Hid (Fr Zero w w2) := by
    have := HS.out.ks.fromB hF2
    exact HF1.out.past this
  have HK2 := hide hK2
  have HGD := hide hgd
  obtain ⟨_, _, hb2⟩ := hK2.block
  have g2 := hb2.at2
  have g3 := hb2.at3
  have HB2 := hide hb2
  have hps := hb2.posle
  clear hF2 hK2 hgd hb2
  rcases hr : rMsg 12 t data.data.toList with ⟨_ | v, r⟩
  · rw [hr] at g2 g3
    have HR := hide hr
    simp only [Option.isNone_none] at g3
    clear hr
    go_wp2_with fail
    go_quiet (fail)
    go_wp2_with fail
    go_ret3
    rw [HR.out]
    exact ⟨HF2.out.trans (Fr.drewN _ _ _), .inr ⟨fun ⟨v, h⟩ => by simp at h, rfl⟩⟩
  · rw [hr] at g2 g3 hps HB2
    obtain ⟨_, q2, q3⟩ := HGD.out v (by rw [hr])
    rw [hr] at HK2
    have HR := hide hr
    simp only [Option.isNone_some] at g3 HK2
    simp only at g2 hps
    rcases r with _ | ⟨b, r⟩
    · have he := HB2.out.end
      have hI1 : ¬ ((pos data [] : Nat) : Int) < (data.size : Int) := by omega
      have HQ2 : Hid (nums' = numsOf 12 [] v) := by show _ = _; rw [q2]; simp
      have HQ3 : Hid (ways' = waysOf 12 [] v) := by show _ = _; rw [q3]; simp
      clear hr q2 q3 he
      go_wp2_with fail
      go_ret3
      rw [HR.out]
      refine ⟨HF2, .inl ⟨v, w.heap.size, rfl, rfl, ?_⟩⟩
      rw [← HQ2.out, ← HQ3.out]
      exact HK2
    · have hlt := HB2.out.next.1
      have hI1 : ((pos data (b :: r) : Nat) : Int) < (data.size : Int) := by omega
      clear hr q2 q3
      go_wp2_with fail
      go_quiet (fail)
      go_wp2_with fail
      go_ret3
      rw [HR.out]
      exact ⟨HF2.out.trans (Fr.drewN _ _ _), .inr ⟨fun ⟨v, h⟩ => by simp at h, rfl⟩⟩

theorem decodeR_long {w : World} (a : Option Addr) (data : ByteArray) (hs : data.size ≤ maxLen) (hd : 1000 < data.size) :
    Calls Tryz.prog 53 #[.pointer a, .string data] w fun e w' => Fr Zero w w' ∧ e = .returned (.tuple #[.pointer none, .int .i64 1, .int .i64 0]) := by
  unfold maxLen at hs
  have hdI : (1000 : Int) < (data.size : Int) := by omega
  go_enter Tryz.func53, Tryz.ntmps53
  go_wp2_with fail
  go_ret3
  exact ⟨Fr.refl _ _, rfl⟩

end Go.Proofs.YtnhkalnihjkoeaaGreatDoor
