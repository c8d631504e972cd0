/- The reference's reader of texts takes numbers with a sign. -/
import Derived.Test.YtnhkalnihjkoeaaGreatDoorEPlain
namespace Go.Proofs.YtnhkalnihjkoeaaGreatDoor
open Go.RowKit

def topS : Bs := [57, 50, 50, 51, 51, 55, 50, 48, 51, 54, 56, 53, 52, 55, 55, 53, 56, 48, 55]
def lowS : Bs := [57, 50, 50, 51, 51, 55, 50, 48, 51, 54, 56, 53, 52, 55, 55, 53, 56, 48, 56]
theorem plain_head {b : UInt8} {l : Bs} (h : ∀ c ∈ b :: l, 48 ≤ c.toNat ∧ c.toNat ≤ 57) (hb : 49 ≤ b.toNat) : Plain (b :: l) := ⟨fun c hc => h c hc, fun c r e => by simp at e; obtain ⟨rfl, _⟩ := e; exact hb⟩
theorem topS_good : Plain topS ∧ topS ≠ [] ∧ dv topS = 9223372036854775807 ∧ topS.length ≤ 20 := ⟨plain_head (by decide) (by decide), by decide, by simp [topS, dv, dvA, dvL], by decide⟩
theorem lowS_good : Plain lowS ∧ lowS ≠ [] ∧ dv lowS = 9223372036854775808 ∧ lowS.length ≤ 20 := ⟨plain_head (by decide) (by decide), by decide, by simp [lowS, dv, dvA, dvL], by decide⟩

set_option maxHeartbeats 8000000 in
set_option maxRecDepth 100000 in
theorem mSigned_any {w : World} {B mb db : Nat} {s : ByteArray} {l : Bs} {out : Bs} (h : MS w B mb db s l false out) (hs : s.size ≤ maxLen) (hB : B ≤ w.heap.size) (hl : out.length ≤ 900000000) :
    Calls Tryz.prog 171 #[.pointer (some ⟨mb, 0, none⟩)] w fun e w' => EPost mb B db s out 8 w l (rSigned l) (fun n => beBytes 8 (ofInt64 n)) e w' := by
  have HM := hide h
  obtain ⟨ov, hb, hBm, ho⟩ := h
  have HB := hide hb
  have hlt := hb.lt
  have HSL : Hid (∀ (w' : World) (r : Bs) (bad' : Bool), MB w' mb db s r bad' ov → Fr (One mb) w w' → MS w' B mb db s r bad' out ∧ MFr mb w w') := fun w' r bad' hb' hf' => MS.seal hb hBm ho hb' hf'
  have hs' := hs
  unfold maxLen at hs'
  clear hBm ho
  go_enter Tryz.func171, Tryz.ntmps171
  go_wp2_with fail
  refine (mNext_any hb hs).mono ?_
  rintro e w1 ⟨rfl, n1, e1⟩
  obtain rfl := e1.symm
  clear hb
  simp only [Bool.false_eq_true, if_false]
  by_cases h45 : hd l = 45
  · obtain ⟨b, l', rfl⟩ : ∃ b l', l = b :: l' := by
      rcases l with _ | ⟨b, l'⟩
      · simp [hd] at h45
      · exact ⟨b, l', rfl⟩
    simp only [hd] at h45
    have hc : (((hd (b :: l') : Nat) : Int) == 45) = true := beq_iff_eq.2 (by simp only [hd]; omega)
    have HA : Hid (rAcc 45 (b :: l') = some l') := rAcc_cons h45
    have hb1 := HB.out.keep (Fr.drewN Zero w n1) (fun h => h)
    obtain ⟨hp, hp1, htl, _⟩ := hb1.next
    have h2 := hb1.at2
    have f2 := hb1.free 2
    have HB1 := hide hb1
    have HF0 : Hid (Fr (One mb) w (w.drewN n1)) := Fr.drewN _ _ _
    have hpe : ((pos s (b :: l') : Nat) : Int) + 1 = ((pos s l' : Nat) : Int) := by omega
    have HTL := hide htl
    have HLR : Hid (l'.length ≤ s.size) := by show _ ≤ _; have := HB.out.len; simp at this; omega
    generalize hd (b :: l') = hv at *
    generalize w.drewN n1 = w1 at *
    clear hb1 htl hp1 h45
    go_wp2_with fail
    have HB2 := hide (HB1.out.move HLR.out HTL.out)
    have HF2 : Hid (Fr (One mb) w (w1.setCell ⟨mb, 2, none⟩ (.int .i64 (pos s l')))) := HF0.out.trans (Fr.setCell (One mb) _ _ _ rfl)
    generalize w1.setCell ⟨mb, 2, none⟩ (.int .i64 (pos s l')) = w2 at *
    refine (mNext_any HB2.out hs).mono ?_
    rintro e w3 ⟨rfl, n3, e3⟩
    obtain rfl := e3.symm
    have HB3 := hide (HB2.out.keep (Fr.drewN Zero w2 n3) (fun h => h))
    have HF3 : Hid (Fr (One mb) w (w2.drewN n3)) := HF2.out.trans (Fr.drewN _ _ _)
    generalize w2.drewN n3 = w4 at *
    simp only [Bool.false_eq_true, if_false]
    have HM4 := hide (HSL.out _ _ _ HB3.out HF3.out)
    by_cases h48 : hd l' = 48
    · have hc2 : (((hd l' : Nat) : Int) == 48) = true := beq_iff_eq.2 (by omega)
      obtain ⟨c, l2, rfl⟩ : ∃ c l2, l' = c :: l2 := by
        rcases l' with _ | ⟨c, l2⟩
        · simp [hd] at h48
        · exact ⟨c, l2, rfl⟩
      simp only [hd] at h48
      have HU : Hid (rSigned (b :: c :: l2) = (none, c :: l2)) := by show _ = _; unfold rSigned; rw [HA.out]; simp only; rw [rAcc_cons h48]
      have f4 := HB3.out.free 4
      have g4 := HB3.out.at4
      generalize hd (c :: l2) = hv2 at *
      clear h48
      go_wp2_with fail
      refine bodyPost_ret (v := .tuple #[]) (by simp [results, Tryz.results171, go_sem]) rfl ?_
      have q := HSL.out _ _ _ (HB3.out.mark true) (HF3.out.trans (Fr.setCell (One mb) _ _ _ rfl))
      rw [show EPost mb B db s out 8 w (b :: c :: l2) (rSigned (b :: c :: l2)) (fun n => beBytes 8 (ofInt64 n)) = EPost mb B db s out 8 w (b :: c :: l2) ((none : Option Int), c :: l2) (fun n => beBytes 8 (ofInt64 n)) by rw [HU.out]]
      exact ⟨q.2, c :: l2, true, out, q.1, rfl, rfl, by simp, fun h => by simp at h, fun _ => ⟨.inl rfl, by omega⟩⟩
    · have hc2 : (((hd l' : Nat) : Int) == 48) = false := beq_eq_false_iff_ne.2 (by omega)
      have HA2 : Hid (rAcc 48 l' = none) := by
        show _ = _
        rcases l' with _ | ⟨c, l2⟩
        · rfl
        · simp only [hd] at h48; exact rAcc_ne h48
      have HU : Hid (rSigned (b :: l') = ((rUns 9223372036854775808 l').1.map (fun (n : Nat) => -(n : Int)), (rUns 9223372036854775808 l').2)) := by show _ = _; unfold rSigned; rw [HA.out]; simp only; rw [HA2.out]
      generalize hd l' = hv2 at *
      clear h48
      go_wp2_with fail
      refine (mNumber_any HM4.out.1 hs lowS 9223372036854775808 (by omega) lowS_good.1 lowS_good.2.1 lowS_good.2.2.1 lowS_good.2.2.2).mono ?_
      rintro e w2 ⟨hF2, sd, r, bad, hM1, rfl, hdg, hdv, hsl, hr, hrl, hgd, hbd⟩
      have HF1 := hide (HM4.out.2.trans hF2)
      have HM1 := hide hM1
      have HR := hide hr
      have HGD := hide hgd
      have HBD := hide hbd
      have HDG := hide hdg
      have HDV := hide hdv
      clear hF2 hM1 hr hgd hbd hdg
      go_wp2_with fail
      refine (worth_any sd _ HDG.out (by omega) (by omega)).mono ?_
      rintro e w3 ⟨rfl, e3⟩
      obtain rfl := e3.symm
      obtain ⟨N, hN⟩ : ∃ N, dv sd = N := ⟨_, rfl⟩
      rw [hN] at HGD HDV ⊢
      have hN4 : N ≤ 9223372036854775808 := HDV.out
      clear hN hdv
      have hneg : IntKind.u64.wrap (-(N : Int)) = ((ofInt64 (-(N : Int)) : Nat) : Int) := by
        simp only [IntKind.wrap, IntKind.bits, IntKind.signed, ofInt64]
        simp
        omega
      have hMle : ofInt64 (-(N : Int)) ≤ 18446744073709551615 := by unfold ofInt64; omega
      obtain ⟨M, hM⟩ : ∃ M, ofInt64 (-(N : Int)) = M := ⟨_, rfl⟩
      rw [hM] at hneg hMle
      have HMN := hide hM
      clear hM
      go_wp2_with fail
      go_loopw [7, 8] (fun hv iv wr => ∃ i : Nat, i ≤ 8 ∧ hv = .int .u64 ((256 ^ (7 - i) : Nat) : Int) ∧ iv = .int .i64 i ∧ Hid (MS wr B mb db s r bad (out ++ (beBytes 8 M).take i)) ∧ Hid (MFr mb w wr)) (fun _ iv _ => 8 - (intOf iv).toNat)
      case atStart => exact ⟨0, by omega, rfl, rfl, by simpa using HM1, HF1⟩
      case round =>
        obtain ⟨i, hic, rfl, rfl, HMr, HFr⟩ := hrel
        have hbl : (beBytes 8 M).length = 8 := by unfold beBytes; rw [List.length_reverse, leBytes_length]
        by_cases hlt2 : i < 8
        · have hI2 : (i : Int) < 8 := by omega
          have hp1 : 256 ^ (7 - i) ≤ 256 ^ 7 := Nat.pow_le_pow_right (by omega) (by omega)
          have hp0 : 0 < 256 ^ (7 - i) := Nat.pow_pos (by omega)
          have hp56 : 256 ^ (7 - i) ≤ 72057594037927936 := hp1
          have HS := hide (beBytes_take M i hlt2)
          have HNX : Hid (if 256 ^ (7 - i) / 256 = 0 then 256 ^ (7 - (i + 1)) = 1 else 256 ^ (7 - (i + 1)) = 256 ^ (7 - i) / 256) := by
            by_cases h7 : i = 7
            · subst h7; exact (by simp : if 256 ^ (7 - 7) / 256 = 0 then 256 ^ (7 - (7 + 1)) = 1 else 256 ^ (7 - (7 + 1)) = 256 ^ (7 - 7) / 256)
            · have e : 256 ^ (7 - i) = 256 ^ (7 - (i + 1)) * 256 := by rw [← Nat.pow_succ]; congr 1; omega
              have e2 : 0 < 256 ^ (7 - (i + 1)) := Nat.pow_pos (by omega)
              rw [e, Nat.mul_div_cancel _ (by omega)]
              rw [if_neg (by omega)]
              exact hide rfl
          obtain ⟨nx, hnx⟩ : ∃ nx, 256 ^ (7 - (i + 1)) = nx := ⟨_, rfl⟩
          have HNXE := hide hnx
          rw [hnx] at HNX
          obtain ⟨h, hh⟩ : ∃ h, 256 ^ (7 - i) = h := ⟨_, rfl⟩
          rw [hh] at hp0 hp56 HNX HS ⊢
          clear hp1 hh hnx
          have hh0 : ((h : Int) == 0) = false := beq_eq_false_iff_ne.2 (by omega)
          obtain ⟨Q, hQ⟩ : ∃ Q, M / h = Q := ⟨_, rfl⟩
          have hQI : (M : Int) / (h : Int) = (Q : Int) := by rw [← hQ]; simp
          have hQle : Q ≤ 18446744073709551615 := by rw [← hQ]; exact Nat.le_trans (Nat.div_le_self _ _) (by omega)
          rw [hQ] at HS
          have HBQ : Hid (((Q : Int) % 256) = (((UInt8.ofNat Q).toNat : Nat) : Int)) := by show _ = _; simp
          have hll : ((beBytes 8 M).take i).length ≤ 8 := by rw [List.length_take]; omega
          have hBr : B ≤ wr.heap.size := Nat.le_trans hB HFr.out.fr.size
          clear hQ
          go_wp2_with fail
          refine (mPut_any HMr.out hBr _ (UInt8.ofNat Q) HBQ.out (by simp only [List.length_append]; omega)).mono ?_
          rintro e w3 ⟨hF3, hM3, rfl⟩
          have HF3 := hide (HFr.out.trans hF3)
          have HM3 := hide hM3
          clear hF3 hM3
          by_cases hz : h / 256 = 0
          · have hzI : (((h : Int) / 256) == 0) = true := beq_iff_eq.2 (by omega)
            have HN1 : Hid (nx = 1) := by have := HNX.out; rw [if_pos hz] at this; exact this
            clear hz
            go_wp2_with fail
            go_roundw
            case rel => exact ⟨i + 1, by omega, by rw [HNXE.out, HN1.out]; rfl, by go_num, by rw [HS.out]; exact hide (by simpa using HM3.out), HF3⟩
            case measure => simp [intOf]; omega
          · have hzI : (((h : Int) / 256) == 0) = false := beq_eq_false_iff_ne.2 (by omega)
            have HN1 : Hid (nx = h / 256) := by have := HNX.out; rw [if_neg hz] at this; exact this
            clear hz
            go_wp2_with fail
            go_roundw
            case rel => exact ⟨i + 1, by omega, by rw [HNXE.out, HN1.out]; go_num, by go_num, by rw [HS.out]; exact hide (by simpa using HM3.out), HF3⟩
            case measure => simp [intOf]; omega
        · have hi : i = 8 := by omega
          subst hi
          have hI2 : ¬ ((8 : Nat) : Int) < 8 := by omega
          go_wp2_with fail
          go_end0
          have htk : (beBytes 8 M).take 8 = beBytes 8 M := List.take_of_length_le (by omega)
          refine ⟨HFr, r, bad, out ++ beBytes 8 M, by rw [← htk]; exact HMr, rfl, by rw [HU.out]; exact HR.out, by simp only [List.length_cons]; omega, fun h => ⟨-(N : Int), by rw [HU.out, HGD.out h]; rfl, by show _ = out ++ beBytes 8 (ofInt64 (-(N : Int))); rw [HMN.out]⟩, fun h => ⟨(HBD.out h).imp (fun q => by rw [HU.out, q]; rfl) id, by simp [hbl]⟩⟩
  · have hc : (((hd l : Nat) : Int) == 45) = false := beq_eq_false_iff_ne.2 (by omega)
    have HA : Hid (rAcc 45 l = none) := by
      show _ = _
      rcases l with _ | ⟨c, l2⟩
      · rfl
      · simp only [hd] at h45; exact rAcc_ne h45
    have HU : Hid (rSigned l = ((rUns 9223372036854775807 l).1.map Int.ofNat, (rUns 9223372036854775807 l).2)) := by show _ = _; unfold rSigned; rw [HA.out]
    generalize hd l = hv at *
    clear h45
    go_wp2_with fail
    refine (mNumber_any (HM.out.quiet (Fr.drewN Zero w n1)) hs topS 9223372036854775807 (by omega) topS_good.1 topS_good.2.1 topS_good.2.2.1 topS_good.2.2.2).mono ?_
    rintro e w2 ⟨hF2, sd, r, bad, hM1, rfl, hdg, hdv, hsl, hr, hrl, hgd, hbd⟩
    have HF1 := hide ((MFr.quiet (Fr.drewN Zero w n1) hlt).trans hF2)
    have HM1 := hide hM1
    have HR := hide hr
    have HGD := hide hgd
    have HBD := hide hbd
    have HDG := hide hdg
    have HDV := hide hdv
    clear hF2 hM1 hr hgd hbd hdg
    go_wp2_with fail
    refine (worth_any sd _ HDG.out (by omega) (by omega)).mono ?_
    rintro e w3 ⟨rfl, e3⟩
    obtain rfl := e3.symm
    obtain ⟨N, hN⟩ : ∃ N, dv sd = N := ⟨_, rfl⟩
    rw [hN] at HGD HDV ⊢
    have hN4 : N ≤ 9223372036854775807 := HDV.out
    clear hN hdv
    go_wp2_with fail
    go_loopw [7, 8] (fun hv iv wr => ∃ i : Nat, i ≤ 8 ∧ hv = .int .u64 ((256 ^ (7 - i) : Nat) : Int) ∧ iv = .int .i64 i ∧ Hid (MS wr B mb db s r bad (out ++ (beBytes 8 N).take i)) ∧ Hid (MFr mb w wr)) (fun _ iv _ => 8 - (intOf iv).toNat)
    case atStart => exact ⟨0, by omega, rfl, rfl, by simpa using HM1, HF1⟩
    case round =>
      obtain ⟨i, hic, rfl, rfl, HMr, HFr⟩ := hrel
      have hbl : (beBytes 8 N).length = 8 := by unfold beBytes; rw [List.length_reverse, leBytes_length]
      by_cases hlt2 : i < 8
      · have hI2 : (i : Int) < 8 := by omega
        have hp1 : 256 ^ (7 - i) ≤ 256 ^ 7 := Nat.pow_le_pow_right (by omega) (by omega)
        have hp0 : 0 < 256 ^ (7 - i) := Nat.pow_pos (by omega)
        have hp56 : 256 ^ (7 - i) ≤ 72057594037927936 := hp1
        have HS := hide (beBytes_take N i hlt2)
        have HNX : Hid (if 256 ^ (7 - i) / 256 = 0 then 256 ^ (7 - (i + 1)) = 1 else 256 ^ (7 - (i + 1)) = 256 ^ (7 - i) / 256) := by
          by_cases h7 : i = 7
          · subst h7; exact (by simp : if 256 ^ (7 - 7) / 256 = 0 then 256 ^ (7 - (7 + 1)) = 1 else 256 ^ (7 - (7 + 1)) = 256 ^ (7 - 7) / 256)
          · have e : 256 ^ (7 - i) = 256 ^ (7 - (i + 1)) * 256 := by rw [← Nat.pow_succ]; congr 1; omega
            have e2 : 0 < 256 ^ (7 - (i + 1)) := Nat.pow_pos (by omega)
            rw [e, Nat.mul_div_cancel _ (by omega)]
            rw [if_neg (by omega)]
            exact hide rfl
        obtain ⟨nx, hnx⟩ : ∃ nx, 256 ^ (7 - (i + 1)) = nx := ⟨_, rfl⟩
        have HNXE := hide hnx
        rw [hnx] at HNX
        obtain ⟨h, hh⟩ : ∃ h, 256 ^ (7 - i) = h := ⟨_, rfl⟩
        rw [hh] at hp0 hp56 HNX HS ⊢
        clear hp1 hh hnx
        have hh0 : ((h : Int) == 0) = false := beq_eq_false_iff_ne.2 (by omega)
        obtain ⟨Q, hQ⟩ : ∃ Q, N / h = Q := ⟨_, rfl⟩
        have hQI : (N : Int) / (h : Int) = (Q : Int) := by rw [← hQ]; simp
        have hQle : Q ≤ 18446744073709551615 := by rw [← hQ]; exact Nat.le_trans (Nat.div_le_self _ _) (by omega)
        rw [hQ] at HS
        have HBQ : Hid (((Q : Int) % 256) = (((UInt8.ofNat Q).toNat : Nat) : Int)) := by show _ = _; simp
        have hll : ((beBytes 8 N).take i).length ≤ 8 := by rw [List.length_take]; omega
        have hBr : B ≤ wr.heap.size := Nat.le_trans hB HFr.out.fr.size
        clear hQ
        go_wp2_with fail
        refine (mPut_any HMr.out hBr _ (UInt8.ofNat Q) HBQ.out (by simp only [List.length_append]; omega)).mono ?_
        rintro e w3 ⟨hF3, hM3, rfl⟩
        have HF3 := hide (HFr.out.trans hF3)
        have HM3 := hide hM3
        clear hF3 hM3
        by_cases hz : h / 256 = 0
        · have hzI : (((h : Int) / 256) == 0) = true := beq_iff_eq.2 (by omega)
          have HN1 : Hid (nx = 1) := by have := HNX.out; rw [if_pos hz] at this; exact this
          clear hz
          go_wp2_with fail
          go_roundw
          case rel => exact ⟨i + 1, by omega, by rw [HNXE.out, HN1.out]; rfl, by go_num, by rw [HS.out]; exact hide (by simpa using HM3.out), HF3⟩
          case measure => simp [intOf]; omega
        · have hzI : (((h : Int) / 256) == 0) = false := beq_eq_false_iff_ne.2 (by omega)
          have HN1 : Hid (nx = h / 256) := by have := HNX.out; rw [if_neg hz] at this; exact this
          clear hz
          go_wp2_with fail
          go_roundw
          case rel => exact ⟨i + 1, by omega, by rw [HNXE.out, HN1.out]; go_num, by go_num, by rw [HS.out]; exact hide (by simpa using HM3.out), HF3⟩
          case measure => simp [intOf]; omega
      · have hi : i = 8 := by omega
        subst hi
        have hI2 : ¬ ((8 : Nat) : Int) < 8 := by omega
        go_wp2_with fail
        go_end0
        have htk : (beBytes 8 N).take 8 = beBytes 8 N := List.take_of_length_le (by omega)
        refine ⟨HFr, r, bad, out ++ beBytes 8 N, by rw [← htk]; exact HMr, rfl, by rw [HU.out]; exact HR.out, hrl, fun h => ⟨(N : Int), by rw [HU.out, HGD.out h]; rfl, by show _ = out ++ beBytes 8 (ofInt64 (N : Int)); rw [show ofInt64 (N : Int) = N by unfold ofInt64; omega]⟩, fun h => ⟨(HBD.out h).imp (fun q => by rw [HU.out, q]; rfl) id, by simp [hbl]⟩⟩

end Go.Proofs.YtnhkalnihjkoeaaGreatDoor
