/- What the reference's Decode tells; the law of Decode. -/
import Derived.Test.YtnhkalnihjkoeaaGreatDoorDAll
import Derived.Test.YtnhkalnihjkoeaaGreatDoorVDec
import Derived.Test.YtnhkalnihjkoeaaGreatDoorPure
namespace Go.Proofs.YtnhkalnihjkoeaaGreatDoor
open Go.RowKit

set_option maxHeartbeats 8000000 in
set_option maxRecDepth 100000 in
theorem refDecode_any (s data : ByteArray) (w : World) (hs : s.size ≤ maxLen) (hd : data.size ≤ maxLen) :
    Calls Tryz.prog 31 #[.string s, .string data] w fun e w' => TriPost w (decP s data) e w' := by
  have HA := hide (agree_all s)
  go_enter Tryz.func31, Tryz.ntmps31
  go_wp2_with fail
  refine (read_any s _ hs HA.out.1).mono ?_
  unfold RPost
  rw [← HA.out.2]
  rintro e w1 ⟨hF1, a, rfl, hG⟩
  have HF1 := hide hF1
  have HG := hide hG
  clear hF1 hG
  by_cases hz : (checkP s).1 = 0
  · have hc := checkP_ok hz
    have HU : Hid (decP s data = if data.size ≤ 1000 then decR data (rMsg 12 (typeP s) data.data.toList) else (⟨#[]⟩, 1, 0)) := by show _ = _; unfold decP; rw [if_pos hz]
    obtain ⟨db, rfl, hDF, hb1, hb2⟩ := given_df (HG.out hc) (Fr.refl Zero w1)
    obtain ⟨_, t2, t3, t4⟩ := agree_tree (checkP_short hc) hc
    have HT4 := hide t4
    have HDF := hide hDF
    have HWF := hide (typeP_good hc)
    rw [hc]
    clear hz hc t3 t4 hDF HG
    by_cases hsz : data.size ≤ 1000
    · have HU2 : Hid (decP s data = decR data (rMsg 12 (typeP s) data.data.toList)) := by show _ = _; rw [HU.out, if_pos hsz]
      go_wp2_with fail
      refine (decodeR_short HDF.out t2 hb2 (by omega) (typeP s) HT4.out HWF.out data hsz).mono ?_
      rintro e w2 ⟨hF2, hq⟩
      have HF2 := hide (HF1.out.trans hF2)
      clear hF2
      rcases hq with ⟨v, tb, hr, rfl, hK⟩ | ⟨hno, rfl⟩
      · rw [hr] at HU2
        have hK' : KS w2 w1.heap.size tb db data [] false (numsOf 12 [] v) ([] ++ ([], wText 12 v) :: kidsW 11 [] v) := hK
        obtain ⟨g, cap, c1, c2, c3, _⟩ := hK'.tellText
        have hl1 : (0 : Int) < ((([] ++ (([], wText 12 v) :: kidsW 11 [] v) : List (Bs × Bs)).length : Nat) : Int) := by simp
        simp only [List.length_nil, Nat.zero_mul, Nat.zero_add] at c2
        have HM : Hid (decP s data = (ba (wText 12 v), 0, 0)) := HU2
        clear hr hK hK' HU2 HU c3
        generalize (([] ++ (([], wText 12 v) :: kidsW 11 [] v) : List (Bs × Bs)).length) = wl at *
        go_wp2_with fail
        go_ret3
        rw [HM.out]
        exact ⟨HF2, rfl⟩
      · have HN := hide (decR_no (data := data) hno)
        clear hno
        go_wp2_with fail
        go_ret3
        rw [HU2.out, HN.out]
        exact ⟨HF2, rfl⟩
    · have HU2 : Hid (decP s data = (⟨#[]⟩, 1, 0)) := by show _ = _; rw [HU.out, if_neg hsz]
      have hl : 1000 < data.size := by omega
      clear HU hsz
      go_wp2_with fail
      refine (decodeR_long _ data hd hl).mono ?_
      rintro e w2 ⟨hF2, rfl⟩
      have HF2 := hide (HF1.out.trans hF2)
      clear hF2
      go_wp2_with fail
      go_ret3
      rw [HU2.out]
      exact ⟨HF2, rfl⟩
  · have HU : Hid (decP s data = (⟨#[]⟩, (checkP s).1, (checkP s).2)) := by show _ = _; unfold decP; rw [if_neg hz]
    have hzI : (((checkP s).1 : Nat) : Int) ≠ 0 := by omega
    have hzb : ((((checkP s).1 : Nat) : Int) == 0) = false := beq_eq_false_iff_ne.2 hzI
    clear hz HG
    go_wp2_with fail
    go_ret3
    rw [HU.out]
    exact ⟨HF1, rfl⟩

theorem decP_le (s data : ByteArray) : (decP s data).2.1 ≤ 10 := by
  unfold decP decR
  have := checkP_le s
  split
  · split
    · split <;> simp
    · simp
  · simp; omega

set_option maxHeartbeats 4000000 in
theorem lawDecode_any (s data : ByteArray) (w : World) (hw : Words w) (het : ErrT w) (hpt : PowT w) (hs : s.size ≤ maxLen) (hd : data.size ≤ maxLen) :
    Calls Tryz.prog 14 #[.string s, .string data] w fun e w' => e = .returned (.bool true) ∧ Fr Zero w w' := by
  have HW := hide hw
  have HE := hide het
  have HP := hide hpt
  have hle := decP_le s data
  clear hw het hpt
  go_enter Tryz.func14, Tryz.ntmps14
  go_wp2_with fail
  refine (decode_any s data _ HW HE HP hs hd).mono ?_
  rintro e w1 ⟨hF1, rfl⟩
  have HF1 := hide hF1
  clear hF1
  go_wp2_with fail
  refine (refDecode_any s data _ hs hd).mono ?_
  rintro e w2 ⟨hF2, rfl⟩
  have HF2 := hide (HF1.out.trans hF2)
  clear hF2
  generalize decP s data = c at *
  obtain ⟨c0, c1, c2⟩ := c
  simp only at hle
  have q0 : (c0.toList == c0.toList) = true := by simp
  have q1 : ((c1 : Int) == (c1 : Int)) = true := by simp
  have q2 : ((c2 : Int) == (c2 : Int)) = true := by simp
  go_wp2_with fail
  refine (num_any c1 _ (by omega) (by omega)).mono ?_
  rintro e w3 ⟨rfl, e3⟩
  obtain rfl := e3.symm
  go_wp2_with fail
  go_ret
  exact ⟨by simp, HF2⟩

set_option maxHeartbeats 4000000 in
set_option maxRecDepth 100000 in
theorem decoded_any (s data o less : ByteArray) (w : World) (hw : Words w) (het : ErrT w) (hpt : PowT w) (hs : s.size ≤ maxLen) (hd : data.size ≤ maxLen) (ho : o.size ≤ maxLen) (hl : less.size ≤ maxLen) :
    Calls Tryz.prog 4 #[.string s, .string data, .string o, .string less] w fun e w' => e = .returned (.bool true) ∧ Fr Zero w w' := by
  have HW := hide hw
  have HE := hide het
  have HP := hide hpt
  clear hw het hpt
  have key : ∀ (x y : ByteArray) (w1 : World), Fr Zero w w1 → x.size ≤ maxLen → y.size ≤ maxLen → Calls Tryz.prog 14 #[.string x, .string y] w1 fun e w' => e = .returned (.bool true) ∧ Fr Zero w w' := fun x y w1 hF hx hy =>
    (lawDecode_any x y w1 (HW.out.keep hF (fun h => h)) (HE.out.keep hF (fun h => h)) (HP.out.keep hF (fun h => h)) hx hy).mono (fun e w' h => ⟨h.1, hF.trans h.2⟩)
  have HK := hide key
  clear key
  go_enter Tryz.func4, Tryz.ntmps4
  go_wp2_with fail
  refine (HK.out s data w (Fr.refl _ _) hs hd).mono ?_
  rintro e w1 ⟨rfl, hF1⟩
  have HF1 := hide hF1
  clear hF1
  go_wp2_with fail
  refine (HK.out o data w1 HF1.out ho hd).mono ?_
  rintro e w2 ⟨rfl, hF2⟩
  have HF2 := hide hF2
  clear hF2
  go_wp2_with fail
  refine (HK.out s less w2 HF2.out hs hl).mono ?_
  rintro e w3 ⟨rfl, hF3⟩
  have HF3 := hide hF3
  clear hF3
  go_wp2_with fail
  refine (HK.out s data w3 HF3.out hs hd).mono ?_
  rintro e w4 ⟨rfl, hF4⟩
  have HF4 := hide hF4
  clear hF4
  go_wp2_with fail
  refine (HK.out _ _ w4 HF4.out (by decide) (by decide)).mono ?_
  rintro e w5 ⟨rfl, hF5⟩
  have HF5 := hide hF5
  clear hF5
  go_wp2_with fail
  refine (HK.out _ _ w5 HF5.out (by decide) (by decide)).mono ?_
  rintro e w6 ⟨rfl, hF6⟩
  have HF6 := hide hF6
  clear hF6
  go_wp2_with fail
  go_ret
  exact ⟨rfl, HF6⟩

end Go.Proofs.YtnhkalnihjkoeaaGreatDoor
