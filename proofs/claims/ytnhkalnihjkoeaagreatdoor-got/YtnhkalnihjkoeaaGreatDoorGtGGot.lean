/- Get of the reference; the law of Get. -/
import Derived.Test.YtnhkalnihjkoeaaGreatDoorGtPGet
import Derived.Test.YtnhkalnihjkoeaaGreatDoorGtGRef
section
namespace Go.Proofs.YtnhkalnihjkoeaaGreatDoor
open Go.RowKit

theorem getT_empty (t : PT) (data : ByteArray) : getT t data ⟨#[]⟩ = decT t data := by
  unfold getT decT getR decR getV
  split
  · rcases rMsg 12 t data.data.toList with ⟨_ | v, _ | ⟨b, l⟩⟩ <;> rfl
  · rfl
theorem gett_any (w : World) (a : Addr) (t : PT) (data path : ByteArray) (hpt : PowT w) (ht : TR w Zero a t) (hW : WFT 12 t) (hd : data.size ≤ maxLen) (hpl : path.size ≤ maxLen) :
    Calls Tryz.prog 45 #[.pointer (some a), .string data, .string path] w fun e w' => TriPost w (getT t data path) e w' := by
  by_cases h : path = ⟨#[]⟩
  · subst h
    rw [getT_empty]
    exact gett_empty w a t data hpt ht hW hd
  · exact gett_path w a t data path h hpt ht hW hd hpl

set_option maxHeartbeats 8000000 in
set_option maxRecDepth 100000 in
theorem get_any (s data path : ByteArray) (w : World) (hw : Words w) (het : ErrT w) (hpt : PowT w) (hs : s.size ≤ maxLen) (hd : data.size ≤ maxLen) (hpl : path.size ≤ maxLen) :
    Calls Tryz.prog 25 #[.string s, .string data, .string path] w fun e w' => TriPost w (getP s data path) e w' := by
  have HW := hide hw
  have HE := hide het
  have HP := hide hpt
  clear hw het hpt
  go_enter Tryz.func25, Tryz.ntmps25
  go_wp2_with fail
  refine (sparse_any s _ HW HE hs).mono ?_
  rintro e w1 ⟨hF1, a, rfl, hok⟩
  have HF1 := hide hF1
  by_cases hz : (checkP s).1 = 0
  · have hc := checkP_ok hz
    obtain ⟨a', rfl, ht⟩ := hok hc
    have HWF := hide (typeP_good hc)
    have HTR := hide ht
    have HU : Hid (getP s data path = getT (typeP s) data path) := by show _ = _; unfold getP; rw [if_pos hz]
    rw [hc]
    clear hF1 hok hz hc ht
    go_wp2_with fail
    refine (gett_any _ a' (typeP s) data path (HP.out.keep HF1.out (fun h => h)) HTR.out HWF.out hd hpl).mono ?_
    rintro e w2 ⟨hF2, rfl⟩
    have HF2 := hide (HF1.out.trans hF2)
    clear hF2
    go_wp2_with fail
    go_ret3
    rw [HU.out]
    exact ⟨HF2, rfl⟩
  · have HU : Hid (getP s data path = (⟨#[]⟩, (checkP s).1, (checkP s).2)) := by show _ = _; unfold getP; rw [if_neg hz]
    have hzI : (((checkP s).1 : Nat) : Int) ≠ 0 := by omega
    have hzb : ((((checkP s).1 : Nat) : Int) == 0) = false := beq_eq_false_iff_ne.2 hzI
    clear hF1 hok hz
    go_wp2_with fail
    go_ret3
    rw [HU.out]
    exact ⟨HF1, rfl⟩

end Go.Proofs.YtnhkalnihjkoeaaGreatDoor
end
section
namespace Go.Proofs.YtnhkalnihjkoeaaGreatDoor
open Go.RowKit

set_option maxHeartbeats 8000000 in
set_option maxRecDepth 100000 in
theorem refGet_any (s data path : ByteArray) (w : World) (hs : s.size ≤ maxLen) (hd : data.size ≤ maxLen) (hpl : path.size ≤ maxLen) :
    Calls Tryz.prog 34 #[.string s, .string data, .string path] w fun e w' => TriPost w (getP s data path) e w' := by
  have HA := hide (agree_all s)
  go_enter Tryz.func34, Tryz.ntmps34
  go_wp2_with fail
  refine (read_any s _ hs HA.out.1).mono ?_
  unfold RPost
  rw [← HA.out.2]
  rintro e w1 ⟨hF1, a, rfl, hG⟩
  have HF1 := hide hF1
  have HG := hide hG
  clear hF1 hG
  by_cases hz : (checkP s).1 = 0
  · have hc := checkP_ok hz
    have HU : Hid (getP s data path = getT (typeP s) data path) := by show _ = _; unfold getP; rw [if_pos hz]
    obtain ⟨db, rfl, hDF, hb1, hb2⟩ := given_df (HG.out hc) (Fr.refl Zero w1)
    obtain ⟨_, t2, t3, t4⟩ := agree_tree (checkP_short hc) hc
    have HT4 := hide t4
    have HDF := hide hDF
    have HWF := hide (typeP_good hc)
    rw [hc]
    clear hz hc t3 t4 hDF HG
    go_wp2_with fail
    refine (dget_any HDF.out t2 hb2 (by omega) (typeP s) HT4.out HWF.out (typeP_ne s 12) data path hd hpl).mono ?_
    rintro e w2 ⟨hF2, rfl⟩
    have HF2 := hide (HF1.out.trans hF2)
    clear hF2
    go_wp2_with fail
    go_ret3
    rw [HU.out]
    exact ⟨HF2, rfl⟩
  · have HU : Hid (getP s data path = (⟨#[]⟩, (checkP s).1, (checkP s).2)) := by show _ = _; unfold getP; rw [if_neg hz]
    have hzI : (((checkP s).1 : Nat) : Int) ≠ 0 := by omega
    have hzb : ((((checkP s).1 : Nat) : Int) == 0) = false := beq_eq_false_iff_ne.2 hzI
    clear hz HG
    go_wp2_with fail
    go_ret3
    rw [HU.out]
    exact ⟨HF1, rfl⟩

theorem getP_le (s data path : ByteArray) : (getP s data path).2.1 ≤ 10 := by
  have hc := checkP_le s
  unfold getP
  split
  · unfold getT
    split
    · rcases rMsg 12 (typeP s) data.data.toList with ⟨_ | v, _ | ⟨b, l⟩⟩
      · simp [getR]
      · simp [getR]
      · simp only [getR, getV]
        split
        · simp
        · rcases partP v (splitP path.data.toList) 0 with ⟨_ | u, n⟩ <;> simp
      · simp [getR]
    · simp
  · simp; omega

set_option maxHeartbeats 4000000 in
theorem lawGet_any (s data path : ByteArray) (w : World) (hw : Words w) (het : ErrT w) (hpt : PowT w) (hs : s.size ≤ maxLen) (hd : data.size ≤ maxLen) (hpl : path.size ≤ maxLen) :
    Calls Tryz.prog 20 #[.string s, .string data, .string path] w fun e w' => e = .returned (.bool true) ∧ Fr Zero w w' := by
  have HW := hide hw
  have HE := hide het
  have HP := hide hpt
  have hle := getP_le s data path
  clear hw het hpt
  go_enter Tryz.func20, Tryz.ntmps20
  go_wp2_with fail
  refine (get_any s data path _ HW.out HE.out HP.out hs hd hpl).mono ?_
  rintro e w1 ⟨hF1, rfl⟩
  have HF1 := hide hF1
  clear hF1
  go_wp2_with fail
  refine (refGet_any s data path _ hs hd hpl).mono ?_
  rintro e w2 ⟨hF2, rfl⟩
  have HF2 := hide (HF1.out.trans hF2)
  clear hF2
  generalize getP s data path = c at *
  obtain ⟨c0, c1, c2⟩ := c
  simp only at hle
  have q0 : (c0.toList == c0.toList) = true := by simp
  have q1 : ((c1 : Int) == (c1 : Int)) = true := by simp
  have q2 : ((c2 : Int) == (c2 : Int)) = true := by simp
  go_wp2_with fail
  refine (num_any c1 _ (by omega) (by omega)).mono ?_
  rintro e w3 ⟨rfl, e3⟩
  obtain rfl := e3.symm
  go_wp2_with fail
  go_ret
  exact ⟨by simp, HF2⟩

set_option maxHeartbeats 4000000 in
set_option maxRecDepth 100000 in
theorem got_any (s data path o less way : ByteArray) (w : World) (hw : Words w) (het : ErrT w) (hpt : PowT w) (hs : s.size ≤ maxLen) (hd : data.size ≤ maxLen) (hp : path.size ≤ maxLen) (ho : o.size ≤ maxLen) (hl : less.size ≤ maxLen) (hy : way.size ≤ maxLen) :
    Calls Tryz.prog 7 #[.string s, .string data, .string path, .string o, .string less, .string way] w fun e w' => e = .returned (.bool true) ∧ Fr Zero w w' := by
  have HW := hide hw
  have HE := hide het
  have HP := hide hpt
  clear hw het hpt
  have key : ∀ (x y z : ByteArray) (w1 : World), Fr Zero w w1 → x.size ≤ maxLen → y.size ≤ maxLen → z.size ≤ maxLen → Calls Tryz.prog 20 #[.string x, .string y, .string z] w1 fun e w' => e = .returned (.bool true) ∧ Fr Zero w w' := fun x y z w1 hF hx hy hz =>
    (lawGet_any x y z w1 (HW.out.keep hF (fun h => h)) (HE.out.keep hF (fun h => h)) (HP.out.keep hF (fun h => h)) hx hy hz).mono (fun e w' h => ⟨h.1, hF.trans h.2⟩)
  have HK := hide key
  clear key
  go_enter Tryz.func7, Tryz.ntmps7
  go_wp2_with fail
  refine (HK.out s data path w (Fr.refl _ _) hs hd hp).mono ?_
  rintro e w1 ⟨rfl, hF1⟩
  have HF1 := hide hF1
  clear hF1
  go_wp2_with fail
  refine (HK.out o data path w1 HF1.out ho hd hp).mono ?_
  rintro e w2 ⟨rfl, hF2⟩
  have HF2 := hide hF2
  clear hF2
  go_wp2_with fail
  refine (HK.out s less path w2 HF2.out hs hl hp).mono ?_
  rintro e w3 ⟨rfl, hF3⟩
  have HF3 := hide hF3
  clear hF3
  go_wp2_with fail
  refine (HK.out s data way w3 HF3.out hs hd hy).mono ?_
  rintro e w4 ⟨rfl, hF4⟩
  have HF4 := hide hF4
  clear hF4
  go_wp2_with fail
  refine (HK.out s data path w4 HF4.out hs hd hp).mono ?_
  rintro e w5 ⟨rfl, hF5⟩
  have HF5 := hide hF5
  clear hF5
  go_wp2_with fail
  refine (HK.out _ _ _ w5 HF5.out (by decide) (by decide) (by decide)).mono ?_
  rintro e w6 ⟨rfl, hF6⟩
  have HF6 := hide hF6
  clear hF6
  go_wp2_with fail
  refine (HK.out _ _ _ w6 HF6.out (by decide) (by decide) (by decide)).mono ?_
  rintro e w7 ⟨rfl, hF7⟩
  have HF7 := hide hF7
  clear hF7
  go_wp2_with fail
  go_ret
  exact ⟨rfl, HF7⟩

end Go.Proofs.YtnhkalnihjkoeaaGreatDoor
end
