/- What the reference's Encode tells; the law of Encode. -/
import Derived.Test.YtnhkalnihjkoeaaGreatDoorEParts
import Derived.Test.YtnhkalnihjkoeaaGreatDoorDRow
import Derived.Test.YtnhkalnihjkoeaaGreatDoorVEnc
namespace Go.Proofs.YtnhkalnihjkoeaaGreatDoor
open Go.RowKit

theorem mvalue_all : ∀ k, MSaid k := by
  intro k
  induction k with
  | zero => intro w B mb db s l out tab roots x t h hI hW; exact hW.elim
  | succ k ih =>
    intro w B mb db s l out tab roots x t h hI hW hr
    have hk := hW.1
    by_cases h2 : t.kind ≤ 2
    · exact mv_plain h hI h2 hr
    obtain h3 | h4 | h5 | h6 | h7 | h8 | h9 | h10 : t.kind = 3 ∨ t.kind = 4 ∨ t.kind = 5 ∨ t.kind = 6 ∨ t.kind = 7 ∨ t.kind = 8 ∨ t.kind = 9 ∨ t.kind = 10 := by omega
    · exact mv_int h hI h3 hr
    · exact mv_bool h hI h4 hr
    · exact mv_text h hI h5 hr
    · exact mv_bytes h hI h6 hr
    · exact mv_list ih h hI h7 hW hr
    · exact mv_option ih h hI h8 hW hr
    · exact mv_record ih h hI h9 hW hr
    · exact mv_choice ih h hI h10 hW hr

set_option maxHeartbeats 8000000 in
set_option maxRecDepth 100000 in
theorem encodeR_any {w : World} {db : Nat} {tab : List RT} {roots : List Nat} (hD : DF w w.heap.size db tab roots) (hp : 0 < roots.length) (hl : roots.length ≤ 1000) (htl : tab.length ≤ 1000000) (t : PT) (hI : Is tab (numAt roots (roots.length - 1)) t) (hW : WFT 12 t) (s value : ByteArray) (hd : value.size ≤ 1048576) :
    Calls Tryz.prog 52 #[.pointer (some ⟨db, 0, none⟩), .string value] w fun e w' => TriPost w (encR s value (rText 12 t value.data.toList)) e w' := by
  have HD := hide hD
  have HI := hide hI
  have HW := hide hW
  have hdl : db < w.heap.size := by
    obtain ⟨g, cap, c5, _⟩ := hD.root hp
    exact World.block_lt_of_cell? w _ c5
  clear hD hI hW
  go_enter Tryz.func52, Tryz.ntmps52
  go_wp2_with fail
  have HD1 := hide (HD.out.keep (Fr.alloc (From w.heap.size) w (.cells #[.pointer (some ⟨db, 0, none⟩), .string value, .int .i64 0, .slice none 0 0, .bool false] 207)))
  refine (root_any HD1.out hp hl).mono ?_
  rintro e w1 ⟨rfl, n1, e1⟩
  obtain rfl := e1.symm
  have HF1 : Hid (Fr Zero w ((w.alloc (.cells #[.pointer (some ⟨db, 0, none⟩), .string value, .int .i64 0, .slice none 0 0, .bool false] 207)).drewN n1)) := (Fr.alloc _ _ _).trans (Fr.drewN _ _ _)
  have HB1 : Hid (MB ((w.alloc (.cells #[.pointer (some ⟨db, 0, none⟩), .string value, .int .i64 0, .slice none 0 0, .bool false] 207)).drewN n1) w.heap.size db value value.data.toList false (.slice none 0 0)) := by
    obtain ⟨q1, q2⟩ := data_tail value
    refine ⟨by rw [Array.length_toList]; exact Nat.le_refl _, q1, ?_⟩
    rw [q2]
    exact heap_new_at rfl _
  have HK1 : Hid (MS ((w.alloc (.cells #[.pointer (some ⟨db, 0, none⟩), .string value, .int .i64 0, .slice none 0 0, .bool false] 207)).drewN n1) w.heap.size w.heap.size db value value.data.toList false []) :=
    ⟨_, HB1.out, Nat.le_refl _, BO.nil _ _⟩
  have HD2 := hide (HD1.out.keep (Fr.drewN (From w.heap.size) _ n1))
  generalize (w.alloc (.cells #[.pointer (some ⟨db, 0, none⟩), .string value, .int .i64 0, .slice none 0 0, .bool false] 207)).drewN n1 = w1 at *
  have hll : value.data.toList.length ≤ 1048576 := by rw [Array.length_toList]; exact hd
  have HS : Hid (MIn w1 w.heap.size w.heap.size db value value.data.toList [] tab roots) := ⟨HK1.out, HD2.out, hd, htl, HF1.out.size⟩
  go_wp2_with fail
  refine (mvalue_all 12 w1 w.heap.size w.heap.size db value value.data.toList [] tab roots _ t HS.out HI.out HW.out (by simp only [List.length_nil]; omega)).mono ?_
  rintro e w2 ⟨hF2, r, bad, out', hM2, rfl, hr, hrl, hgd, hbd⟩
  have HF2 : Hid (Fr Zero w w2) := HF1.out.past (HS.out.ms.fromB hF2)
  obtain ⟨ov, hb2, _, ho2⟩ := hM2
  have g2 := hb2.at2
  have g3 := hb2.at3
  have g4 := hb2.at4
  have HB2 := hide hb2
  have HO2 := hide ho2
  have hps := hb2.posle
  rcases hp' : rText 12 t value.data.toList with ⟨p, r'⟩
  rw [hp'] at hr hgd hbd
  have HPq := hide hp'
  simp only at hr
  subst hr
  cases bad with
  | true =>
    have HN : Hid (encR s value (p, r) = (⟨#[]⟩, 5, pos value r)) := by
      show _ = _
      refine encR_no ?_
      rintro ⟨v, hv⟩
      obtain ⟨rfl, rfl⟩ := Prod.mk.inj hv
      rcases (hbd rfl).1 with h | ⟨b, r', h, _⟩
      · simp at h
      · simp at h
    clear hF2 hgd hbd hb2 ho2 hp'
    go_wp2_with fail
    go_quiet (fail)
    go_wp2_with fail
    go_ret3
    rw [HPq.out, HN.out]
    exact ⟨HF2.out.trans (Fr.drewN _ _ _), rfl⟩
  | false =>
    obtain ⟨v, hv, hov⟩ := hgd rfl
    simp only at hv
    subst hv
    simp only [List.nil_append] at hov
    subst hov
    rcases r with _ | ⟨b, r⟩
    · have he := HB2.out.end
      have hI1 : ¬ ((pos value [] : Nat) : Int) < (value.size : Int) := by omega
      obtain ⟨oa, oc, rfl⟩ := HO2.out.len
      by_cases hle : (wMsg 12 v).length ≤ 1000
      · have hI2 : ¬ (1000 : Int) < (((wMsg 12 v).length : Nat) : Int) := by omega
        have HN : Hid (encR s value (some v, []) = (ba (wMsg 12 v), 0, 0)) := by show _ = _; unfold encR; simp only; rw [if_pos hle]
        have hcv := HO2.out.conv
        clear hF2 hgd hbd hb2 ho2 hp' he hle
        generalize wMsg 12 v = m at *
        go_wp2_with fail
        go_ret3
        rw [HPq.out, HN.out]
        exact ⟨HF2, rfl⟩
      · have hI2 : (1000 : Int) < (((wMsg 12 v).length : Nat) : Int) := by omega
        have HN : Hid (encR s value (some v, []) = (⟨#[]⟩, 1, 0)) := by show _ = _; unfold encR; simp only; rw [if_neg hle]
        clear hF2 hgd hbd hb2 ho2 hp' he hle
        generalize wMsg 12 v = m at *
        go_wp2_with fail
        go_ret3
        rw [HPq.out, HN.out]
        exact ⟨HF2, rfl⟩
    · have hlt := HB2.out.next.1
      have hI1 : ((pos value (b :: r) : Nat) : Int) < (value.size : Int) := by omega
      have HN : Hid (encR s value (some v, b :: r) = (⟨#[]⟩, 5, pos value (b :: r))) := encR_no (by rintro ⟨v', h⟩; simp at h)
      clear hF2 hgd hbd hb2 ho2 hp'
      go_wp2_with fail
      go_quiet (fail)
      go_wp2_with fail
      go_ret3
      rw [HPq.out, HN.out]
      exact ⟨HF2.out.trans (Fr.drewN _ _ _), rfl⟩

set_option maxHeartbeats 8000000 in
set_option maxRecDepth 100000 in
theorem refEncode_any (s value : ByteArray) (w : World) (hs : s.size ≤ maxLen) (hd : value.size ≤ 1048576) :
    Calls Tryz.prog 29 #[.string s, .string value] w fun e w' => TriPost w (encP s value) e w' := by
  have HA := hide (agree_all s)
  go_enter Tryz.func29, Tryz.ntmps29
  go_wp2_with fail
  refine (read_any s _ hs HA.out.1).mono ?_
  unfold RPost
  rw [← HA.out.2]
  rintro e w1 ⟨hF1, a, rfl, hG⟩
  have HF1 := hide hF1
  have HG := hide hG
  clear hF1 hG
  by_cases hz : (checkP s).1 = 0
  · have hc := checkP_ok hz
    have HU : Hid (encP s value = encR s value (rText 12 (typeP s) value.data.toList)) := by show _ = _; unfold encP; rw [if_pos hz]
    obtain ⟨db, rfl, hDF, hb1, hb2⟩ := given_df (HG.out hc) (Fr.refl Zero w1)
    obtain ⟨_, t2, t3, t4⟩ := agree_tree (checkP_short hc) hc
    have HT4 := hide t4
    have HDF := hide hDF
    have HWF := hide (typeP_good hc)
    rw [hc]
    clear hz hc t3 t4 hDF HG
    go_wp2_with fail
    refine (encodeR_any HDF.out t2 hb2 (by omega) (typeP s) HT4.out HWF.out s value hd).mono ?_
    rintro e w2 ⟨hF2, rfl⟩
    have HF2 := hide (HF1.out.trans hF2)
    clear hF2
    go_wp2_with fail
    go_ret3
    rw [HU.out]
    exact ⟨HF2, rfl⟩
  · have HU : Hid (encP s value = (⟨#[]⟩, (checkP s).1, (checkP s).2)) := by show _ = _; unfold encP; rw [if_neg hz]
    have hzI : (((checkP s).1 : Nat) : Int) ≠ 0 := by omega
    have hzb : ((((checkP s).1 : Nat) : Int) == 0) = false := beq_eq_false_iff_ne.2 hzI
    clear hz HG
    go_wp2_with fail
    go_ret3
    rw [HU.out]
    exact ⟨HF1, rfl⟩

theorem encP_le (s value : ByteArray) : (encP s value).2.1 ≤ 10 := by
  unfold encP encR
  have := checkP_le s
  split
  · split
    · split <;> simp
    · simp
  · simp; omega

set_option maxHeartbeats 4000000 in
theorem lawEncode_any (s value : ByteArray) (w : World) (hw : Words w) (het : ErrT w) (hs : s.size ≤ maxLen) (hd : value.size ≤ 1048576) :
    Calls Tryz.prog 13 #[.string s, .string value] w fun e w' => e = .returned (.bool true) ∧ Fr Zero w w' := by
  have HW := hide hw
  have HE := hide het
  have hle := encP_le s value
  clear hw het
  go_enter Tryz.func13, Tryz.ntmps13
  go_wp2_with fail
  refine (encode_any s value _ HW HE hs (by omega)).mono ?_
  rintro e w1 ⟨hF1, rfl⟩
  have HF1 := hide hF1
  clear hF1
  go_wp2_with fail
  refine (refEncode_any s value _ hs hd).mono ?_
  rintro e w2 ⟨hF2, rfl⟩
  have HF2 := hide (HF1.out.trans hF2)
  clear hF2
  generalize encP s value = c at *
  obtain ⟨c0, c1, c2⟩ := c
  simp only at hle
  have q0 : (c0.toList == c0.toList) = true := by simp
  have q1 : ((c1 : Int) == (c1 : Int)) = true := by simp
  have q2 : ((c2 : Int) == (c2 : Int)) = true := by simp
  go_wp2_with fail
  refine (num_any c1 _ (by omega) (by omega)).mono ?_
  rintro e w3 ⟨rfl, e3⟩
  obtain rfl := e3.symm
  go_wp2_with fail
  go_ret
  exact ⟨by simp, HF2⟩

set_option maxHeartbeats 4000000 in
set_option maxRecDepth 100000 in
theorem encoded_any (s value o less : ByteArray) (w : World) (hw : Words w) (het : ErrT w) (hs : s.size ≤ maxLen) (hd : value.size ≤ 1048576) (ho : o.size ≤ maxLen) (hl : less.size ≤ 1048576) :
    Calls Tryz.prog 3 #[.string s, .string value, .string o, .string less] w fun e w' => e = .returned (.bool true) ∧ Fr Zero w w' := by
  have HW := hide hw
  have HE := hide het
  clear hw het
  have key : ∀ (x y : ByteArray) (w1 : World), Fr Zero w w1 → x.size ≤ maxLen → y.size ≤ 1048576 → Calls Tryz.prog 13 #[.string x, .string y] w1 fun e w' => e = .returned (.bool true) ∧ Fr Zero w w' := fun x y w1 hF hx hy =>
    (lawEncode_any x y w1 (HW.out.keep hF (fun h => h)) (HE.out.keep hF (fun h => h)) hx hy).mono (fun e w' h => ⟨h.1, hF.trans h.2⟩)
  have HK := hide key
  clear key
  go_enter Tryz.func3, Tryz.ntmps3
  go_wp2_with fail
  refine (HK.out s value w (Fr.refl _ _) hs hd).mono ?_
  rintro e w1 ⟨rfl, hF1⟩
  have HF1 := hide hF1
  clear hF1
  go_wp2_with fail
  refine (HK.out o value w1 HF1.out ho hd).mono ?_
  rintro e w2 ⟨rfl, hF2⟩
  have HF2 := hide hF2
  clear hF2
  go_wp2_with fail
  refine (HK.out s less w2 HF2.out hs hl).mono ?_
  rintro e w3 ⟨rfl, hF3⟩
  have HF3 := hide hF3
  clear hF3
  go_wp2_with fail
  refine (HK.out s value w3 HF3.out hs hd).mono ?_
  rintro e w4 ⟨rfl, hF4⟩
  have HF4 := hide hF4
  clear hF4
  go_wp2_with fail
  refine (HK.out _ _ w4 HF4.out (by decide) (by decide)).mono ?_
  rintro e w5 ⟨rfl, hF5⟩
  have HF5 := hide hF5
  clear hF5
  go_wp2_with fail
  refine (HK.out _ _ w5 HF5.out (by decide) (by decide)).mono ?_
  rintro e w6 ⟨rfl, hF6⟩
  have HF6 := hide hF6
  clear hF6
  go_wp2_with fail
  go_ret
  exact ⟨rfl, HF6⟩

end Go.Proofs.YtnhkalnihjkoeaaGreatDoor
