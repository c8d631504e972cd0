/- What Back tells. -/
import Derived.Test.YtnhkalnihjkoeaaGreatDoorVDec
namespace Go.Proofs.YtnhkalnihjkoeaaGreatDoor
open Go.RowKit

/-! ### What is written is read again, and what is read is written again -/

theorem ba_inj {s : ByteArray} {l : Bs} (h : s.data.toList = l) : s = ba l := by rw [← h, ba_data]

theorem enc_back {s value : ByteArray} (hc : checkP s = (0, 0)) (h : (encP s value).2.1 = 0) : decP s (encP s value).1 = (value, 0, 0) ∧ (encP s value).1.size ≤ 1000 := by
  have hW := typeP_good hc
  have hE : encP s value = encR s value (rText 12 (typeP s) value.data.toList) := by unfold encP; rw [if_pos (by rw [hc])]
  rw [hE] at h ⊢
  rcases hq : rText 12 (typeP s) value.data.toList with ⟨q, r⟩
  rw [hq] at h
  by_cases hv : ∃ v, (q, r) = (some v, [])
  · obtain ⟨v, hv⟩ := hv
    simp only [Prod.mk.injEq] at hv
    obtain ⟨rfl, rfl⟩ := hv
    obtain ⟨hVal, htx⟩ := rText_sound 12 (typeP s) _ _ _ hW hq
    have hle : (wMsg 12 v).length ≤ 1000 := by
      by_cases h' : (wMsg 12 v).length ≤ 1000
      · exact h'
      · simp only [encR, if_neg h'] at h
        cases h
    have e1 : encR s value (some v, []) = (ba (wMsg 12 v), 0, 0) := by simp only [encR, if_pos hle]
    rw [e1]
    have hsz : (ba (wMsg 12 v)).size ≤ 1000 := by rw [ba_size]; exact hle
    refine ⟨?_, hsz⟩
    have hr := rMsg_whole 12 (typeP s) v [] hW hVal
    rw [List.append_nil] at hr
    unfold decP
    rw [if_pos (by rw [hc]), if_pos hsz, ba_list, hr]
    simp only [decR]
    rw [List.append_nil] at htx
    rw [← ba_inj htx]
  · rw [encR_no hv] at h
    cases h
theorem dec_back {s data : ByteArray} (hc : checkP s = (0, 0)) (h : (decP s data).2.1 = 0) : encP s (decP s data).1 = (data, 0, 0) ∧ (decP s data).1.size ≤ 10000000 := by
  have hW := typeP_good hc
  have hE : decP s data = if data.size ≤ 1000 then decR data (rMsg 12 (typeP s) data.data.toList) else (⟨#[]⟩, 1, 0) := by unfold decP; rw [if_pos (by rw [hc])]
  rw [hE] at h ⊢
  by_cases hsz : data.size ≤ 1000
  · rw [if_pos hsz] at h ⊢
    rcases hq : rMsg 12 (typeP s) data.data.toList with ⟨q, r⟩
    rw [hq] at h
    by_cases hv : ∃ v, (q, r) = (some v, [])
    · obtain ⟨v, hv⟩ := hv
      simp only [Prod.mk.injEq] at hv
      obtain ⟨rfl, rfl⟩ := hv
      obtain ⟨hVal, htx⟩ := rMsg_sound 12 (typeP s) _ _ _ hW hq
      rw [List.append_nil] at htx
      have hlm : (wMsg 12 v).length = data.size := by rw [← htx, Array.length_toList]; rfl
      have hlt := (text_len 12 (typeP s) v hW hVal).2
      have e1 : decR data (some v, []) = (ba (wText 12 v), 0, 0) := rfl
      rw [e1]
      refine ⟨?_, by rw [ba_size]; omega⟩
      have hr := rText_whole 12 (typeP s) v [] hW hVal (fun b l h => by cases h)
      rw [List.append_nil] at hr
      unfold encP
      rw [if_pos (by rw [hc]), ba_list, hr]
      simp only [encR]
      rw [if_pos (by omega), ← ba_inj htx]
    · rw [decR_no hv] at h
      cases h
  · rw [if_neg hsz] at h
    cases h
theorem enc_else {s value : ByteArray} (hc : checkP s = (0, 0)) : (encP s value).2.1 ≠ 6 ∧ ((encP s value).2.1 = 0 ∨ (encP s value).1 = ⟨#[]⟩) := by
  have hE : encP s value = encR s value (rText 12 (typeP s) value.data.toList) := by unfold encP; rw [if_pos (by rw [hc])]
  rw [hE]
  by_cases hv : ∃ v, rText 12 (typeP s) value.data.toList = (some v, [])
  · obtain ⟨v, hv⟩ := hv
    rw [hv]
    simp only [encR]
    split <;> simp
  · rw [encR_no hv]; simp
theorem dec_else {s data : ByteArray} (hc : checkP s = (0, 0)) : (decP s data).2.1 ≠ 5 ∧ ((decP s data).2.1 = 0 ∨ (decP s data).1 = ⟨#[]⟩) := by
  have hE : decP s data = if data.size ≤ 1000 then decR data (rMsg 12 (typeP s) data.data.toList) else (⟨#[]⟩, 1, 0) := by unfold decP; rw [if_pos (by rw [hc])]
  rw [hE]
  split
  · by_cases hv : ∃ v, rMsg 12 (typeP s) data.data.toList = (some v, [])
    · obtain ⟨v, hv⟩ := hv
      rw [hv]
      simp [decR]
    · rw [decR_no hv]; simp
  · simp

/-! ### awake -/

def awD : ByteArray := ⟨#[109, 61, 123, 105, 100, 58, 115, 104, 111, 114, 116, 44, 116, 97, 103, 58, 116, 101, 120, 116, 44, 111, 110, 58, 63, 98, 111, 111, 108, 125]⟩
def awV : ByteArray := ⟨#[123, 50, 53, 56, 44, 34, 104, 105, 34, 44, 43, 121, 101, 115, 125]⟩
def awM : ByteArray := ⟨#[2, 1, 2, 104, 105, 1, 1]⟩
theorem aw_enc : encP awD awV = (awM, 0, 0) := by decide +kernel
theorem aw_dec : decP awD awM = (awV, 0, 0) := by decide +kernel

theorem awake_any (w : World) (hw : Words w) (het : ErrT w) (hpt : PowT w) :
    Calls Tryz.prog 15 #[] w fun e w' => Fr Zero w w' ∧ e = .returned (.bool true) := by
  have HW := hide hw
  have HE := hide het
  have HP := hide hpt
  clear hw het hpt
  go_enter Tryz.func15, Tryz.ntmps15
  go_wp2_with fail
  refine (encode_any awD awV _ HW HE (by decide) (by decide)).mono ?_
  rw [aw_enc]
  rintro e w1 ⟨hF1, rfl⟩
  have HF1 := hide hF1
  have HW1 := hide (HW.out.keep hF1 (fun h => h))
  have HE1 := hide (HE.out.keep hF1 (fun h => h))
  have HP1 := hide (HP.out.keep hF1 (fun h => h))
  clear hF1
  go_wp2_with fail
  refine (decode_any awD awM _ HW1 HE1 HP1 (by decide) (by decide)).mono ?_
  rw [aw_dec]
  rintro e w2 ⟨hF2, rfl⟩
  have HF2 := hide (HF1.out.trans hF2)
  clear hF2
  have q1 : (awM.toList == [2, 1, 2, 104, 105, 1, 1]) = true := by rw [ByteArray.toList_eq]; decide
  have q2 : (awV.toList == [123, 50, 53, 56, 44, 34, 104, 105, 34, 44, 43, 121, 101, 115, 125]) = true := by rw [ByteArray.toList_eq]; decide
  go_wp2_with fail
  go_ret
  exact ⟨HF2, rfl⟩

theorem emptyB : (⟨#[]⟩ : ByteArray).toList.isEmpty = true := by rw [ByteArray.toList_eq]; rfl
theorem sameB (s : ByteArray) : (s.toList == s.toList) = true := by simp

set_option maxHeartbeats 8000000 in
set_option maxRecDepth 100000 in
theorem back_any (s value data : ByteArray) (w : World) (hw : Words w) (het : ErrT w) (hpt : PowT w) (hs : s.size ≤ maxLen) (hv : value.size ≤ 140737488355328) (hd : data.size ≤ maxLen) :
    Calls Tryz.prog 5 #[.string s, .string value, .string data] w fun e w' => e = .returned (.bool true) ∧ Fr Zero w w' := by
  have HW := hide hw
  have HE := hide het
  have HP := hide hpt
  clear hw het hpt
  go_enter Tryz.func5, Tryz.ntmps5
  go_wp2_with fail
  refine (awake_any _ HW HE HP).mono ?_
  rintro e w1 ⟨hF1, rfl⟩
  have HF1 := hide hF1
  have HW1 := hide (HW.out.keep hF1 (fun h => h))
  have HE1 := hide (HE.out.keep hF1 (fun h => h))
  have HP1 := hide (HP.out.keep hF1 (fun h => h))
  clear hF1
  go_wp2_with fail
  refine (check_any s _ HW1 HE1 hs).mono ?_
  rintro e w2 ⟨hF2, rfl⟩
  have HF2 := hide (HF1.out.trans hF2)
  have HW2 := hide (HW1.out.keep hF2 (fun h => h))
  have HE2 := hide (HE1.out.keep hF2 (fun h => h))
  have HP2 := hide (HP1.out.keep hF2 (fun h => h))
  clear hF2
  go_wp2_with fail
  refine (encode_any s value _ HW2 HE2 hs hv).mono ?_
  rintro e w3 ⟨hF3, rfl⟩
  have HF3 := hide (HF2.out.trans hF3)
  have HW3 := hide (HW2.out.keep hF3 (fun h => h))
  have HE3 := hide (HE2.out.keep hF3 (fun h => h))
  have HP3 := hide (HP2.out.keep hF3 (fun h => h))
  clear hF3
  go_wp2_with fail
  refine (decode_any s data _ HW3 HE3 HP3 hs hd).mono ?_
  rintro e w4 ⟨hF4, rfl⟩
  have HF4 := hide (HF3.out.trans hF4)
  have HW4 := hide (HW3.out.keep hF4 (fun h => h))
  have HE4 := hide (HE3.out.keep hF4 (fun h => h))
  have HP4 := hide (HP3.out.keep hF4 (fun h => h))
  clear hF4
  have em := emptyB
  by_cases hz : (checkP s).1 = 0
  · have hc := checkP_ok hz
    have HEB := hide (fun h => enc_back (s := s) (value := value) hc h)
    have HDB := hide (fun h => dec_back (s := s) (data := data) hc h)
    have hEe := enc_else (s := s) (value := value) hc
    have hDe := dec_else (s := s) (data := data) hc
    rw [hc]
    clear hz hc
    generalize encP s value = E at *
    generalize decP s data = D at *
    obtain ⟨m, e, ato⟩ := E
    obtain ⟨v, f, atd⟩ := D
    simp only at HEB HDB hEe hDe
    obtain ⟨hE6, hEm⟩ := hEe
    obtain ⟨hD5, hDv⟩ := hDe
    have n6 : (((e : Nat) : Int) == 6) = false := beq_eq_false_iff_ne.2 (by omega)
    have n5 : (((f : Nat) : Int) == 5) = false := beq_eq_false_iff_ne.2 (by omega)
    have n6' : (((e : Nat) : Int) != 6) = true := by simp [bne, n6]
    have n5' : (((f : Nat) : Int) != 5) = true := by simp [bne, n5]
    by_cases h0 : e = 0
    · subst h0
      obtain ⟨hB, hsz⟩ := HEB.out rfl
      have HB := hide hB
      have HSZ := hide hsz
      clear hB hsz HEB hEm hE6
      go_wp2_with fail
      refine (decode_any s m _ HW4 HE4 HP4 hs (by have := HSZ.out; unfold maxLen; omega)).mono ?_
      rw [HB.out]
      rintro en w5 ⟨hF5, rfl⟩
      have HF5 := hide (HF4.out.trans hF5)
      have HW5 := hide (HW4.out.keep hF5 (fun h => h))
      have HE5 := hide (HE4.out.keep hF5 (fun h => h))
      clear hF5
      have sv := sameB value
      by_cases h1 : f = 0
      · subst h1
        obtain ⟨hB2, hsz2⟩ := HDB.out rfl
        have HB2 := hide hB2
        have HSZ2 := hide hsz2
        clear hB2 hsz2 HDB hDv hD5
        go_wp2_with fail
        refine (encode_any s v _ HW5 HE5 hs (by have := HSZ2.out; omega)).mono ?_
        rw [HB2.out]
        rintro en w6 ⟨hF6, rfl⟩
        have HF6 := hide (HF5.out.trans hF6)
        clear hF6
        have sd := sameB data
        go_wp2_with fail
        go_ret
        exact ⟨rfl, HF6⟩
      · have hv0 : v = ⟨#[]⟩ := by
          rcases hDv with h | h
          · exact absurd h h1
          · exact h
        subst hv0
        have n0 : (((f : Nat) : Int) == 0) = false := beq_eq_false_iff_ne.2 (by omega)
        clear HDB hDv hD5 h1
        go_wp2_with fail
        go_ret
        exact ⟨rfl, HF5⟩
    · have hm0 : m = ⟨#[]⟩ := by
        rcases hEm with h | h
        · exact absurd h h0
        · exact h
      subst hm0
      have z0 : (((e : Nat) : Int) == 0) = false := beq_eq_false_iff_ne.2 (by omega)
      clear HEB hEm hE6 h0
      by_cases h1 : f = 0
      · subst h1
        obtain ⟨hB2, hsz2⟩ := HDB.out rfl
        have HB2 := hide hB2
        have HSZ2 := hide hsz2
        clear hB2 hsz2 HDB hDv hD5
        go_wp2_with fail
        refine (encode_any s v _ HW4 HE4 hs (by have := HSZ2.out; omega)).mono ?_
        rw [HB2.out]
        rintro en w6 ⟨hF6, rfl⟩
        have HF6 := hide (HF4.out.trans hF6)
        clear hF6
        have sd := sameB data
        go_wp2_with fail
        go_ret
        exact ⟨rfl, HF6⟩
      · have hv0 : v = ⟨#[]⟩ := by
          rcases hDv with h | h
          · exact absurd h h1
          · exact h
        subst hv0
        have n0 : (((f : Nat) : Int) == 0) = false := beq_eq_false_iff_ne.2 (by omega)
        clear HDB hDv hD5 h1
        go_wp2_with fail
        go_ret
        exact ⟨rfl, HF4⟩
  · have hE : encP s value = (⟨#[]⟩, (checkP s).1, (checkP s).2) := by unfold encP; rw [if_neg hz]
    have hD : decP s data = (⟨#[]⟩, (checkP s).1, (checkP s).2) := by unfold decP; rw [if_neg hz]
    rw [hE, hD]
    clear hE hD
    generalize checkP s = c at *
    have hzb : (((c.1 : Nat) : Int) == 0) = false := beq_eq_false_iff_ne.2 (by omega)
    have q1 : (((c.1 : Nat) : Int) == (c.1 : Int)) = true := by simp
    have q2 : (((c.2 : Nat) : Int) == (c.2 : Int)) = true := by simp
    clear hz
    go_wp2_with fail
    go_ret
    exact ⟨rfl, HF4⟩

end Go.Proofs.YtnhkalnihjkoeaaGreatDoor
