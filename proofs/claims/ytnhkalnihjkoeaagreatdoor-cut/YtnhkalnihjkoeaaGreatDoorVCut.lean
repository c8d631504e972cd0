/- What Cut tells. -/
import Derived.Test.YtnhkalnihjkoeaaGreatDoorVLaw
import Derived.Test.YtnhkalnihjkoeaaGreatDoorVLoc
namespace Go.Proofs.YtnhkalnihjkoeaaGreatDoor
open Go.RowKit

/-! ### The places -/

theorem loc_cut {α : Type} {rd : Bs → Option α × Bs} (h : Loc rd) {l : Bs} (hr : (rd l).2 ≠ []) (c : UInt8) :
    ∃ b, l[l.length - (rd l).2.length]? = some b ∧ rd (l.take (l.length - (rd l).2.length) ++ [b, c]) = ((rd l).1, [b, c]) ∧ (rd (l.take (l.length - (rd l).2.length))).2 = [] := by
  obtain ⟨pre, h1, h2, h3⟩ := h l
  rcases hq : (rd l).2 with _ | ⟨b, r'⟩
  · exact absurd hq hr
  have hl : l.length = pre.length + (r'.length + 1) := by
    have := congrArg List.length h1
    rw [hq, List.length_append, List.length_cons] at this
    exact this
  have hn : l.length - (b :: r').length = pre.length := by rw [List.length_cons]; omega
  have ht : l.take pre.length = pre := by
    conv => lhs; rw [h1]
    exact List.take_left
  rw [hn, ht]
  refine ⟨b, ?_, h2 b r' hq [c], h3⟩
  rw [h1, hq, List.getElem?_append_right (Nat.le_refl _), Nat.sub_self]
  rfl

theorem checkP_lt (s : ByteArray) : (checkP s).1 ≤ 4 := by
  unfold checkP
  split
  · simp
  · split
    · simp
    · split
      · simp
      · split <;> simp

/-- One byte as a text. -/
def oneS (c : UInt8) : ByteArray := ⟨#[c]⟩

theorem pos_le {s : ByteArray} {l : Bs} : pos s l ≤ s.size := Nat.sub_le _ _

theorem enc_cut {s value : ByteArray} {m : ByteArray} {at_ : Nat} (h : encP s value = (m, 5, at_)) (hlt : at_ < value.size) (c : UInt8) :
    encP s (value.extract 0 (at_ + 1) ++ oneS c) = (⟨#[]⟩, 5, at_) ∧ ((encP s (value.extract 0 at_)).2.1 = 0 ∨ (encP s (value.extract 0 at_)).2.1 = 1 ∨ encP s (value.extract 0 at_) = (⟨#[]⟩, 5, at_)) := by
  have hc : (checkP s).1 = 0 := by
    by_cases h' : (checkP s).1 = 0
    · exact h'
    · unfold encP at h
      rw [if_neg h'] at h
      have := checkP_lt s
      have h5 : (checkP s).1 = 5 := congrArg (fun x => x.2.1) h
      omega
  have hE : ∀ v, encP s v = encR s v (rText 12 (typeP s) v.data.toList) := fun v => by unfold encP; rw [if_pos hc]
  rw [hE] at h
  have hno : ¬ ∃ v, rText 12 (typeP s) value.data.toList = (some v, []) := fun ⟨v, hv⟩ => by
    rw [hv] at h
    simp only [encR] at h
    split at h <;> simp at h
  rw [encR_no hno] at h
  have hat : pos value (rText 12 (typeP s) value.data.toList).2 = at_ := congrArg (fun x => x.2.2) h
  have hlen : value.data.toList.length = value.size := by rw [Array.length_toList]; rfl
  have hr : (rText 12 (typeP s) value.data.toList).2 ≠ [] := fun e => by
    rw [e] at hat
    simp [pos] at hat
    omega
  obtain ⟨b, g1, g2, g3⟩ := loc_cut (rText_loc 12 (typeP s)) hr c
  have hp : value.data.toList.length - (rText 12 (typeP s) value.data.toList).2.length = at_ := by rw [hlen]; exact hat
  rw [hp] at g1 g2 g3
  have hx : (value.extract 0 (at_ + 1) ++ oneS c).data.toList = value.data.toList.take at_ ++ [b, c] := by
    rw [ByteArray.data_append, Array.toList_append, ByteArray.data_extract, Array.toList_extract, List.extract_eq_take_drop]
    obtain ⟨hb, he⟩ := List.getElem?_eq_some_iff.1 g1
    simp only [List.drop_zero, Nat.sub_zero]
    rw [List.take_succ_eq_append_getElem hb, he]
    simp [oneS]
  have hy : (value.extract 0 at_).data.toList = value.data.toList.take at_ := by
    rw [ByteArray.data_extract, Array.toList_extract, List.extract_eq_take_drop]
    simp
  have hsx : (value.extract 0 (at_ + 1) ++ oneS c).size = at_ + 2 := by
    have := congrArg List.length hx
    rw [Array.length_toList, List.length_append, List.length_take] at this
    have e : (value.extract 0 (at_ + 1) ++ oneS c).size = (value.extract 0 (at_ + 1) ++ oneS c).data.size := rfl
    rw [e, this]
    simp
    omega
  have hsy : (value.extract 0 at_).size = at_ := by
    have := congrArg List.length hy
    rw [Array.length_toList, List.length_take] at this
    have e : (value.extract 0 at_).size = (value.extract 0 at_).data.size := rfl
    rw [e, this]
    omega
  constructor
  · rw [hE, hx, g2, encR_no (fun ⟨v, hv⟩ => by have := congrArg Prod.snd hv; simp at this)]
    simp only [pos, hsx]
    simp
  · rw [hE, hy]
    rcases hq : rText 12 (typeP s) (value.data.toList.take at_) with ⟨_ | v, r⟩
    · rw [hq] at g3
      simp only at g3
      subst g3
      right; right
      rw [encR_no (by rintro ⟨v, hv⟩; cases hv)]
      simp only [pos, hsy]
      simp
    · rw [hq] at g3
      simp only at g3
      subst g3
      simp only [encR]
      split
      · left; rfl
      · right; left; rfl
theorem dec_cut {s data : ByteArray} {m : ByteArray} {at_ : Nat} (h : decP s data = (m, 6, at_)) (hlt : at_ < data.size) (c : UInt8) :
    ((decP s (data.extract 0 (at_ + 1) ++ oneS c)).2.1 = 1 ∨ decP s (data.extract 0 (at_ + 1) ++ oneS c) = (⟨#[]⟩, 6, at_)) ∧ ((decP s (data.extract 0 at_)).2.1 = 0 ∨ decP s (data.extract 0 at_) = (⟨#[]⟩, 6, at_)) := by
  have hc : (checkP s).1 = 0 := by
    by_cases h' : (checkP s).1 = 0
    · exact h'
    · unfold decP at h
      rw [if_neg h'] at h
      have := checkP_lt s
      have h5 : (checkP s).1 = 6 := congrArg (fun x => x.2.1) h
      omega
  have hE : ∀ v, decP s v = if v.size ≤ 1000 then decR v (rMsg 12 (typeP s) v.data.toList) else (⟨#[]⟩, 1, 0) := fun v => by unfold decP; rw [if_pos hc]
  have hsz : data.size ≤ 1000 := by
    by_cases h' : data.size ≤ 1000
    · exact h'
    · rw [hE, if_neg h'] at h
      have := congrArg (fun x => x.2.1) h
      simp at this
  rw [hE, if_pos hsz] at h
  have hno : ¬ ∃ v, rMsg 12 (typeP s) data.data.toList = (some v, []) := fun ⟨v, hv⟩ => by
    rw [hv] at h
    simp [decR] at h
  rw [decR_no hno] at h
  have hat : pos data (rMsg 12 (typeP s) data.data.toList).2 = at_ := congrArg (fun x => x.2.2) h
  have hlen : data.data.toList.length = data.size := by rw [Array.length_toList]; rfl
  have hr : (rMsg 12 (typeP s) data.data.toList).2 ≠ [] := fun e => by
    rw [e] at hat
    simp [pos] at hat
    omega
  obtain ⟨b, g1, g2, g3⟩ := loc_cut (rMsg_loc 12 (typeP s)) hr c
  have hp : data.data.toList.length - (rMsg 12 (typeP s) data.data.toList).2.length = at_ := by rw [hlen]; exact hat
  rw [hp] at g1 g2 g3
  have hx : (data.extract 0 (at_ + 1) ++ oneS c).data.toList = data.data.toList.take at_ ++ [b, c] := by
    rw [ByteArray.data_append, Array.toList_append, ByteArray.data_extract, Array.toList_extract, List.extract_eq_take_drop]
    obtain ⟨hb, he⟩ := List.getElem?_eq_some_iff.1 g1
    simp only [List.drop_zero, Nat.sub_zero]
    rw [List.take_succ_eq_append_getElem hb, he]
    simp [oneS]
  have hy : (data.extract 0 at_).data.toList = data.data.toList.take at_ := by
    rw [ByteArray.data_extract, Array.toList_extract, List.extract_eq_take_drop]
    simp
  have hsx : (data.extract 0 (at_ + 1) ++ oneS c).size = at_ + 2 := by
    have := congrArg List.length hx
    rw [Array.length_toList, List.length_append, List.length_take] at this
    have e : (data.extract 0 (at_ + 1) ++ oneS c).size = (data.extract 0 (at_ + 1) ++ oneS c).data.size := rfl
    rw [e, this]
    simp
    omega
  have hsy : (data.extract 0 at_).size = at_ := by
    have := congrArg List.length hy
    rw [Array.length_toList, List.length_take] at this
    have e : (data.extract 0 at_).size = (data.extract 0 at_).data.size := rfl
    rw [e, this]
    omega
  constructor
  · rw [hE]
    by_cases h2 : (data.extract 0 (at_ + 1) ++ oneS c).size ≤ 1000
    · right
      rw [if_pos h2, hx, g2, decR_no (fun ⟨v, hv⟩ => by have := congrArg Prod.snd hv; simp at this)]
      simp only [pos, hsx]
      simp
    · left
      rw [if_neg h2]
  · rw [hE, if_pos (by omega), hy]
    rcases hq : rMsg 12 (typeP s) (data.data.toList.take at_) with ⟨_ | v, r⟩
    · rw [hq] at g3
      simp only at g3
      subst g3
      right
      rw [decR_no (by rintro ⟨v, hv⟩; cases hv)]
      simp only [pos, hsy]
      simp
    · rw [hq] at g3
      simp only at g3
      subst g3
      left
      rfl

theorem dec_size {s data : ByteArray} {m : ByteArray} {a : Nat} (h : decP s data = (m, 6, a)) : data.size ≤ 1000 := by
  by_cases h' : data.size ≤ 1000
  · exact h'
  · unfold decP at h
    split at h
    · have := congrArg (fun x => x.2.1) h
      simp at this
    · have := checkP_lt s
      have h5 : (checkP s).1 = 6 := congrArg (fun x => x.2.1) h
      omega

/-! ### The walk -/

theorem pick_any (c n : Int) (hn : 0 < n) (hn2 : n ≤ 9223372036854775807) (hc : -9223372036854775808 ≤ c) (hc2 : c ≤ 9223372036854775807) (w : World) :
    Calls Tryz.prog 19 #[.int .i64 c, .int .i64 n] w fun e w' => w' = w ∧ ∃ k : Nat, (k : Int) < n ∧ e = .returned (.int .i64 k) := by
  have hz : (n == 0) = false := beq_eq_false_iff_ne.2 (by omega)
  by_cases h : c < 0
  · obtain ⟨k, e1, e2⟩ : ∃ k : Nat, (-(c + 1).tmod n) = (k : Int) ∧ (k : Int) < n := by
      refine ⟨((-(c + 1)) % n).toNat, ?_, ?_⟩
      · rw [← Int.neg_tmod, Int.tmod_eq_emod_of_nonneg (by omega), Int.toNat_of_nonneg (Int.emod_nonneg _ (by omega))]
      · rw [Int.toNat_of_nonneg (Int.emod_nonneg _ (by omega))]
        exact Int.emod_lt_of_pos _ hn
    go_enter Tryz.func19, Tryz.ntmps19
    go_wp2_with fail
    go_ret
    exact ⟨rfl, k, e2, rfl⟩
  · obtain ⟨k, e1, e2⟩ : ∃ k : Nat, c % n = (k : Int) ∧ (k : Int) < n := by
      refine ⟨(c % n).toNat, ?_, ?_⟩
      · rw [Int.toNat_of_nonneg (Int.emod_nonneg _ (by omega))]
      · rw [Int.toNat_of_nonneg (Int.emod_nonneg _ (by omega))]
        exact Int.emod_lt_of_pos _ hn
    go_enter Tryz.func19, Tryz.ntmps19
    go_wp2_with fail
    go_ret
    exact ⟨rfl, k, e2, rfl⟩

theorem conv_one (w : World) (c : UInt8) : (convert 32 9 (.slice (some ⟨w.heap.size, 0, none⟩) 1 1)).run Tryz.prog (w.alloc (.cells #[.int .u8 c.toNat] 5)) = .ok (.string (oneS c)) (w.alloc (.cells #[.int .u8 c.toNat] 5)) :=
  run_convert_bytes_back (P := Tryz.prog) _ 32 9 5 ⟨w.heap.size, 0, none⟩ 1 [c] Tryz.underlying32 Tryz.underlying5 Tryz.underlying9 (fun j hj => by
    simp only [List.length_cons, List.length_nil] at hj
    have : j = 0 := by omega
    subst this
    simp [Addr.add])

set_option maxHeartbeats 8000000 in
set_option maxRecDepth 100000 in
theorem cut_any (s value data : ByteArray) (more : Int) (w : World) (hw : Words w) (het : ErrT w) (hpt : PowT w) (hs : s.size ≤ maxLen) (hv : value.size ≤ 140737488351232) (hd : data.size ≤ maxLen) (hm : -9223372036854775808 ≤ more) (hm2 : more ≤ 9223372036854775807) :
    Calls Tryz.prog 6 #[.string s, .string value, .string data, .int .i64 more] w fun e w' => e = .returned (.bool true) ∧ Fr Zero w w' := by
  have HW := hide hw
  have HE := hide het
  have HP := hide hpt
  clear hw het hpt
  go_enter Tryz.func6, Tryz.ntmps6
  go_wp2_with fail
  refine (awake_any _ HW HE HP).mono ?_
  rintro e w1 ⟨hF1, rfl⟩
  have HF1 := hide hF1
  have HW1 := hide (HW.out.keep hF1 (fun h => h))
  have HE1 := hide (HE.out.keep hF1 (fun h => h))
  have HP1 := hide (HP.out.keep hF1 (fun h => h))
  clear hF1
  go_wp2_with fail
  refine (pick_any more 256 (by omega) (by omega) hm hm2 _).mono ?_
  rintro e w2 ⟨e2, k, hk, rfl⟩
  obtain rfl := e2.symm
  obtain ⟨c, hc⟩ : ∃ c : UInt8, c.toNat = k := ⟨UInt8.ofNat k, toNat_ofNat (by omega)⟩
  subst hc
  have hcv := conv_one w1 c
  have HF2 : Hid (Fr Zero w (w1.alloc (.cells #[.int .u8 c.toNat] 5))) := HF1.out.trans (Fr.alloc _ _ _)
  have HW2 : Hid (Words (w1.alloc (.cells #[.int .u8 c.toNat] 5))) := HW1.out.keep (Fr.alloc Zero _ _) (fun h => h)
  have HE2 : Hid (ErrT (w1.alloc (.cells #[.int .u8 c.toNat] 5))) := HE1.out.keep (Fr.alloc Zero _ _) (fun h => h)
  have HP2 : Hid (PowT (w1.alloc (.cells #[.int .u8 c.toNat] 5))) := HP1.out.keep (Fr.alloc Zero _ _) (fun h => h)
  go_wp2_with fail
  refine (encode_any s value _ HW2 HE2 hs (by omega)).mono ?_
  rintro e w3 ⟨hF3, rfl⟩
  have HF3 := hide (HF2.out.trans hF3)
  have HW3 := hide (HW2.out.keep hF3 (fun h => h))
  have HE3 := hide (HE2.out.keep hF3 (fun h => h))
  have HP3 := hide (HP2.out.keep hF3 (fun h => h))
  clear hF3 hcv
  rcases hq : encP s value with ⟨m, er, at_⟩
  by_cases hc1 : er = 5 ∧ at_ < value.size
  · obtain ⟨rfl, hlt⟩ := hc1
    obtain ⟨k1, k2⟩ := enc_cut hq hlt c
    have K1 := hide k1
    have K2 := hide k2
    clear k1 k2 hq
    have hI : (at_ : Int) < (value.size : Int) := by omega
    have hsm : ¬ 9223372036854775807 < min (at_ + 1) value.size + (oneS c).size := by have : (oneS c).size = 1 := rfl; omega
    have hx : (value.extract 0 (at_ + 1) ++ oneS c).size ≤ 140737488355328 := by rw [ByteArray.size_append, ByteArray.size_extract]; have : (oneS c).size = 1 := rfl; omega
    have hy : (value.extract 0 at_).size ≤ 140737488355328 := by rw [ByteArray.size_extract]; omega
    have HX := hide hx
    have HY := hide hy
    clear hx hy
    go_wp2_with fail
    refine (encode_any s (value.extract 0 (at_ + 1) ++ oneS c) _ HW3 HE3 hs HX).mono ?_
    rw [K1.out]
    rintro e w4 ⟨hF4, rfl⟩
    have HF4 := hide (HF3.out.trans hF4)
    have HW4 := hide (HW3.out.keep hF4 (fun h => h))
    have HE4 := hide (HE3.out.keep hF4 (fun h => h))
    have HP4 := hide (HP3.out.keep hF4 (fun h => h))
    clear hF4
    go_wp2_with fail
    refine (encode_any s (value.extract 0 at_) _ HW4 HE4 hs HY).mono ?_
    rintro e w5 ⟨hF5, rfl⟩
    have HF5 := hide (HF4.out.trans hF5)
    have HW5 := hide (HW4.out.keep hF5 (fun h => h))
    have HE5 := hide (HE4.out.keep hF5 (fun h => h))
    have HP5 := hide (HP4.out.keep hF5 (fun h => h))
    clear hF5
    have hsame : ((at_ : Int) == (at_ : Int)) = true := by simp
    rcases K2.out with k2 | k2 | k2
    · rw [k2]
      clear k2
      go_wp2_with fail
      refine (decode_any s data _ HW5 HE5 HP5 hs hd).mono ?_
      rintro e u1 ⟨hG1, rfl⟩
      have HG1 := hide (HF5.out.trans hG1)
      have HX1 := hide (HW5.out.keep hG1 (fun h => h))
      have HY1 := hide (HE5.out.keep hG1 (fun h => h))
      have HZ1 := hide (HP5.out.keep hG1 (fun h => h))
      clear hG1
      rcases hq : decP s data with ⟨dm, dr, da⟩
      by_cases hc2 : dr = 6 ∧ da < data.size
      · obtain ⟨rfl, dlt⟩ := hc2
        obtain ⟨j1, j2⟩ := dec_cut hq dlt c
        have J1 := hide j1
        have J2 := hide j2
        have hdsz : data.size ≤ 1000 := dec_size hq
        clear j1 j2 hq
        have dI : (da : Int) < (data.size : Int) := by omega
        have dsm : ¬ 9223372036854775807 < min (da + 1) data.size + (oneS c).size := by have : (oneS c).size = 1 := rfl; omega
        have dx : (data.extract 0 (da + 1) ++ oneS c).size ≤ maxLen := by rw [ByteArray.size_append, ByteArray.size_extract]; have : (oneS c).size = 1 := rfl; unfold maxLen; omega
        have dy : (data.extract 0 da).size ≤ maxLen := by rw [ByteArray.size_extract]; unfold maxLen; omega
        have DX := hide dx
        have DY := hide dy
        clear dx dy hdsz
        go_wp2_with fail
        refine (decode_any s (data.extract 0 (da + 1) ++ oneS c) _ HX1 HY1 HZ1 hs DX).mono ?_
        rintro e u2 ⟨hG2, rfl⟩
        have HG2 := hide (HG1.out.trans hG2)
        have HX2 := hide (HX1.out.keep hG2 (fun h => h))
        have HY2 := hide (HY1.out.keep hG2 (fun h => h))
        have HZ2 := hide (HZ1.out.keep hG2 (fun h => h))
        clear hG2
        go_wp2_with fail
        refine (decode_any s (data.extract 0 da) _ HX2 HY2 HZ2 hs DY).mono ?_
        rintro e u3 ⟨hG3, rfl⟩
        have HG3 := hide (HG2.out.trans hG3)
        clear hG3
        have dsame : ((da : Int) == (da : Int)) = true := by simp
        rcases J1.out with j1 | j1 <;> rcases J2.out with j2 | j2 <;> rw [j1, j2] <;> clear j1 j2
        all_goals
          go_wp2_with fail
          go_ret
          exact ⟨rfl, HG3⟩
      · by_cases h6 : dr = 6
        · subst h6
          have dI : ¬ (da : Int) < (data.size : Int) := by omega
          clear hc2 hq
          go_wp2_with fail
          go_ret
          exact ⟨rfl, HG1⟩
        · have dz : (((dr : Nat) : Int) == 6) = false := beq_eq_false_iff_ne.2 (by omega)
          clear hc2 hq h6
          go_wp2_with fail
          go_ret
          exact ⟨rfl, HG1⟩
    · rw [k2]
      clear k2
      go_wp2_with fail
      refine (decode_any s data _ HW5 HE5 HP5 hs hd).mono ?_
      rintro e u1 ⟨hG1, rfl⟩
      have HG1 := hide (HF5.out.trans hG1)
      have HX1 := hide (HW5.out.keep hG1 (fun h => h))
      have HY1 := hide (HE5.out.keep hG1 (fun h => h))
      have HZ1 := hide (HP5.out.keep hG1 (fun h => h))
      clear hG1
      rcases hq : decP s data with ⟨dm, dr, da⟩
      by_cases hc2 : dr = 6 ∧ da < data.size
      · obtain ⟨rfl, dlt⟩ := hc2
        obtain ⟨j1, j2⟩ := dec_cut hq dlt c
        have J1 := hide j1
        have J2 := hide j2
        have hdsz : data.size ≤ 1000 := dec_size hq
        clear j1 j2 hq
        have dI : (da : Int) < (data.size : Int) := by omega
        have dsm : ¬ 9223372036854775807 < min (da + 1) data.size + (oneS c).size := by have : (oneS c).size = 1 := rfl; omega
        have dx : (data.extract 0 (da + 1) ++ oneS c).size ≤ maxLen := by rw [ByteArray.size_append, ByteArray.size_extract]; have : (oneS c).size = 1 := rfl; unfold maxLen; omega
        have dy : (data.extract 0 da).size ≤ maxLen := by rw [ByteArray.size_extract]; unfold maxLen; omega
        have DX := hide dx
        have DY := hide dy
        clear dx dy hdsz
        go_wp2_with fail
        refine (decode_any s (data.extract 0 (da + 1) ++ oneS c) _ HX1 HY1 HZ1 hs DX).mono ?_
        rintro e u2 ⟨hG2, rfl⟩
        have HG2 := hide (HG1.out.trans hG2)
        have HX2 := hide (HX1.out.keep hG2 (fun h => h))
        have HY2 := hide (HY1.out.keep hG2 (fun h => h))
        have HZ2 := hide (HZ1.out.keep hG2 (fun h => h))
        clear hG2
        go_wp2_with fail
        refine (decode_any s (data.extract 0 da) _ HX2 HY2 HZ2 hs DY).mono ?_
        rintro e u3 ⟨hG3, rfl⟩
        have HG3 := hide (HG2.out.trans hG3)
        clear hG3
        have dsame : ((da : Int) == (da : Int)) = true := by simp
        rcases J1.out with j1 | j1 <;> rcases J2.out with j2 | j2 <;> rw [j1, j2] <;> clear j1 j2
        all_goals
          go_wp2_with fail
          go_ret
          exact ⟨rfl, HG3⟩
      · by_cases h6 : dr = 6
        · subst h6
          have dI : ¬ (da : Int) < (data.size : Int) := by omega
          clear hc2 hq
          go_wp2_with fail
          go_ret
          exact ⟨rfl, HG1⟩
        · have dz : (((dr : Nat) : Int) == 6) = false := beq_eq_false_iff_ne.2 (by omega)
          clear hc2 hq h6
          go_wp2_with fail
          go_ret
          exact ⟨rfl, HG1⟩
    · rw [k2]
      clear k2
      go_wp2_with fail
      refine (decode_any s data _ HW5 HE5 HP5 hs hd).mono ?_
      rintro e u1 ⟨hG1, rfl⟩
      have HG1 := hide (HF5.out.trans hG1)
      have HX1 := hide (HW5.out.keep hG1 (fun h => h))
      have HY1 := hide (HE5.out.keep hG1 (fun h => h))
      have HZ1 := hide (HP5.out.keep hG1 (fun h => h))
      clear hG1
      rcases hq : decP s data with ⟨dm, dr, da⟩
      by_cases hc2 : dr = 6 ∧ da < data.size
      · obtain ⟨rfl, dlt⟩ := hc2
        obtain ⟨j1, j2⟩ := dec_cut hq dlt c
        have J1 := hide j1
        have J2 := hide j2
        have hdsz : data.size ≤ 1000 := dec_size hq
        clear j1 j2 hq
        have dI : (da : Int) < (data.size : Int) := by omega
        have dsm : ¬ 9223372036854775807 < min (da + 1) data.size + (oneS c).size := by have : (oneS c).size = 1 := rfl; omega
        have dx : (data.extract 0 (da + 1) ++ oneS c).size ≤ maxLen := by rw [ByteArray.size_append, ByteArray.size_extract]; have : (oneS c).size = 1 := rfl; unfold maxLen; omega
        have dy : (data.extract 0 da).size ≤ maxLen := by rw [ByteArray.size_extract]; unfold maxLen; omega
        have DX := hide dx
        have DY := hide dy
        clear dx dy hdsz
        go_wp2_with fail
        refine (decode_any s (data.extract 0 (da + 1) ++ oneS c) _ HX1 HY1 HZ1 hs DX).mono ?_
        rintro e u2 ⟨hG2, rfl⟩
        have HG2 := hide (HG1.out.trans hG2)
        have HX2 := hide (HX1.out.keep hG2 (fun h => h))
        have HY2 := hide (HY1.out.keep hG2 (fun h => h))
        have HZ2 := hide (HZ1.out.keep hG2 (fun h => h))
        clear hG2
        go_wp2_with fail
        refine (decode_any s (data.extract 0 da) _ HX2 HY2 HZ2 hs DY).mono ?_
        rintro e u3 ⟨hG3, rfl⟩
        have HG3 := hide (HG2.out.trans hG3)
        clear hG3
        have dsame : ((da : Int) == (da : Int)) = true := by simp
        rcases J1.out with j1 | j1 <;> rcases J2.out with j2 | j2 <;> rw [j1, j2] <;> clear j1 j2
        all_goals
          go_wp2_with fail
          go_ret
          exact ⟨rfl, HG3⟩
      · by_cases h6 : dr = 6
        · subst h6
          have dI : ¬ (da : Int) < (data.size : Int) := by omega
          clear hc2 hq
          go_wp2_with fail
          go_ret
          exact ⟨rfl, HG1⟩
        · have dz : (((dr : Nat) : Int) == 6) = false := beq_eq_false_iff_ne.2 (by omega)
          clear hc2 hq h6
          go_wp2_with fail
          go_ret
          exact ⟨rfl, HG1⟩
  · by_cases h5 : er = 5
    · subst h5
      have eI : ¬ (at_ : Int) < (value.size : Int) := by omega
      clear hc1 hq
      go_wp2_with fail
      refine (decode_any s data _ HW3 HE3 HP3 hs hd).mono ?_
      rintro e u1 ⟨hG1, rfl⟩
      have HG1 := hide (HF3.out.trans hG1)
      have HX1 := hide (HW3.out.keep hG1 (fun h => h))
      have HY1 := hide (HE3.out.keep hG1 (fun h => h))
      have HZ1 := hide (HP3.out.keep hG1 (fun h => h))
      clear hG1
      rcases hq : decP s data with ⟨dm, dr, da⟩
      by_cases hc2 : dr = 6 ∧ da < data.size
      · obtain ⟨rfl, dlt⟩ := hc2
        obtain ⟨j1, j2⟩ := dec_cut hq dlt c
        have J1 := hide j1
        have J2 := hide j2
        have hdsz : data.size ≤ 1000 := dec_size hq
        clear j1 j2 hq
        have dI : (da : Int) < (data.size : Int) := by omega
        have dsm : ¬ 9223372036854775807 < min (da + 1) data.size + (oneS c).size := by have : (oneS c).size = 1 := rfl; omega
        have dx : (data.extract 0 (da + 1) ++ oneS c).size ≤ maxLen := by rw [ByteArray.size_append, ByteArray.size_extract]; have : (oneS c).size = 1 := rfl; unfold maxLen; omega
        have dy : (data.extract 0 da).size ≤ maxLen := by rw [ByteArray.size_extract]; unfold maxLen; omega
        have DX := hide dx
        have DY := hide dy
        clear dx dy hdsz
        go_wp2_with fail
        refine (decode_any s (data.extract 0 (da + 1) ++ oneS c) _ HX1 HY1 HZ1 hs DX).mono ?_
        rintro e u2 ⟨hG2, rfl⟩
        have HG2 := hide (HG1.out.trans hG2)
        have HX2 := hide (HX1.out.keep hG2 (fun h => h))
        have HY2 := hide (HY1.out.keep hG2 (fun h => h))
        have HZ2 := hide (HZ1.out.keep hG2 (fun h => h))
        clear hG2
        go_wp2_with fail
        refine (decode_any s (data.extract 0 da) _ HX2 HY2 HZ2 hs DY).mono ?_
        rintro e u3 ⟨hG3, rfl⟩
        have HG3 := hide (HG2.out.trans hG3)
        clear hG3
        have dsame : ((da : Int) == (da : Int)) = true := by simp
        rcases J1.out with j1 | j1 <;> rcases J2.out with j2 | j2 <;> rw [j1, j2] <;> clear j1 j2
        all_goals
          go_wp2_with fail
          go_ret
          exact ⟨rfl, HG3⟩
      · by_cases h6 : dr = 6
        · subst h6
          have dI : ¬ (da : Int) < (data.size : Int) := by omega
          clear hc2 hq
          go_wp2_with fail
          go_ret
          exact ⟨rfl, HG1⟩
        · have dz : (((dr : Nat) : Int) == 6) = false := beq_eq_false_iff_ne.2 (by omega)
          clear hc2 hq h6
          go_wp2_with fail
          go_ret
          exact ⟨rfl, HG1⟩
    · have ez : (((er : Nat) : Int) == 5) = false := beq_eq_false_iff_ne.2 (by omega)
      clear hc1 hq h5
      go_wp2_with fail
      refine (decode_any s data _ HW3 HE3 HP3 hs hd).mono ?_
      rintro e u1 ⟨hG1, rfl⟩
      have HG1 := hide (HF3.out.trans hG1)
      have HX1 := hide (HW3.out.keep hG1 (fun h => h))
      have HY1 := hide (HE3.out.keep hG1 (fun h => h))
      have HZ1 := hide (HP3.out.keep hG1 (fun h => h))
      clear hG1
      rcases hq : decP s data with ⟨dm, dr, da⟩
      by_cases hc2 : dr = 6 ∧ da < data.size
      · obtain ⟨rfl, dlt⟩ := hc2
        obtain ⟨j1, j2⟩ := dec_cut hq dlt c
        have J1 := hide j1
        have J2 := hide j2
        have hdsz : data.size ≤ 1000 := dec_size hq
        clear j1 j2 hq
        have dI : (da : Int) < (data.size : Int) := by omega
        have dsm : ¬ 9223372036854775807 < min (da + 1) data.size + (oneS c).size := by have : (oneS c).size = 1 := rfl; omega
        have dx : (data.extract 0 (da + 1) ++ oneS c).size ≤ maxLen := by rw [ByteArray.size_append, ByteArray.size_extract]; have : (oneS c).size = 1 := rfl; unfold maxLen; omega
        have dy : (data.extract 0 da).size ≤ maxLen := by rw [ByteArray.size_extract]; unfold maxLen; omega
        have DX := hide dx
        have DY := hide dy
        clear dx dy hdsz
        go_wp2_with fail
        refine (decode_any s (data.extract 0 (da + 1) ++ oneS c) _ HX1 HY1 HZ1 hs DX).mono ?_
        rintro e u2 ⟨hG2, rfl⟩
        have HG2 := hide (HG1.out.trans hG2)
        have HX2 := hide (HX1.out.keep hG2 (fun h => h))
        have HY2 := hide (HY1.out.keep hG2 (fun h => h))
        have HZ2 := hide (HZ1.out.keep hG2 (fun h => h))
        clear hG2
        go_wp2_with fail
        refine (decode_any s (data.extract 0 da) _ HX2 HY2 HZ2 hs DY).mono ?_
        rintro e u3 ⟨hG3, rfl⟩
        have HG3 := hide (HG2.out.trans hG3)
        clear hG3
        have dsame : ((da : Int) == (da : Int)) = true := by simp
        rcases J1.out with j1 | j1 <;> rcases J2.out with j2 | j2 <;> rw [j1, j2] <;> clear j1 j2
        all_goals
          go_wp2_with fail
          go_ret
          exact ⟨rfl, HG3⟩
      · by_cases h6 : dr = 6
        · subst h6
          have dI : ¬ (da : Int) < (data.size : Int) := by omega
          clear hc2 hq
          go_wp2_with fail
          go_ret
          exact ⟨rfl, HG1⟩
        · have dz : (((dr : Nat) : Int) == 6) = false := beq_eq_false_iff_ne.2 (by omega)
          clear hc2 hq h6
          go_wp2_with fail
          go_ret
          exact ⟨rfl, HG1⟩

end Go.Proofs.YtnhkalnihjkoeaaGreatDoor
