/- What the parser's letters tells, and where it stands then. -/
import Derived.Test.YtapblkmlhoalgaaGreatDoorBase
namespace Go.Proofs.YtapblkmlhoalgaaGreatDoor
open Go.RowKit

/-- Behind at most k letters from n on. -/
def lettersTo (s : ByteArray) (n : Nat) : Nat → Nat
  | 0 => n
  | k + 1 => if 97 ≤ byteAt s n ∧ byteAt s n ≤ 122 then lettersTo s (n + 1) k else n

theorem lettersTo_ge (s : ByteArray) (k : Nat) : ∀ n, n ≤ lettersTo s n k := by
  induction k with
  | zero => intro n; exact Nat.le_refl _
  | succ k ih =>
    intro n
    unfold lettersTo
    split
    · exact Nat.le_trans (Nat.le_succ n) (ih (n + 1))
    · exact Nat.le_refl _
theorem lettersTo_le (s : ByteArray) (k : Nat) : ∀ n, n ≤ s.size → lettersTo s n k ≤ s.size := by
  induction k with
  | zero => intro n h; exact h
  | succ k ih =>
    intro n h
    unfold lettersTo
    split
    · rename_i hc
      have : n < s.size := byteAt_in (by omega)
      exact ih (n + 1) (by omega)
    · exact h
theorem lettersTo_more (s : ByteArray) (n k : Nat) (h : 97 ≤ byteAt s n ∧ byteAt s n ≤ 122) : lettersTo s n (k + 1) = lettersTo s (n + 1) k := by
  rw [lettersTo, if_pos h]
theorem lettersTo_stop (s : ByteArray) (n k : Nat) (h : ¬ (97 ≤ byteAt s n ∧ byteAt s n ≤ 122)) : lettersTo s n k = n := by
  cases k with
  | zero => rfl
  | succ k => rw [lettersTo, if_neg h]

set_option maxHeartbeats 1000000 in
theorem letters_any {w : World} {pb : Nat} {s : ByteArray} {n : Nat} {lv bn td : Value} (hP : PB w pb s n lv bn td) (hs : s.size ≤ maxLen) (hle : n ≤ s.size) :
    Calls Tryz.prog 252 #[.pointer (some ⟨pb, 0, none⟩)] w fun e w' => e = .returned (.string (s.extract n (lettersTo s n 6))) ∧ PB w' pb s (lettersTo s n 6) lv bn td ∧ Fr (One pb) w w' := by
  have h0 := hP.at0
  have HP := hide hP
  clear hP
  go_enter Tryz.func252, Tryz.ntmps252
  go_wp2_with fail
  refine (at_any pb n _ h0).mono ?_
  rintro e w1 ⟨rfl, hw⟩
  obtain rfl := hw.symm
  clear h0
  go_wp2_with fail
  go_loopw [11] (fun i wr => ∃ k m : Nat, k ≤ 6 ∧ i = .int .i64 k ∧ n ≤ m ∧ m ≤ s.size ∧ Hid (lettersTo s n 6 = lettersTo s m (6 - k)) ∧ Hid (PB wr pb s m lv bn td) ∧ Hid (Fr (One pb) w wr)) (fun i _ => 6 - (intOf i).toNat)
  case atStart => exact ⟨0, n, by omega, rfl, Nat.le_refl _, hle, rfl, HP, Fr.refl _ _⟩
  case round =>
    obtain ⟨k, m, hk, rfl, hnm, hm, HL, HPr, HF⟩ := hrel
    by_cases hlt : k < 6
    · by_cases hc : 97 ≤ byteAt s m ∧ byteAt s m ≤ 122
      · have HC := hide hc
        clear hc
        go_wp2_with fail
        refine (pAcceptIn_yes HPr hs 97 122 (by have := HC.out; omega) (by have := HC.out; omega) (by omega)).mono ?_
        rintro e w2 ⟨rfl, hP2, hF2⟩
        have HP2 := hide hP2
        have HF2 := hide (Fr.trans HF hF2)
        clear hP2 hF2
        go_wp2_with fail
        go_roundw
        case rel =>
          have hm1 : m < s.size := byteAt_in (by have := HC.out; omega)
          have HL2 : lettersTo s m (6 - k) = lettersTo s (m + 1) (6 - (k + 1)) := by rw [show 6 - k = (6 - (k + 1)) + 1 by omega]; exact lettersTo_more s m _ HC
          exact ⟨k + 1, m + 1, by omega, by go_num, by omega, by omega, HL.out.trans HL2, HP2, HF2⟩
        case measure => simp [intOf]; omega
      · have HC := hide hc
        clear hc
        go_wp2_with fail
        refine (pAcceptIn_no HPr hs hm 97 122 (by have := HC.out; omega)).mono ?_
        rintro e w2 ⟨rfl, hP2, hF2⟩
        have HP2 := hide hP2
        have HF2 := hide (Fr.trans HF hF2)
        clear hP2 hF2
        have HE : Hid (lettersTo s n 6 = m) := HL.out.trans (lettersTo_stop s m _ HC)
        go_wp2_with fail
        refine (pSince HP2 hs n hnm hm).mono ?_
        rintro e w3 ⟨rfl, hP3, hF3⟩
        have HP3 := hide hP3
        have HF3 := hide (Fr.trans HF2 hF3)
        clear hP3 hF3
        go_wp2_with fail
        go_ret
        rw [HE.out]
        exact ⟨rfl, HP3, HF3⟩
    · have hk6 : k = 6 := by omega
      subst hk6
      have HE : Hid (lettersTo s n 6 = m) := HL.out.trans rfl
      go_wp2_with fail
      refine (pSince HPr hs n hnm hm).mono ?_
      rintro e w3 ⟨rfl, hP3, hF3⟩
      have HP3 := hide hP3
      have HF3 := hide (Fr.trans HF hF3)
      clear hP3 hF3
      go_wp2_with fail
      go_ret
      rw [HE.out]
      exact ⟨rfl, HP3, HF3⟩

end Go.Proofs.YtapblkmlhoalgaaGreatDoor
