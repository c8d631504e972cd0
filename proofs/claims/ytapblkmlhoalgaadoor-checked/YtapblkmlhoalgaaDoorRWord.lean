/- The other reader's word, wordKind and name. -/
import Derived.Test.YtapblkmlhoalgaaDoorRBase
namespace Go.Proofs.YtapblkmlhoalgaaDoor
open Go.RowKit

def isLetter (s : ByteArray) (n : Nat) : Bool := decide (97 ≤ byteAt s n ∧ byteAt s n ≤ 122)
/-- Are there more than six letters? -/
def tooMany (s : ByteArray) (n : Nat) : Bool := decide (lettersTo s n 6 = n + 6) && isLetter s (n + 6)
def wordN (s : ByteArray) (n : Nat) (bad : Bool) : Nat := if bad then n else lettersTo s n 6
def wordB (s : ByteArray) (n : Nat) (bad : Bool) : Bool := bad || tooMany s n || decide (lettersTo s n 6 = n)
def wordS (s : ByteArray) (n : Nat) (bad : Bool) : ByteArray := if bad then ByteArray.empty else if tooMany s n then ⟨#[]⟩ else nameAt s n

/-- Where the reader stands. -/
def placeD (db : Nat) (w : World) : Nat := match w.cell? ⟨db, 1, none⟩ with
  | some (.int _ q) => q.toNat
  | _ => 0
theorem DB.place {w : World} {db : Nat} {s : ByteArray} {n : Nat} {bad : Bool} {tv lv av rv : Value} (h : DB w db s n bad tv lv av rv) : placeD db w = n := by
  unfold placeD; rw [h.at1]; simp

set_option maxHeartbeats 4000000 in
theorem word_any {w : World} {db : Nat} {s : ByteArray} {n : Nat} {bad : Bool} {tv lv av rv : Value} (h : DB w db s n bad tv lv av rv) (hs : s.size ≤ maxLen) (hle : n ≤ s.size) :
    Calls Tryd.prog 25 #[.pointer (some ⟨db, 0, none⟩)] w fun e w' => e = .returned (.string (wordS s n bad)) ∧ Fr (One db) w w' ∧ DB w' db s (wordN s n bad) (wordB s n bad) tv lv av rv ∧ wordN s n bad ≤ s.size := by
  have hs' := hs
  unfold maxLen at hs'
  have h1 := h.at1
  cases bad with
  | true =>
    have h0 := h.at0
    have h6 := h.at6
    have f6 := h.free 6
    have HD := hide h
    clear h
    go_enter Tryd.func25, Tryd.ntmps25
    go_wp2_with fail
    refine wp_loop_rounds 1 ?_
    rw [rounds_succ]
    go_wp2_with fail
    go_quiet (fail)
    go_wp2_with fail
    have hnI : ((n : Nat) : Int) ≤ ((s.size : Nat) : Int) := by omega
    clear h0 h1 h6 f6
    have hD2 : DB ((w.drewN nq).setCell ⟨db, 6, none⟩ (.bool true)) db s n true tv lv av rv := (HD.out.drewN nq).set6 true
    have HF2 : Hid (Fr (One db) w ((w.drewN nq).setCell ⟨db, 6, none⟩ (.bool true))) := (Fr.refl _ _).trans ((Fr.drewN _ _ nq).trans (Fr.setCell _ _ _ _ (show One db db from rfl)))
    generalize (w.drewN nq).setCell ⟨db, 6, none⟩ (.bool true) = w2 at *
    have k0 := hD2.at0
    have k1 := hD2.at1
    have HD2 := hide hD2
    clear hD2
    go_quiet (fail)
    go_wp2_with fail
    go_ret
    exact ⟨rfl, HF2.out.trans (Fr.drewN _ _ _), HD2.out.drewN _, hle⟩
  | false =>
    have HD := hide h
    have hN : Hid (wordN s n false = lettersTo s n 6) := rfl
    have hLe := lettersTo_le s 6 n hle
    clear h
    go_enter Tryd.func25, Tryd.ntmps25
    go_wp2_with fail
    clear h1
    go_loopw [2] (fun v wr => v = .string ⟨#[]⟩ ∧ ∃ m : Nat, n ≤ m ∧ m ≤ n + 6 ∧ m ≤ s.size ∧ Hid (lettersTo s n 6 = lettersTo s m (6 - (m - n))) ∧ Hid (DB wr db s m false tv lv av rv) ∧ Hid (Fr (One db) w wr)) (fun _ wr => s.size + 1 - placeD db wr)
    case atStart => exact ⟨rfl, n, Nat.le_refl _, by omega, hle, by rw [Nat.sub_self]; rfl, HD, Fr.refl _ _⟩
    case round =>
      obtain ⟨rfl, m, hnm, hm6, hms, HL, HDr, HF⟩ := hrel
      have h0 := HDr.out.at0
      have h1 := HDr.out.at1
      have h6 := HDr.out.at6
      have f6 := HDr.out.free 6
      have f1 := HDr.out.free 1
      have HPL := hide HDr.out.place
      have hmI : ((n : Nat) : Int) ≤ ((m : Nat) : Int) := by omega
      by_cases hlt : m < s.size
      · have hltI : ((m : Nat) : Int) < ((s.size : Nat) : Int) := by omega
        have hb := byteAt_lt hlt
        by_cases ha : 97 ≤ s[m].toNat
        · have haI : (97 : Int) ≤ ((s[m].toNat : Nat) : Int) := by omega
          by_cases hz : s[m].toNat ≤ 122
          · have hzI : ((s[m].toNat : Nat) : Int) ≤ (122 : Int) := by omega
            have HLET : Hid (97 ≤ byteAt s m ∧ byteAt s m ≤ 122) := by show _ ∧ _; rw [hb]; exact ⟨ha, hz⟩
            clear hb
            by_cases h6m : m = n + 6
            · have hq : (((m : Nat) : Int) - ((n : Nat) : Int) == 6) = true := beq_iff_eq.2 (by omega)
              have HT : Hid (tooMany s n = true ∧ lettersTo s n 6 = m) := by
                have e : lettersTo s n 6 = m := HL.out.trans (by rw [show 6 - (m - n) = 0 by omega]; rfl)
                refine ⟨?_, e⟩
                unfold tooMany isLetter
                rw [e, ← h6m]
                simp [HLET.out]
              clear ha hz h6m
              go_wp2_with fail
              go_quiet (fail)
              go_wp2_with fail
              go_ret
              have eS : wordS s n false = ⟨#[]⟩ := by simp [wordS, HT.out.1]
              have eB : wordB s n false = true := by simp [wordB, HT.out.1]
              rw [hN.out, HT.out.2, eS, eB]
              exact ⟨rfl, HF.out.trans ((Fr.drewN _ _ _).trans (Fr.setCell _ _ _ _ (show One db db from rfl))), (HDr.out.drewN _).set6 true, hms⟩
            · have hq : (((m : Nat) : Int) - ((n : Nat) : Int) == 6) = false := beq_eq_false_iff_ne.2 (by omega)
              have HM := hide h6m
              clear ha hz h6m
              go_wp2_with fail
              go_quiet (fail)
              go_wp2_with fail
              go_roundw
              case rel =>
                have := HM.out
                refine ⟨rfl, m + 1, by omega, by omega, by omega, ?_, (HDr.out.drewN _).set1 (m + 1), HF.out.trans ((Fr.drewN _ _ _).trans (Fr.setCell _ _ _ _ (show One db db from rfl)))⟩
                show lettersTo s n 6 = _
                rw [HL.out, show 6 - (m - n) = (6 - (m + 1 - n)) + 1 by omega]
                exact lettersTo_more s m _ HLET
              case measure =>
                have e := ((HDr.out.drewN nq).set1 (m + 1)).place
                rw [HPL.out]
                show s.size + 1 - placeD db _ < _
                rw [show placeD db ((wr.drewN nq).setCell ⟨db, 1, none⟩ (.int .i64 ((m : Int) + 1))) = m + 1 from e]
                omega
          · have hzI : decide (((s[m].toNat : Nat) : Int) ≤ (122 : Int)) = false := decide_eq_false (by omega)
            have HST : Hid (¬ (97 ≤ byteAt s m ∧ byteAt s m ≤ 122)) := by show ¬ _; rw [hb]; omega
            clear hb ha hz
            have HEQ : Hid (lettersTo s n 6 = m) := HL.out.trans (lettersTo_stop s m _ HST)
            have hTM : Hid (tooMany s n = false) := by
              show tooMany s n = false
              unfold tooMany
              rw [HEQ.out]
              by_cases e : m = n + 6
              · unfold isLetter
                rw [← e]
                simp [HST.out]
              · simp [e]
            have eS : Hid (wordS s n false = s.extract n m) := by show wordS s n false = _; simp [wordS, hTM.out, nameAt, HEQ.out]
            have hmsI : ((m : Nat) : Int) ≤ ((s.size : Nat) : Int) := by omega
            by_cases hmn : m = n
            · have hq : (((m : Nat) : Int) == ((n : Nat) : Int)) = true := beq_iff_eq.2 (by omega)
              have eB : Hid (wordB s n false = true) := by show wordB s n false = _; simp [wordB, hTM.out, HEQ.out, hmn]
              clear hmn HST hTM
              go_wp2_with fail
              go_quiet (fail)
              go_wp2_with fail
              clear h0 h1 h6 f6 f1
              have hD2 : DB ((wr.drewN nq).setCell ⟨db, 6, none⟩ (.bool true)) db s m true tv lv av rv := (HDr.out.drewN nq).set6 true
              have HF2 : Hid (Fr (One db) w ((wr.drewN nq).setCell ⟨db, 6, none⟩ (.bool true))) := HF.out.trans ((Fr.drewN _ _ nq).trans (Fr.setCell _ _ _ _ (show One db db from rfl)))
              generalize (wr.drewN nq).setCell ⟨db, 6, none⟩ (.bool true) = w2 at *
              have k0 := hD2.at0
              have k1 := hD2.at1
              have HD2 := hide hD2
              clear hD2
              go_quiet (fail)
              go_wp2_with fail
              go_ret
              rw [hN.out, HEQ.out, eS.out, eB.out]
              exact ⟨rfl, HF2.out.trans (Fr.drewN _ _ _), HD2.out.drewN _, hms⟩
            · have hq : (((m : Nat) : Int) == ((n : Nat) : Int)) = false := beq_eq_false_iff_ne.2 (by omega)
              have eB : Hid (wordB s n false = false) := by show wordB s n false = _; simp [wordB, hTM.out, HEQ.out, hmn]
              clear hmn HST hTM
              go_wp2_with fail
              go_quiet (fail)
              go_wp2_with fail
              clear h0 h1 h6 f6 f1
              have hD2 : DB ((wr.drewN nq).setCell ⟨db, 6, none⟩ (.bool false)) db s m false tv lv av rv := (HDr.out.drewN nq).set6 false
              have HF2 : Hid (Fr (One db) w ((wr.drewN nq).setCell ⟨db, 6, none⟩ (.bool false))) := HF.out.trans ((Fr.drewN _ _ nq).trans (Fr.setCell _ _ _ _ (show One db db from rfl)))
              generalize (wr.drewN nq).setCell ⟨db, 6, none⟩ (.bool false) = w2 at *
              have k0 := hD2.at0
              have k1 := hD2.at1
              have HD2 := hide hD2
              clear hD2
              go_quiet (fail)
              go_wp2_with fail
              go_ret
              rw [hN.out, HEQ.out, eS.out, eB.out]
              exact ⟨rfl, HF2.out.trans (Fr.drewN _ _ _), HD2.out.drewN _, hms⟩
        · have haI : decide ((97 : Int) ≤ ((s[m].toNat : Nat) : Int)) = false := decide_eq_false (by omega)
          have HST : Hid (¬ (97 ≤ byteAt s m ∧ byteAt s m ≤ 122)) := by show ¬ _; rw [hb]; omega
          clear hb ha
          have HEQ : Hid (lettersTo s n 6 = m) := HL.out.trans (lettersTo_stop s m _ HST)
          have hTM : Hid (tooMany s n = false) := by
            show tooMany s n = false
            unfold tooMany
            rw [HEQ.out]
            by_cases e : m = n + 6
            · unfold isLetter
              rw [← e]
              simp [HST.out]
            · simp [e]
          have eS : Hid (wordS s n false = s.extract n m) := by show wordS s n false = _; simp [wordS, hTM.out, nameAt, HEQ.out]
          have hmsI : ((m : Nat) : Int) ≤ ((s.size : Nat) : Int) := by omega
          by_cases hmn : m = n
          · have hq : (((m : Nat) : Int) == ((n : Nat) : Int)) = true := beq_iff_eq.2 (by omega)
            have eB : Hid (wordB s n false = true) := by show wordB s n false = _; simp [wordB, hTM.out, HEQ.out, hmn]
            clear hmn HST hTM
            go_wp2_with fail
            go_quiet (fail)
            go_wp2_with fail
            clear h0 h1 h6 f6 f1
            have hD2 : DB ((wr.drewN nq).setCell ⟨db, 6, none⟩ (.bool true)) db s m true tv lv av rv := (HDr.out.drewN nq).set6 true
            have HF2 : Hid (Fr (One db) w ((wr.drewN nq).setCell ⟨db, 6, none⟩ (.bool true))) := HF.out.trans ((Fr.drewN _ _ nq).trans (Fr.setCell _ _ _ _ (show One db db from rfl)))
            generalize (wr.drewN nq).setCell ⟨db, 6, none⟩ (.bool true) = w2 at *
            have k0 := hD2.at0
            have k1 := hD2.at1
            have HD2 := hide hD2
            clear hD2
            go_quiet (fail)
            go_wp2_with fail
            go_ret
            rw [hN.out, HEQ.out, eS.out, eB.out]
            exact ⟨rfl, HF2.out.trans (Fr.drewN _ _ _), HD2.out.drewN _, hms⟩
          · have hq : (((m : Nat) : Int) == ((n : Nat) : Int)) = false := beq_eq_false_iff_ne.2 (by omega)
            have eB : Hid (wordB s n false = false) := by show wordB s n false = _; simp [wordB, hTM.out, HEQ.out, hmn]
            clear hmn HST hTM
            go_wp2_with fail
            go_quiet (fail)
            go_wp2_with fail
            clear h0 h1 h6 f6 f1
            have hD2 : DB ((wr.drewN nq).setCell ⟨db, 6, none⟩ (.bool false)) db s m false tv lv av rv := (HDr.out.drewN nq).set6 false
            have HF2 : Hid (Fr (One db) w ((wr.drewN nq).setCell ⟨db, 6, none⟩ (.bool false))) := HF.out.trans ((Fr.drewN _ _ nq).trans (Fr.setCell _ _ _ _ (show One db db from rfl)))
            generalize (wr.drewN nq).setCell ⟨db, 6, none⟩ (.bool false) = w2 at *
            have k0 := hD2.at0
            have k1 := hD2.at1
            have HD2 := hide hD2
            clear hD2
            go_quiet (fail)
            go_wp2_with fail
            go_ret
            rw [hN.out, HEQ.out, eS.out, eB.out]
            exact ⟨rfl, HF2.out.trans (Fr.drewN _ _ _), HD2.out.drewN _, hms⟩
      · have hltN : decide (m < s.size) = false := decide_eq_false (by omega)
        have HST : Hid (¬ (97 ≤ byteAt s m ∧ byteAt s m ≤ 122)) := by show ¬ _; rw [byteAt_end hlt]; omega
        clear hlt
        have HEQ : Hid (lettersTo s n 6 = m) := HL.out.trans (lettersTo_stop s m _ HST)
        have hTM : Hid (tooMany s n = false) := by
          show tooMany s n = false
          unfold tooMany
          rw [HEQ.out]
          by_cases e : m = n + 6
          · unfold isLetter
            rw [← e]
            simp [HST.out]
          · simp [e]
        have eS : Hid (wordS s n false = s.extract n m) := by show wordS s n false = _; simp [wordS, hTM.out, nameAt, HEQ.out]
        have hmsI : ((m : Nat) : Int) ≤ ((s.size : Nat) : Int) := by omega
        by_cases hmn : m = n
        · have hq : (((m : Nat) : Int) == ((n : Nat) : Int)) = true := beq_iff_eq.2 (by omega)
          have eB : Hid (wordB s n false = true) := by show wordB s n false = _; simp [wordB, hTM.out, HEQ.out, hmn]
          clear hmn HST hTM
          go_wp2_with fail
          go_quiet (fail)
          go_wp2_with fail
          clear h0 h1 h6 f6 f1
          have hD2 : DB ((wr.drewN nq).setCell ⟨db, 6, none⟩ (.bool true)) db s m true tv lv av rv := (HDr.out.drewN nq).set6 true
          have HF2 : Hid (Fr (One db) w ((wr.drewN nq).setCell ⟨db, 6, none⟩ (.bool true))) := HF.out.trans ((Fr.drewN _ _ nq).trans (Fr.setCell _ _ _ _ (show One db db from rfl)))
          generalize (wr.drewN nq).setCell ⟨db, 6, none⟩ (.bool true) = w2 at *
          have k0 := hD2.at0
          have k1 := hD2.at1
          have HD2 := hide hD2
          clear hD2
          go_quiet (fail)
          go_wp2_with fail
          go_ret
          rw [hN.out, HEQ.out, eS.out, eB.out]
          exact ⟨rfl, HF2.out.trans (Fr.drewN _ _ _), HD2.out.drewN _, hms⟩
        · have hq : (((m : Nat) : Int) == ((n : Nat) : Int)) = false := beq_eq_false_iff_ne.2 (by omega)
          have eB : Hid (wordB s n false = false) := by show wordB s n false = _; simp [wordB, hTM.out, HEQ.out, hmn]
          clear hmn HST hTM
          go_wp2_with fail
          go_quiet (fail)
          go_wp2_with fail
          clear h0 h1 h6 f6 f1
          have hD2 : DB ((wr.drewN nq).setCell ⟨db, 6, none⟩ (.bool false)) db s m false tv lv av rv := (HDr.out.drewN nq).set6 false
          have HF2 : Hid (Fr (One db) w ((wr.drewN nq).setCell ⟨db, 6, none⟩ (.bool false))) := HF.out.trans ((Fr.drewN _ _ nq).trans (Fr.setCell _ _ _ _ (show One db db from rfl)))
          generalize (wr.drewN nq).setCell ⟨db, 6, none⟩ (.bool false) = w2 at *
          have k0 := hD2.at0
          have k1 := hD2.at1
          have HD2 := hide hD2
          clear hD2
          go_quiet (fail)
          go_wp2_with fail
          go_ret
          rw [hN.out, HEQ.out, eS.out, eB.out]
          exact ⟨rfl, HF2.out.trans (Fr.drewN _ _ _), HD2.out.drewN _, hms⟩

end Go.Proofs.YtapblkmlhoalgaaDoor
