/- What description does. -/
import Derived.Test.YtapblkmlhoalgaaGreatDoorLine
namespace Go.Proofs.YtapblkmlhoalgaaGreatDoor
open Go.RowKit

structure DRes where
  ok : Bool
  n : Nat
  lines : List (ByteArray × PT)
  bad : Option Nat
  deep : Option Nat

def pDesc (s : ByteArray) : Nat → List (ByteArray × PT) → Nat → Option Nat → Option Nat → DRes
  | 0, lines, n, bad, deep => ⟨false, n, lines, bad, deep⟩
  | k + 1, lines, n, bad, deep =>
    let r := lineR s lines n bad
    if r.ok = false then ⟨false, r.n, lines, r.bad, deep⟩ else
    if r.n = s.size then ⟨true, r.n, lines ++ [(nameAt s n, r.t)], r.bad, lineDeep r n deep⟩ else
    if lines.length + 1 = 10 ∨ byteAt s r.n ≠ 10 then ⟨false, r.n, lines, r.bad, deep⟩ else
    pDesc s k (lines ++ [(nameAt s n, r.t)]) (r.n + 1) r.bad (lineDeep r n deep)

theorem pPart_depth (rd : Nat → Option Nat → Res) (D : Nat) (hrd : ∀ n bad, (rd n bad).t.depth ≤ D) (s : ByteArray) (others : List ByteArray) (sign n : Nat) (bad : Option Nat) : (pPart rd s others sign n bad).t.depth ≤ D := by
  unfold pPart
  split
  · exact Nat.zero_le _
  · split
    · exact hrd _ _
    · exact Nat.zero_le _
theorem pPart_ge2 (rd : Nat → Option Nat → Res) (hrd : ∀ n bad, n ≤ (rd n bad).n) (s : ByteArray) (others : List ByteArray) (sign n : Nat) (bad : Option Nat) : n ≤ (pPart rd s others sign n bad).n := by
  have hge := lettersTo_ge s 6 n
  unfold pPart
  split
  · exact hge
  · split
    · exact Nat.le_trans (Nat.le_trans hge (Nat.le_succ _)) (hrd _ _)
    · exact hge
theorem lineR_depth (s : ByteArray) (lines : List (ByteArray × PT)) (n : Nat) (bad : Option Nat) (D : Nat) (hD : ∀ q ∈ lines, q.2.depth ≤ D) : (lineR s lines n bad).t.depth ≤ D + 1 + (s.size + 1) :=
  pPart_depth (pTyp s lines (s.size + 1)) _ (pTyp_depth s lines D hD (s.size + 1)) s _ 61 n bad
theorem lineR_ge (s : ByteArray) (lines : List (ByteArray × PT)) (n : Nat) (bad : Option Nat) : n ≤ (lineR s lines n bad).n :=
  pPart_ge2 (pTyp s lines (s.size + 1)) (pTyp_ge s lines (s.size + 1)) s _ 61 n bad

/-- Where a parser stands. -/
def placeOf (pb : Nat) (w : World) : Nat := match w.cell? ⟨pb, 0, none⟩ with
  | some (.int _ q) => q.toNat
  | _ => 0
theorem PS.place {w : World} {X : Nat → Prop} {pb : Nat} {s : ByteArray} {n : Nat} {lv : Value} {lines : List (ByteArray × PT)} {bad deep : Option Nat} (h : PS w X pb s n lv lines bad deep) : placeOf pb w = n := by
  unfold placeOf; rw [h.at0]; simp

def DescPost (w : World) (B pb : Nat) (s : ByteArray) (d : DRes) (e : Ending) (w' : World) : Prop :=
  Fr (fun k => B ≤ k) w w' ∧ e = .returned (.bool d.ok) ∧ d.n ≤ s.size ∧ (d.ok = false → ∃ lv X lines bad deep, PS w' X pb s d.n lv lines bad deep) ∧
    (d.ok = true → ∃ lv, PS w' (XO (One pb) lv) pb s d.n lv d.lines d.bad d.deep ∧ d.lines ≠ [])

set_option maxHeartbeats 8000000 in
theorem description_any {w : World} {B pb : Nat} {s : ByteArray} {lv : Value} (h : PS w (XO (One pb) lv) pb s 0 lv [] none none) (hB1 : 5 < B) (hpb : B ≤ pb) (hlv : ∀ g, lv.ownBlock = some g → B ≤ g ∧ g ≠ pb) (hw : Words w) (hs : s.size ≤ 400) :
    Calls Tryz.prog 85 #[.pointer (some ⟨pb, 0, none⟩)] w fun e w' => DescPost w B pb s (pDesc s 10 [] 0 none none) e w' := by
  have hsm : s.size ≤ maxLen := by unfold maxLen; omega
  have HS := hide h
  have HW := hide hw
  have HLV := hide hlv
  clear h hw hlv
  go_enter Tryz.func85, Tryz.ntmps85
  go_wp2_with fail
  go_loopw [2] (fun v wr => v = .bool false ∧ ∃ (k n : Nat) (lines : List (ByteArray × PT)) (bad deep : Option Nat) (lv : Value), k + 1 + lines.length = 10 ∧ n ≤ s.size ∧ Hid (pDesc s 10 [] 0 none none = pDesc s (k + 1) lines n bad deep) ∧ Hid (PS wr (XO (One pb) lv) pb s n lv lines bad deep) ∧
      Hid (∀ g, lv.ownBlock = some g → B ≤ g ∧ g ≠ pb) ∧ Hid (Fr (fun k => B ≤ k) w wr) ∧ Hid (∀ q ∈ lines, q.2.depth ≤ 1000 * lines.length)) (fun _ wr => s.size + 1 - placeOf pb wr)
  case atStart => exact ⟨rfl, 9, 0, [], none, none, lv, rfl, Nat.zero_le _, rfl, HS, HLV, Fr.refl _ _, fun q hq => by simp at hq⟩
  case round =>
    obtain ⟨rfl, k, n, lines, bad, deep, lv', hk, hn, HP, HSr, HLr, HF, HD⟩ := hrel
    have HWr := hide (HW.out.keep HF.out (by omega))
    have HPL := hide HSr.out.place
    go_wp2_with fail
    refine (line_any HSr hpb HLr HWr hs hn (fun q hq => by have := HD.out q hq; omega) (by omega)).mono ?_
    have hrg := lineR_ge s lines n bad
    have HRD := hide (lineR_depth s lines n bad _ HD)
    have HST : Hid (pDesc s (k + 1) lines n bad deep = 
        if (lineR s lines n bad).ok = false then ⟨false, (lineR s lines n bad).n, lines, (lineR s lines n bad).bad, deep⟩ else
        if (lineR s lines n bad).n = s.size then ⟨true, (lineR s lines n bad).n, lines ++ [(nameAt s n, (lineR s lines n bad).t)], (lineR s lines n bad).bad, lineDeep (lineR s lines n bad) n deep⟩ else
        if lines.length + 1 = 10 ∨ byteAt s (lineR s lines n bad).n ≠ 10 then ⟨false, (lineR s lines n bad).n, lines, (lineR s lines n bad).bad, deep⟩ else
        pDesc s k (lines ++ [(nameAt s n, (lineR s lines n bad).t)]) ((lineR s lines n bad).n + 1) (lineR s lines n bad).bad (lineDeep (lineR s lines n bad) n deep)) := rfl
    generalize lineR s lines n bad = r at *
    rintro e w1 ⟨hF1, hrs, rfl, hno, hyes⟩
    have HF1 := hide (HF.out.trans hF1)
    clear hF1
    rcases hr : r.ok with _ | _
    · have HR : Hid (pDesc s 10 [] 0 none none = ⟨false, r.n, lines, r.bad, deep⟩) := HP.out.trans (by rw [HST.out, hr]; rfl)
      obtain ⟨lv1, X1, b1, d1, hS1⟩ := hno hr
      have HS1 := hide hS1
      clear hno hyes hr HST HP hS1
      go_wp2_with fail
      go_ret
      rw [HR.out]
      exact ⟨HF1, rfl, hrs, fun _ => ⟨lv1, X1, lines, b1, d1, HS1⟩, fun h => by cases h⟩
    · obtain ⟨lv1, hS1, hlv1⟩ := hyes hr
      have HST2 : Hid (pDesc s 10 [] 0 none none = 
          if r.n = s.size then ⟨true, r.n, lines ++ [(nameAt s n, r.t)], r.bad, lineDeep r n deep⟩ else
          if lines.length + 1 = 10 ∨ byteAt s r.n ≠ 10 then ⟨false, r.n, lines, r.bad, deep⟩ else
          pDesc s k (lines ++ [(nameAt s n, r.t)]) (r.n + 1) r.bad (lineDeep r n deep)) := HP.out.trans (by rw [HST.out, hr]; rfl)
      have HS1 := hide hS1
      have HL1 := hide hlv1
      have hX1 : XO (One pb) lv1 pb := .inl rfl
      have HD1 : Hid (∀ q ∈ lines ++ [(nameAt s n, r.t)], q.2.depth ≤ 1000 * (lines ++ [(nameAt s n, r.t)]).length) := fun q hq => by
        rw [List.length_append]
        rcases List.mem_append.1 hq with h | h
        · have := HD.out q h
          simp
          omega
        · simp at h
          subst h
          have := HRD.out
          simp
          omega
      clear hno hyes hr HST HP hS1 hlv1
      go_wp2_with fail
      refine (psEnded hX1 HS1 hsm hrs).mono ?_
      rintro e w2 ⟨rfl, hF2, hS2⟩
      have HF2 := hide (HF1.out.trans (hF2.mono (fun k _ e => by have e' : k = pb := e; omega)))
      have HS2 := hide hS2
      clear hF2 hS2
      by_cases hend : r.n = s.size
      · have HR : Hid (pDesc s 10 [] 0 none none = ⟨true, r.n, lines ++ [(nameAt s n, r.t)], r.bad, lineDeep r n deep⟩) := HST2.out.trans (by rw [if_pos hend])
        have hde : decide (r.n = s.size) = true := decide_eq_true hend
        rw [hde]
        clear hend hde HST2
        go_wp2_with fail
        go_ret
        rw [HR.out]
        exact ⟨HF2, rfl, hrs, (fun h => by cases h), fun _ => ⟨lv1, HS2, by simp⟩⟩
      · have HST3 : Hid (pDesc s 10 [] 0 none none = 
            if lines.length + 1 = 10 ∨ byteAt s r.n ≠ 10 then ⟨false, r.n, lines, r.bad, deep⟩ else
            pDesc s k (lines ++ [(nameAt s n, r.t)]) (r.n + 1) r.bad (lineDeep r n deep)) := HST2.out.trans (by rw [if_neg hend])
        have hde : decide (r.n = s.size) = false := decide_eq_false hend
        rw [hde]
        clear hend hde HST2
        obtain ⟨b2, t2, rows2, hP2, hO2, _, hL2, _, _⟩ := HS2.out
        have k2 := hP2.at2
        have hrl : rows2.length = lines.length + 1 := by rw [hL2.length, List.length_append]; rfl
        rcases hO2.2 with ⟨_, hz⟩ | ⟨g2, cap2, cur2, hv2, _⟩
        · omega
        · rw [hv2] at k2
          have HRL := hide hrl
          clear hP2 hO2 hL2 hrl
          by_cases h10 : lines.length + 1 = 10
          · have HR : Hid (pDesc s 10 [] 0 none none = ⟨false, r.n, lines, r.bad, deep⟩) := HST3.out.trans (by rw [if_pos (.inl h10)])
            have hq : ((rows2.length : Int) == 10) = true := beq_iff_eq.2 (by have := HRL.out; omega)
            have HV2 := hide hv2
            clear hv2 HST3 h10
            go_wp2_with fail
            go_ret
            rw [HR.out]
            exact ⟨HF2, rfl, hrs, (fun _ => ⟨lv1, _, _, _, _, HS2⟩), fun h => by cases h⟩
          · have hq : ((rows2.length : Int) == 10) = false := beq_eq_false_iff_ne.2 (by have := HRL.out; omega)
            have HV2 := hide hv2
            clear hv2
            by_cases hb : byteAt s r.n = 10
            · have HR : Hid (pDesc s 10 [] 0 none none = pDesc s k (lines ++ [(nameAt s n, r.t)]) (r.n + 1) r.bad (lineDeep r n deep)) := HST3.out.trans (by rw [if_neg (by omega)])
              have hbI : Hid ((byteAt s r.n : Int) = 10) := by show (byteAt s r.n : Int) = 10; omega
              have hr1 : r.n + 1 ≤ s.size := byteAt_in (by omega)
              have HK := hide h10
              clear hb HST3 h10
              go_wp2_with fail
              refine (psAccept_yes hX1 HS2 hsm 10 hbI (by omega)).mono ?_
              rintro e w3 ⟨rfl, hF3, hS3⟩
              have HF3 := hide (HF2.out.trans (hF3.mono (fun k _ e => by have e' : k = pb := e; omega)))
              have HS3 := hide hS3
              clear hF3 hS3
              go_wp2_with fail
              go_roundw
              case rel =>
                have := HK.out
                refine ⟨rfl, k - 1, r.n + 1, lines ++ [(nameAt s n, r.t)], r.bad, lineDeep r n deep, lv1, by rw [List.length_append]; simp; omega, hr1, ?_, HS3, HL1, HF3, HD1⟩
                rw [show k - 1 + 1 = k by omega]
                exact HR
              case measure =>
                rw [HPL.out, HS3.out.place]
                omega
            · have HR : Hid (pDesc s 10 [] 0 none none = ⟨false, r.n, lines, r.bad, deep⟩) := HST3.out.trans (by rw [if_pos (.inr hb)])
              have hbI : Hid ((byteAt s r.n : Int) ≠ 10) := fun e => hb (by omega)
              clear hb HST3 h10
              go_wp2_with fail
              refine (psAccept_no hX1 HS2 hsm hrs 10 hbI).mono ?_
              rintro e w3 ⟨rfl, hF3, hS3⟩
              have HF3 := hide (HF2.out.trans (hF3.mono (fun k _ e => by have e' : k = pb := e; omega)))
              have HS3 := hide hS3
              clear hF3 hS3
              go_wp2_with fail
              go_ret
              rw [HR.out]
              exact ⟨HF3, rfl, hrs, (fun _ => ⟨lv1, _, _, _, _, HS3⟩), fun h => by cases h⟩

end Go.Proofs.YtapblkmlhoalgaaGreatDoor
