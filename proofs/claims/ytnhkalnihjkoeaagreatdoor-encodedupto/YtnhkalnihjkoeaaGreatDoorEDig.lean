/- The reference's reader of texts takes a number's digits. -/
import Derived.Test.YtnhkalnihjkoeaaGreatDoorENum
namespace Go.Proofs.YtnhkalnihjkoeaaGreatDoor
open Go.RowKit

def NumPost2 (mb B db : Nat) (s : ByteArray) (out : Bs) (most : Nat) (w : World) (l : Bs) (e : Ending) (w' : World) : Prop :=
  MFr mb w w' ∧ ∃ (sd r : Bs) (bad : Bool), MS w' B mb db s r bad out ∧ e = .returned (.string (ba sd)) ∧ Digits sd ∧ dv sd ≤ most ∧ sd.length ≤ 20 ∧ r = (rUns most l).2 ∧ r.length ≤ l.length ∧ (bad = false → (rUns most l).1 = some (dv sd)) ∧ (bad = true → (rUns most l).1 = none ∨ digStart r)

/-- Where a reader's place is. -/
def placeM (mb : Nat) (w : World) : Nat := match w.cell? ⟨mb, 2, none⟩ with
  | some (.int _ q) => q.toNat
  | _ => 0
theorem MB.place {w : World} {mb db : Nat} {s : ByteArray} {l : Bs} {bad : Bool} {ov : Value} (h : MB w mb db s l bad ov) : placeM mb w = pos s l := by
  unfold placeM; rw [h.at2]; simp

set_option maxHeartbeats 8000000 in
set_option maxRecDepth 100000 in
theorem mNumber_any {w : World} {B mb db : Nat} {s : ByteArray} {l : Bs} {out : Bs} (h : MS w B mb db s l false out) (hs : s.size ≤ maxLen) (mostS : Bs) (most : Nat) (hm : 9 ≤ most) (hmS : Plain mostS) (hmN : mostS ≠ []) (hmv : dv mostS = most) (hml : mostS.length ≤ 20) :
    Calls Tryz.prog 243 #[.pointer (some ⟨mb, 0, none⟩), .string (ba mostS)] w fun e w' => NumPost2 mb B db s out most w l e w' := by
  obtain ⟨ov, hb, hB, ho⟩ := h
  have HS : Hid (∀ (w' : World) (r : Bs) (bad' : Bool), MB w' mb db s r bad' ov → Fr (One mb) w w' → MS w' B mb db s r bad' out ∧ MFr mb w w') := fun w' r bad' hb' hf' => MS.seal hb hB ho hb' hf'
  have HB := hide hb
  have HPS := hide hmS
  have HPN := hide hmN
  have HPV := hide hmv
  have hs' := hs
  unfold maxLen at hs'
  clear hb hB ho hmS hmN hmv
  go_enter Tryz.func243, Tryz.ntmps243
  go_wp2_with fail
  go_loopw [5] (fun sv wr => ∃ sd r : Bs, sv = .string (ba sd) ∧ sd.length ≤ 20 ∧ r.length ≤ l.length ∧ Hid (NumI most mostS l sd r) ∧ Hid (MB wr mb db s r false ov) ∧ Hid (Fr (One mb) w wr)) (fun _ wr => s.size + 1 - placeM mb wr)
  case atStart => exact ⟨[], l, rfl, by simp, by omega, ⟨by simp, fun q hq => by simp at hq, by simp [dv, dvA_nil], by simp, .inl rfl⟩, HB, Fr.refl _ _⟩
  case round =>
    obtain ⟨sd, r, rfl, hsl, hrl, HN, HBr, HF⟩ := hrel
    go_wp2_with fail
    refine (mNext_any HBr.out hs).mono ?_
    rintro e w1 ⟨rfl, n1, e1⟩
    obtain rfl := e1.symm
    simp only [Bool.false_eq_true, if_false]
    have hb1 := HBr.out.keep (Fr.drewN Zero wr n1) (fun h => h)
    have HF1 : Hid (Fr (One mb) w (wr.drewN n1)) := HF.out.trans (Fr.drewN _ _ _)
    have HB1 := hide hb1
    have h2 := hb1.at2
    have f2 := hb1.free 2
    have f4 := hb1.free 4
    have h4 := hb1.at4
    have hh := hd_lt r
    have z1 := ba_size sd
    have t1 := ba_bytes sd
    clear hb1
    have HPL := hide HBr.out.place
    generalize wr.drewN n1 = w1 at *
    have done0 : ∀ sd' : Bs, sd' = sd → sd ≠ [] → (rDigits most (dv sd) r = (dv sd, r) ∨ sd = [48]) → NumPost2 mb B db s out most w l (.returned (.string (ba sd'))) w1 := fun sd' e1 hne hq => by
      subst e1
      have q := HS.out _ _ _ HB1.out HF1.out
      have u := HN.out.full hne hq
      exact ⟨q.2, sd', r, false, q.1, rfl, HN.out.2.1, HN.out.2.2.1, hsl, by rw [u], hrl, fun _ => by rw [u], fun h => by simp at h⟩
    have HDN := hide done0
    clear done0
    by_cases hdig : 48 ≤ hd r ∧ hd r ≤ 57
    · obtain ⟨b, r', rfl⟩ : ∃ b r', r = b :: r' := by
        rcases r with _ | ⟨b, r'⟩
        · simp [hd] at hdig
        · exact ⟨b, r', rfl⟩
      simp only [hd] at hdig hh ⊢
      have hx1 : decide (((b.toNat : Nat) : Int) < 48) = false := decide_eq_false (by omega)
      have hx2 : decide (57 < ((b.toNat : Nat) : Int)) = false := decide_eq_false (by omega)
      have hID : Hid (isDig b) := hdig
      by_cases h48 : sd = [48]
      · have hq : (sd == [48]) = true := by rw [h48]; rfl
        have hne : (sd.isEmpty) = false := by rw [h48]; rfl
        have HX := hide (HDN.out sd rfl (by rw [h48]; simp) (.inr h48))
        clear h48 hdig
        go_wp2_with fail
        go_ret
        exact HX.out
      · have hq : (sd == [48]) = false := by simpa using h48
        have H48 := hide h48
        obtain ⟨hp, hp1, htl, _⟩ := HB1.out.next
        have hcv := conv_new b.toNat (by omega) w1 w1.heap.size (b.toNat : Int) rfl rfl
        rw [show UInt8.ofNat b.toNat = b by simp] at hcv
        have a1 : ba sd ++ ba [b] = ba (sd ++ [b]) := ba_append sd [b]
        have z2 : (ba [b]).size = 1 := ba_size [b]
        have n2 : ¬ (9223372036854775807 < sd.length + 1) := by omega
        clear h48
        go_wp2_with fail
        refine (greater_any (sd ++ [b]) mostS _ (by simp; omega) (by omega)).mono ?_
        rintro e w2 ⟨rfl, e2⟩
        obtain rfl := e2.symm
        have hb2 := HB1.out.keep (Fr.alloc Zero w1 (.cells #[.int .u8 b.toNat] 5)) (fun h => h)
        have g2 := hb2.at2
        have gf2 := hb2.free 2
        have gf4 := hb2.free 4
        have g4 := hb2.at4
        have HB2 := hide hb2
        have HF2 : Hid (Fr (One mb) w (w1.alloc (.cells #[.int .u8 b.toNat] 5))) := HF1.out.trans (Fr.alloc _ _ _)
        clear hb2
        rcases hgr : greaterP (sd ++ [b]) mostS with _ | _
        · have HN2 := hide (HN.out.step hID.out H48.out hm HPS.out HPN.out HPV.out hgr)
          have hpe : ((pos s (b :: r') : Nat) : Int) + 1 = ((pos s r' : Nat) : Int) := by omega
          have HTL := hide htl
          have HLR : Hid (r'.length ≤ s.size) := by show _ ≤ _; have := HB1.out.len; simp at this; omega
          have hll := HN2.out.2.2.2.1
          clear hgr h2 f2 f4 h4 htl
          have HP2 := hide hp1
          clear hp1
          go_wp2_with fail
          go_roundw
          case rel => exact ⟨sd ++ [b], r', rfl, by omega, by simp at hrl; omega, HN2, HB2.out.move HLR.out HTL.out, HF2.out.trans (Fr.setCell (One mb) _ _ _ rfl)⟩
          case measure =>
            have e := (HB2.out.move HLR.out HTL.out).place
            rw [HPL.out]
            show s.size + 1 - placeM mb _ < _
            rw [e, HP2.out]
            omega
        · have hne : sd ≠ [] := by
            rintro rfl
            have := greater_dv (a := [b]) (b := mostS) (by
              by_cases h0 : b.toNat = 48
              · right; rw [u8_of h0]; rfl
              · left
                have := hID.out
                unfold isDig at this
                exact ⟨fun q hq => by simp at hq; subst hq; exact hID.out, fun c r'' e => by simp at e; obtain ⟨rfl, _⟩ := e; omega⟩) HPS.out HPN.out
            rw [show [b] = [] ++ [b] from rfl, hgr, HPV.out] at this
            have h' := this.symm
            simp at h'
            have hdvb : dv ([] ++ [b]) = 0 * 10 + (b.toNat - 48) := dv_snoc [] b
            simp only [List.nil_append] at hdvb
            rw [hdvb] at h'
            omega
          have hu : rUns most l = (some (dv sd), b :: r') := HN.out.full hne (.inl (by
            rw [rDig_step hID.out hm]
            have hpl : Plain (sd ++ [b]) ∨ sd ++ [b] = [48] := by
              left
              rcases HN.out.2.2.2.2 with e | e | ⟨e, hp', _⟩
              · exact absurd e hne
              · exact absurd e H48.out
              · refine ⟨fun q hq => ?_, fun c r'' e' => ?_⟩
                · rcases List.mem_append.1 hq with h | h
                  · exact HN.out.2.1 q h
                  · simp at h; subst h; exact hID.out
                · rcases sd with _ | ⟨d, sd⟩
                  · exact absurd rfl e
                  · simp at e'
                    obtain ⟨rfl, _⟩ := e'
                    exact hp'.2 d sd rfl
            have := greater_dv hpl HPS.out HPN.out
            rw [hgr, HPV.out, dv_snoc] at this
            have h' := this.symm
            simp at h'
            rw [if_pos h']))
          have HX : Hid (NumPost2 mb B db s out most w l (.returned (.string (ba sd))) ((w1.alloc (.cells #[.int .u8 b.toNat] 5)).setCell ⟨mb, 4, none⟩ (.bool true))) := by
            have q := HS.out _ _ _ (HB2.out.mark true) (HF2.out.trans (Fr.setCell (One mb) _ _ _ rfl))
            exact ⟨q.2, sd, b :: r', true, q.1, rfl, HN.out.2.1, HN.out.2.2.1, hsl, by rw [hu], hrl, fun h => by simp at h, fun _ => .inr ⟨b, r', rfl, hID.out⟩⟩
          clear hgr hu hne htl hp1
          go_wp2_with fail
          go_ret
          exact HX.out
    · have hx : hd r < 48 ∨ 57 < hd r := by omega
      have hst := rDig_stop (most := most) (acc := dv sd) hdig
      have HX : Hid (sd ≠ [] → NumPost2 mb B db s out most w l (.returned (.string (ba sd))) w1) := fun hne => HDN.out sd rfl hne (.inl hst)
      have HY : Hid (sd = [] → NumPost2 mb B db s out most w l (.returned (.string (ba sd))) (w1.setCell ⟨mb, 4, none⟩ (.bool true))) := fun e => by
        subst e
        have q := HS.out _ _ _ (HB1.out.mark true) (HF1.out.trans (Fr.setCell (One mb) _ _ _ rfl))
        have u := HN.out.empty hdig
        exact ⟨q.2, [], r, true, q.1, rfl, HN.out.2.1, HN.out.2.2.1, hsl, by rw [u], hrl, fun h => by simp at h, fun _ => .inl (by rw [u])⟩
      generalize hd r = hv at *
      clear hst hdig
      by_cases hse : sd = []
      · subst hse
        have hemp : (ba ([] : Bs)).toList.isEmpty = true := by rw [ba_bytes]; rfl
        rcases hx with hx | hx
        · have hxI : ((hv : Nat) : Int) < 48 := by omega
          go_wp2_with fail
          go_ret
          exact HY.out trivial
        · have hxI : decide (((hv : Nat) : Int) < 48) = false := decide_eq_false (by omega)
          have hyI : 57 < ((hv : Nat) : Int) := by omega
          go_wp2_with fail
          go_ret
          exact HY.out trivial
      · have hemp : sd.isEmpty = false := by simpa using hse
        rcases hx with hx | hx
        · have hxI : ((hv : Nat) : Int) < 48 := by omega
          go_wp2_with fail
          go_ret
          exact HX.out hse
        · have hxI : decide (((hv : Nat) : Int) < 48) = false := decide_eq_false (by omega)
          have hyI : 57 < ((hv : Nat) : Int) := by omega
          go_wp2_with fail
          go_ret
          exact HX.out hse

end Go.Proofs.YtnhkalnihjkoeaaGreatDoor
