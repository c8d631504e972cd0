/- The reference's reader of texts takes bytes. -/
import Derived.Test.YtnhkalnihjkoeaaGreatDoorEText
namespace Go.Proofs.YtnhkalnihjkoeaaGreatDoor
open Go.RowKit

theorem hexV_none {r : Bs} (h : hexD r = none) : hexV (hd r) = -1 := by
  rcases r with _ | ⟨b, r⟩
  · rfl
  · simp only [hexD] at h
    show hexV b.toNat = -1
    unfold hexV
    by_cases h1 : 48 ≤ b.toNat ∧ b.toNat ≤ 57
    · rw [if_pos h1] at h; simp at h
    · rw [if_neg h1] at h
      rw [if_neg h1]
      by_cases h2 : 97 ≤ b.toNat ∧ b.toNat ≤ 102
      · rw [if_pos h2] at h; simp at h
      · rw [if_neg h2]
theorem hexV_some {r l1 : Bs} {h : Nat} (hh : hexD r = some (h, l1)) : hexV (hd r) = (h : Int) ∧ h < 16 ∧ ∃ b, r = b :: l1 := by
  rcases r with _ | ⟨b, r⟩
  · simp [hexD] at hh
  · simp only [hexD] at hh
    show hexV b.toNat = _ ∧ _
    unfold hexV
    by_cases h1 : 48 ≤ b.toNat ∧ b.toNat ≤ 57
    · rw [if_pos h1] at hh ⊢
      simp at hh
      obtain ⟨rfl, rfl⟩ := hh
      exact ⟨by omega, by omega, b, rfl⟩
    · rw [if_neg h1] at hh ⊢
      by_cases h2 : 97 ≤ b.toNat ∧ b.toNat ≤ 102
      · rw [if_pos h2] at hh ⊢
        simp at hh
        obtain ⟨rfl, rfl⟩ := hh
        exact ⟨by omega, by omega, b, rfl⟩
      · rw [if_neg h2] at hh; simp at hh

set_option maxHeartbeats 8000000 in
set_option maxRecDepth 100000 in
theorem mBytes_any {w : World} {B mb db : Nat} {s : ByteArray} {l : Bs} {out : Bs} (h : MS w B mb db s l false out) (hs : s.size ≤ maxLen) (hB : B ≤ w.heap.size) (hl : out.length ≤ 900000000) :
    Calls Tryz.prog 176 #[.pointer (some ⟨mb, 0, none⟩)] w fun e w' => EPost mb B db s out 500 w l (rHexa l) (fun b => wCount b.length ++ b) e w' := by
  obtain ⟨ov, hb, hBm, ho⟩ := h
  have hlt := hb.lt
  have HSL0 : Hid (∀ (w' : World) (r : Bs) (bad' : Bool), MB w' mb db s r bad' ov → Fr (TX mb w) w w' → MS w' B mb db s r bad' out ∧ MFr mb w w' ∧ BO w' B ov out) := fun w' r bad' hb' hf' => MS.sealT hb hBm ho hb' hf'
  have HOL : Hid (∀ k, ov.ownBlock = some k → k < w.heap.size) := fun k hk => ho.lt hk
  have HBm := hide hBm
  have hs' := hs
  unfold maxLen at hs'
  clear ho hBm
  have HDB : Hid (∀ (w' : World) (r'' : Bs) (sv' : Value) (got' : Bs), MT w w' mb db s ov r'' true sv' got' → rHexa l = (none, r'') → r''.length ≤ l.length → EPost mb B db s out 500 w l (rHexa l) (fun b => wCount b.length ++ b) (.returned (.tuple #[])) w') := fun w' r'' sv' got' hm hq hr => by
    obtain ⟨q1, q2, _⟩ := HSL0.out w' r'' true hm.kb hm.fr
    exact ⟨q2, r'', true, out, q1, rfl, by rw [hq], hr, fun h => by simp at h, fun _ => ⟨.inl (by rw [hq]), by omega⟩⟩
  go_enter Tryz.func176, Tryz.ntmps176
  go_wp2_with fail
  refine (mMustB hb hs 120 (by omega) (by omega)).mono ?_
  rintro e w1 ⟨hF1, hb1, rfl⟩
  have HT1 : Hid (MT w w1 mb db s ov (mMust 120 l false).1 (mMust 120 l false).2 (.slice none 0 0) []) := ⟨hb1, BO.nil _ _, hF1.tx, hlt⟩
  clear hF1 hb1 hb
  have h1 : Hid ((mMust 120 l false).1.length ≤ l.length ∧ ((mMust 120 l false).2 = false → rHexa l = rHex 300 [] (mMust 120 l false).1) ∧ ((mMust 120 l false).2 = true → rHexa l = (none, (mMust 120 l false).1))) := by
    rcases hq : rAcc 120 l with _ | r1
    · exact ⟨by simp [mMust, hq], by simp [mMust, hq], by simp [mMust, rHexa, hq]⟩
    · obtain ⟨b, rfl, _⟩ := rAcc_some hq
      exact ⟨by simp [mMust, hq], by simp [mMust, rHexa, hq], by simp [mMust, hq]⟩
  go_wp2_with fail
  go_loopw [2] (fun sv wr => ∃ (got r : Bs) (bad : Bool), got.length ≤ 300 ∧ r.length ≤ l.length ∧ Hid (MT w wr mb db s ov r bad sv got) ∧ Hid (bad = false → rHexa l = rHex (300 - got.length) got r) ∧ Hid (bad = true → rHexa l = (none, r))) (fun _ wr => s.size + 1 - placeM mb wr)
  case atStart => exact ⟨[], _, _, by simp, h1.out.1, HT1, h1.out.2.1, h1.out.2.2⟩
  case round =>
    obtain ⟨got, r, bad, hgl, hrl, HTr, HGD, HBD⟩ := hrel
    generalize hsv : u2 = sv at *
    clear hsv
    obtain ⟨sa, sc, rfl⟩ := HTr.out.bo.len
    have h4 := HTr.out.kb.at4
    by_cases hx : bad = true ∨ 300 ≤ got.length ∨ hexD r = none
    · have HQE : Hid (rHexa l = (if bad = true then none else some got, r)) := by
        show _ = _
        cases bad with
        | true => rw [HBD.out rfl]; rfl
        | false =>
          rw [HGD.out rfl]
          rcases hx with hx | hx | hx
          · simp at hx
          · rw [show 300 - got.length = 0 by omega]; rfl
          · rcases 300 - got.length with _ | k
            · rfl
            · simp only [rHex, hx]; rfl
      have hx2 : bad = true ∨ (bad = false ∧ 300 ≤ got.length) ∨ (bad = false ∧ got.length < 300 ∧ hexD r = none) := by
        cases bad with
        | true => exact .inl rfl
        | false =>
          rcases hx with hx | hx | hx
          · simp at hx
          · exact .inr (.inl ⟨rfl, hx⟩)
          · rcases Nat.lt_or_ge got.length 300 with q | q
            · exact .inr (.inr ⟨rfl, q, hx⟩)
            · exact .inr (.inl ⟨rfl, q⟩)
      clear hx HGD HBD
      rcases hx2 with hx | ⟨hx, hx3⟩ | ⟨hx, hx3, hx4⟩
      case' inl =>
        subst hx
        have HT5 := HTr
        generalize wr = w5 at *
        go_wp2_with fail
      case' inr.inl =>
        subst hx
        have hI : ¬ ((got.length : Nat) : Int) < 300 := by omega
        have HT5 := HTr
        clear hx3
        generalize wr = w5 at *
        go_wp2_with fail
      case' inr.inr =>
        subst hx
        have hI : ((got.length : Nat) : Int) < 300 := by omega
        have HV4 := hide (hexV_none hx4)
        clear hx3 hx4
        go_wp2_with fail
        refine (mNext_any HTr.out.kb hs).mono ?_
        rintro e w4 ⟨rfl, n4, e4⟩
        obtain rfl := e4.symm
        have HT5 := hide (HTr.out.drewN n4)
        generalize wr.drewN n4 = w5 at *
        clear h4 HTr
        simp only [Bool.false_eq_true, if_false]
        go_wp2_with fail
        refine (hex_any (hd r) (hd_lt r) _).mono ?_
        rintro e w6 ⟨rfl, e6⟩
        obtain rfl := e6.symm
        rw [HV4.out]
        go_wp2_with fail
      all_goals
        have hr5 := hrl
        obtain ⟨q1, q2, q3⟩ := HSL0.out w5 _ _ HT5.out.kb HT5.out.fr
        obtain ⟨oa, oc, rfl⟩ := q3.len
        have k3 := HT5.out.kb.at3
        have f3 := HT5.out.kb.free 3
        have HQ2 := hide q2
        have HQ3 := hide q3
        have hB5 : B ≤ w5.heap.size := Nat.le_trans hB q2.fr.size
        have hsz5 := HT5.out.size
        have hwl : (wCount got.length).length ≤ 2 := by unfold wCount; split <;> simp
        have HWl := hide hwl
        clear q1 q2 q3 hwl
        go_wp2_with fail
        refine wp_region_held_drew (S := fun _ => True) (by kernel_rfl) trivial (fun hT => ?_)
        refine wtake0 (by kernel_rfl) (by kernel_rfl) (by kernel_rfl) (fun _ _ _ h => h) (Or.inl ⟨by rfl, fun W _ => by go_simp; try with_reducible rfl⟩) trivial ?_
        try simp only [Act.put, List.setIfInBounds_toArray, List.set_cons_zero, List.set_cons_succ]
        refine wtake1 (by kernel_rfl) (by kernel_rfl) (by kernel_rfl) (fun _ _ _ h => h) (Or.inl ⟨by rfl, fun W _ => by go_simp; try with_reducible rfl⟩) trivial ?_
        try simp only [Act.put, List.setIfInBounds_toArray, List.set_cons_zero, List.set_cons_succ]
        refine wtake2 (by kernel_rfl) (by kernel_rfl) (by kernel_rfl) (fun _ _ _ h => h) (Or.inl ⟨by rfl, fun W _ => by go_simp; try with_reducible rfl⟩) trivial ?_
        try simp only [Act.put, List.setIfInBounds_toArray, List.set_cons_zero, List.set_cons_succ]
        refine wtake3 (by kernel_rfl) (by kernel_rfl) (by kernel_rfl) (fun _ _ _ h => h) (Or.inl ⟨by rfl, fun W _ => by go_simp; try with_reducible rfl⟩) trivial ?_
        try simp only [Act.put, List.setIfInBounds_toArray, List.set_cons_zero, List.set_cons_succ]
        refine wtake5 (by kernel_rfl) (by kernel_rfl) (by kernel_rfl) (fun _ _ _ h => h) (Or.inl ⟨by rfl, fun W _ => by go_simp; try with_reducible rfl⟩) trivial ?_
        try simp only [Act.put, List.setIfInBounds_toArray, List.set_cons_zero, List.set_cons_succ]
        refine wtake6 (by kernel_rfl) (by kernel_rfl) (by kernel_rfl) (fun _ _ _ h => h) (Or.inl ⟨by rfl, fun W _ => by go_simp; try with_reducible rfl⟩) trivial ?_
        try simp only [Act.put, List.setIfInBounds_toArray, List.set_cons_zero, List.set_cons_succ]
        refine wpAnyH_ready (rs := [4, 7]) (by kernel_rfl) (by simp) ?_
        refine wcons4 (fun K hK => ?_) (wcons7 (fun K hK => ?_) AllReadyH.nil)
        focus
          go_simp
          refine hK.out _ _ trivial (fun _ => ?_)
          clear hK K
          try simp only [Act.put, List.setIfInBounds_toArray, List.set_cons_zero, List.set_cons_succ]
          refine wpAnyH_ready (rs := [7]) (by kernel_rfl) (by simp) ?_
          refine wcons7 (fun K hK => ?_) AllReadyH.nil
          go_simp
          refine (counted_any got.length hgl _).mono ?_
          rintro e w6 ⟨hF6, cv, rfl, hcv⟩
          have HF6 : Hid (Fr Zero w5 w6) := (Fr.drew Zero w5).trans hF6
          have HCV := hide hcv
          have HB6 := hide (HT5.out.kb.keep HF6.out (fun h => h))
          have e3 := HB6.out.at3
          have HO6 : Hid (BO w6 B (.slice oa out.length oc) out) := HQ3.out.keep HF6.out (fun _ _ h => h)
          have HL6 : Hid (BO w6 w.heap.size (.slice sa got.length sc) got) := HT5.out.bo.keep HF6.out (fun _ _ h => h)
          have hB6 : B ≤ w6.heap.size := Nat.le_trans hB5 HF6.out.size
          clear hF6 hcv
          go_wp2_with fail
          refine hK.out _ _ trivial (fun _ => ?_)
          clear hK K
          try simp only [Act.put, List.setIfInBounds_toArray, List.set_cons_zero, List.set_cons_succ]
        rotate_left
        focus
          go_simp
          refine (counted_any got.length hgl _).mono ?_
          rintro e w6 ⟨hF6, cv, rfl, hcv⟩
          have HF6 : Hid (Fr Zero w5 w6) := (Fr.drew Zero w5).trans hF6
          have HCV := hide hcv
          have HB6 := hide (HT5.out.kb.keep HF6.out (fun h => h))
          have e3 := HB6.out.at3
          have HO6 : Hid (BO w6 B (.slice oa out.length oc) out) := HQ3.out.keep HF6.out (fun _ _ h => h)
          have HL6 : Hid (BO w6 w.heap.size (.slice sa got.length sc) got) := HT5.out.bo.keep HF6.out (fun _ _ h => h)
          have hB6 : B ≤ w6.heap.size := Nat.le_trans hB5 HF6.out.size
          clear hF6 hcv
          go_wp2_with fail
          refine hK.out _ _ trivial (fun _ => ?_)
          clear hK K
          try simp only [Act.put, List.setIfInBounds_toArray, List.set_cons_zero, List.set_cons_succ]
          refine wpAnyH_ready (rs := [4]) (by kernel_rfl) (by simp) ?_
          refine wcons4 (fun K hK => ?_) AllReadyH.nil
          go_simp
          refine hK.out _ _ trivial (fun _ => ?_)
          clear hK K
          try simp only [Act.put, List.setIfInBounds_toArray, List.set_cons_zero, List.set_cons_succ]
        all_goals
          refine wpAnyH_ready (rs := [8]) (by kernel_rfl) (by simp) ?_
          refine wcons8 (fun K hK => ?_) AllReadyH.nil
          refine step_out2 rfl (.tmp 56) (.tmp 59) 32 rfl (wCount got.length) (by simp [Act.eval]) (by simp [Act.eval]) HO6.out HCV.out.src hB6 (by have := HWl.out; omega) ?_
          intro v7 w7 hB7 hF7 hv7
          obtain ⟨va, vc, hva⟩ := BO.len' hB7
          subst hva
          have HG7 := hide (MS.grow2 HB6.out HBm.out HO6.out hB7 hF7 hv7)
          have e4 := (HB6.out.keep hF7 (fun e => HO6.out.ne HB6.out.block (by decide) e)).at3
          have e5 := (HB6.out.keep hF7 (fun e => HO6.out.ne HB6.out.block (by decide) e)).free 3
          have HL7 : Hid (BO w7 w.heap.size (.slice sa got.length sc) got) := ⟨ownsRow_keep HL6.out.own hF7 (fun g hg e => by have := HOL.out g e; have := HL6.out.from_ g hg; omega), HL6.out.from_⟩
          clear hB7 hF7 hv7
          refine hK.out _ _ trivial (fun _ => ?_)
          clear hK K
          try simp only [Act.put, List.setIfInBounds_toArray, List.set_cons_zero, List.set_cons_succ]
          refine wtake9 (by kernel_rfl) (by kernel_rfl) (by kernel_rfl) (fun _ _ _ h => h) (Or.inl ⟨by rfl, fun W _ => by go_simp; try with_reducible rfl⟩) trivial ?_
          try simp only [Act.put, List.setIfInBounds_toArray, List.set_cons_zero, List.set_cons_succ]
          refine wtake10 (by kernel_rfl) (by kernel_rfl) (by kernel_rfl) (fun _ _ _ h => h) (Or.inl ⟨by rfl, fun W _ => by go_simp; try with_reducible rfl⟩) trivial ?_
          try simp only [Act.put, List.setIfInBounds_toArray, List.set_cons_zero, List.set_cons_succ]
          refine wpAnyH_ready (rs := [11]) (by kernel_rfl) (by simp) ?_
          refine wcons11 (fun K hK => ?_) AllReadyH.nil
          go_simp
          refine hK.out _ _ trivial (fun _ => ?_)
          clear hK K
          try simp only [Act.put, List.setIfInBounds_toArray, List.set_cons_zero, List.set_cons_succ]
          refine wpAnyH_done (by kernel_rfl) ?_ _
          obtain ⟨hb8, ho8, hf8⟩ := HG7.out
          have HB8 := hide hb8
          have HO8 := hide ho8
          have HF8 := hide ((HQ2.out.trans (MFr.quiet HF6.out HT5.out.kb.lt)).trans hf8)
          have HL8 : Hid (BO (w7.setCell ⟨mb, 3, none⟩ (.slice va (out.length + (wCount got.length).length) vc)) w.heap.size (.slice sa got.length sc) got) := HL7.out.keep (Fr.setCell (One mb) _ _ _ rfl) (fun k hk e => by have e' : k = mb := e; omega)
          have k8 := hb8.at3
          have f8 := hb8.free 3
          have hB8 : B ≤ (w7.setCell ⟨mb, 3, none⟩ (.slice va (out.length + (wCount got.length).length) vc)).heap.size := Nat.le_trans hB HF8.out.fr.size
          clear hb8 ho8 hf8 e3 e4 e5 k3 f3
          generalize w7.setCell ⟨mb, 3, none⟩ (.slice va (out.length + (wCount got.length).length) vc) = w8 at *
        all_goals
          go_wp2_with (at_builtin; refine wpList_out2 rfl (.tmp 67) (.tmp 68) 32 rfl got rfl rfl HO8.out HL8.out.src ?hb9 ?hl9 ?_)
          case hb9 => exact hB8
          case hl9 => have := HWl.out; simp only [List.length_append]; omega
          intro v9 w9 hB9 hF9 hv9
          obtain ⟨vb, vn, vd, hvb⟩ := BO.any hB9
          subst hvb
          have HG9 := hide (MS.grow2 HB8.out HBm.out HO8.out hB9 hF9 hv9)
          have e8 := (HB8.out.keep hF9 (fun e => HO8.out.ne HB8.out.block (by decide) e)).at3
          have e9 := (HB8.out.keep hF9 (fun e => HO8.out.ne HB8.out.block (by decide) e)).free 3
          clear hB9 hF9 hv9 k8 f8
          go_wp2_with fail
          go_end0
          obtain ⟨hb9, ho9, hf9⟩ := HG9.out
          have hwl := HWl.out
          refine ⟨HF8.out.trans hf9, r, _, out ++ (wCount got.length ++ got), ⟨_, hb9, HBm.out, by simpa using ho9⟩, rfl, ?_, hrl, fun hh => ?_, fun hh => ?_⟩
          · rw [HQE.out]
          · rw [HQE.out]; first | exact absurd hh (by decide) | exact ⟨got, rfl, rfl⟩
          · rw [HQE.out]; first | exact absurd hh (by decide) | exact ⟨.inl rfl, by simp only [List.length_append]; omega⟩
    · have hbf : bad = false := by cases bad with
        | true => exact absurd (.inl rfl) hx
        | false => rfl
      subst hbf
      have hg3 : got.length < 300 := by
        rcases Nat.lt_or_ge got.length 300 with q | q
        · exact q
        · exact absurd (.inr (.inl q)) hx
      obtain ⟨⟨a, l1⟩, hD⟩ : ∃ p, hexD r = some p := by
        rcases hq : hexD r with _ | p
        · exact absurd (.inr (.inr hq)) hx
        · exact ⟨p, rfl⟩
      obtain ⟨ha, ha16, b, rfl⟩ := hexV_some hD
      have hk : 300 - got.length = (300 - (got.length + 1)) + 1 := by omega
      have HQ1 : Hid (rHexa l = match hexD l1 with | none => (none, l1) | some (g, l2) => rHex (300 - (got.length + 1)) (got ++ [UInt8.ofNat (16 * a + g)]) l2) := by
        show _ = _
        rw [HGD.out rfl, hk]
        simp only [rHex, hD]
        rfl
      have HAV := hide ha
      have hI : ((got.length : Nat) : Int) < 300 := by omega
      clear hx ha hk hD HGD HBD
      go_wp2_with fail
      refine (mNext_any HTr.out.kb hs).mono ?_
      rintro e w2 ⟨rfl, n2, e2⟩
      obtain rfl := e2.symm
      have HT2 := hide (HTr.out.drewN n2)
      have HPL := hide HTr.out.kb.place
      generalize wr.drewN n2 = w2 at *
      clear h4
      simp only [Bool.false_eq_true, if_false]
      go_wp2_with fail
      refine (hex_any (hd (b :: l1)) (hd_lt _) _).mono ?_
      rintro e w3 ⟨rfl, e3⟩
      obtain rfl := e3.symm
      rw [HAV.out]
      have g2 := HT2.out.kb.at2
      have gf2 := HT2.out.kb.free 2
      have hps := HT2.out.kb.posle
      obtain ⟨hp, hp1, htl, _⟩ := HT2.out.kb.next
      have hpe : ((pos s (b :: l1) : Nat) : Int) + 1 = ((pos s l1 : Nat) : Int) := by omega
      have HLR : Hid (l1.length ≤ s.size) := by show _ ≤ _; have := HT2.out.kb.len; simp at this; omega
      have HT3 := hide (HT2.out.one (HT2.out.kb.move HLR.out htl) (Fr.setCell (One mb) _ _ _ rfl))
      have HRL : Hid (l1.length < l.length) := by show _ < _; simp at hrl; omega
      have hI2 : ¬ ((a : Nat) : Int) < 0 := by omega
      clear htl hp1
      go_wp2_with fail
      generalize w2.setCell ⟨mb, 2, none⟩ (.int .i64 (pos s l1)) = w3 at *
      refine (mNext_any HT3.out.kb hs).mono ?_
      rintro e w4 ⟨rfl, n4, e4⟩
      obtain rfl := e4.symm
      have HT4 := hide (HT3.out.drewN n4)
      generalize w3.drewN n4 = w4 at *
      clear g2 gf2 hps hpe
      simp only [Bool.false_eq_true, if_false]
      go_wp2_with fail
      refine (hex_any (hd l1) (hd_lt _) _).mono ?_
      rintro e w5 ⟨rfl, e5⟩
      obtain rfl := e5.symm
      rcases hD2 : hexD l1 with _ | ⟨g, l2⟩
      · have HE : Hid (rHexa l = (none, l1)) := by show _ = _; rw [HQ1.out, hD2]
        rw [hexV_none hD2]
        have kf4 := HT4.out.kb.free 4
        have k4 := HT4.out.kb.at4
        clear hD2
        go_wp2_with fail
        refine bodyPost_ret (v := .tuple #[]) (by simp [results, Tryz.results176, go_sem]) rfl ?_
        exact HDB.out _ _ _ _ (HT4.out.one (HT4.out.kb.mark true) (Fr.setCell (One mb) _ _ _ rfl)) HE.out (by have := HRL.out; omega)
      · obtain ⟨hg, hg16, c, rfl⟩ := hexV_some hD2
        have HE : Hid (rHexa l = rHex (300 - (got ++ [UInt8.ofNat (16 * a + g)]).length) (got ++ [UInt8.ofNat (16 * a + g)]) l2) := by
          show _ = _
          rw [HQ1.out, hD2]
          simp
        rw [hg]
        have k2 := HT4.out.kb.at2
        have kf2 := HT4.out.kb.free 2
        have hps4 := HT4.out.kb.posle
        obtain ⟨hp4, hp5, htl4, _⟩ := HT4.out.kb.next
        have hpe4 : ((pos s (c :: l2) : Nat) : Int) + 1 = ((pos s l2 : Nat) : Int) := by omega
        have HLR4 : Hid (l2.length ≤ s.size) := by show _ ≤ _; have := HT4.out.kb.len; simp at this; omega
        have HT5 := hide (HT4.out.one (HT4.out.kb.move HLR4.out htl4) (Fr.setCell (One mb) _ _ _ rfl))
        have hI3 : ¬ ((g : Nat) : Int) < 0 := by omega
        have hby : (16 * (a : Int) + (g : Int)) % 256 = (((UInt8.ofNat (16 * a + g)).toNat : Nat) : Int) := by rw [toNat_ofNat (by omega)]; omega
        have hby2 : 16 * (a : Int) + (g : Int) = (((UInt8.ofNat (16 * a + g)).toNat : Nat) : Int) := by rw [toNat_ofNat (by omega)]; omega
        have hszQ := HT4.out.size
        have HBY := hide hby2
        generalize UInt8.ofNat (16 * a + g) = B8 at *
        have HSR : Hid (Src Tryz.prog 1 32 (.slice (some ⟨w4.heap.size, 0, none⟩) 1 1) [B8].length (Lib.byteCells [B8]) ((w4.setCell ⟨mb, 2, none⟩ (.int .i64 (pos s l2))).alloc (.cells #[.int .u8 B8.toNat] 5))) := src_at (heap_new_at (by simp [World.setCell]) _)
        have hb8 := B8.toNat_lt
        clear htl4 hp5 hD2 hg hby hby2
        go_wp2_with (rw [HBY.out]; at_builtin; refine wpList_out rfl (.tmp 44) (.tmp 50) 32 rfl [B8] rfl rfl (HT5.out.alloc (.cells #[.int .u8 B8.toNat] 5)).bo HSR.out ?hb6 ?hl6 ?_)
        case hb6 => first | omega | (simp; omega) | simp
        case hl6 => first | omega | (simp; omega) | simp
        intro v6 w6 hB6 hF6 _
        have HT6 := hide ((HT5.out.alloc (.cells #[.int .u8 B8.toNat] 5)).more hB6 hF6)
        clear hB6 hF6
        have HPL6 := hide HT6.out.kb.place
        go_wp2_with fail
        refine ⟨⟨got ++ [B8], l2, false, by first | omega | (simp; omega), by have := HRL.out; simp only [List.length_cons] at this; omega, HT6, fun _ => HE.out, fun h => by simp at h⟩, ?_⟩
        have l6 := HT6.out.kb.len
        have l7 := HTr.out.kb.len
        rw [HPL.out, HPL6.out]
        simp only [pos, List.length_cons] at l6 l7 ⊢
        omega

end Go.Proofs.YtnhkalnihjkoeaaGreatDoor
