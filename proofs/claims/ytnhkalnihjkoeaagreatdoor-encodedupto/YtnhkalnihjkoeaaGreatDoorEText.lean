/- The reference's reader of texts takes texts. -/
import Derived.Test.YtnhkalnihjkoeaaGreatDoorECount
namespace Go.Proofs.YtnhkalnihjkoeaaGreatDoor
open Go.RowKit

set_option maxHeartbeats 8000000 in
set_option maxRecDepth 100000 in
theorem mText_any {w : World} {B mb db : Nat} {s : ByteArray} {l : Bs} {out : Bs} (h : MS w B mb db s l false out) (hs : s.size ≤ maxLen) (hB : B ≤ w.heap.size) (hl : out.length ≤ 900000000) :
    Calls Tryz.prog 175 #[.pointer (some ⟨mb, 0, none⟩)] w fun e w' => EPost mb B db s out 500 w l (rQuoted l) (fun b => wCount b.length ++ b) e w' := by
  obtain ⟨ov, hb, hBm, ho⟩ := h
  have hlt := hb.lt
  have HSL0 : Hid (∀ (w' : World) (r : Bs) (bad' : Bool), MB w' mb db s r bad' ov → Fr (TX mb w) w w' → MS w' B mb db s r bad' out ∧ MFr mb w w' ∧ BO w' B ov out) := fun w' r bad' hb' hf' => MS.sealT hb hBm ho hb' hf'
  have HOL : Hid (∀ k, ov.ownBlock = some k → k < w.heap.size) := fun k hk => ho.lt hk
  have HBm := hide hBm
  have hs' := hs
  unfold maxLen at hs'
  clear ho hBm
  have HDB : Hid (∀ (w' : World) (r'' : Bs) (sv' : Value) (got' : Bs), MT w w' mb db s ov r'' true sv' got' → rQuoted l = (none, r'') → r''.length ≤ l.length → EPost mb B db s out 500 w l (rQuoted l) (fun b => wCount b.length ++ b) (.returned (.tuple #[])) w') := fun w' r'' sv' got' hm hq hr => by
    obtain ⟨q1, q2, _⟩ := HSL0.out w' r'' true hm.kb hm.fr
    exact ⟨q2, r'', true, out, q1, rfl, by rw [hq], hr, fun h => by simp at h, fun _ => ⟨.inl (by rw [hq]), by omega⟩⟩
  go_enter Tryz.func175, Tryz.ntmps175
  go_wp2_with fail
  refine (mMustB hb hs 34 (by omega) (by omega)).mono ?_
  rintro e w1 ⟨hF1, hb1, rfl⟩
  have HT1 : Hid (MT w w1 mb db s ov (mMust 34 l false).1 (mMust 34 l false).2 (.slice none 0 0) []) := ⟨hb1, BO.nil _ _, hF1.tx, hlt⟩
  clear hF1 hb1 hb
  have h1 : Hid ((mMust 34 l false).1.length ≤ l.length ∧ ((mMust 34 l false).2 = false → rQuoted l = rQuo 300 [] (mMust 34 l false).1) ∧ ((mMust 34 l false).2 = true → rQuoted l = (none, (mMust 34 l false).1))) := by
    rcases hq : rAcc 34 l with _ | r1
    · exact ⟨by simp [mMust, hq], by simp [mMust, hq], by simp [mMust, rQuoted, hq]⟩
    · obtain ⟨b, rfl, _⟩ := rAcc_some hq
      exact ⟨by simp [mMust, hq], by simp [mMust, rQuoted, hq], by simp [mMust, hq]⟩
  go_wp2_with fail
  go_loopw [2] (fun sv wr => ∃ (got r : Bs) (bad : Bool), got.length ≤ 300 ∧ r.length ≤ l.length ∧ Hid (MT w wr mb db s ov r bad sv got) ∧ Hid (bad = false → rQuoted l = rQuo (300 - got.length) got r) ∧ Hid (bad = true → rQuoted l = (none, r))) (fun _ wr => s.size + 1 - placeM mb wr)
  case atStart => exact ⟨[], _, _, by simp, h1.out.1, HT1, h1.out.2.1, h1.out.2.2⟩
  case round =>
    obtain ⟨got, r, bad, hgl, hrl, HTr, HGD, HBD⟩ := hrel
    generalize hsv : u2 = sv at *
    clear hsv
    by_cases hbd : bad = true
    · subst hbd
      have h4 := HTr.out.kb.at4
      have HQE : Hid (rQuoted l = (none, r)) := HBD.out rfl
      go_wp2_with fail
      refine (mMustB HTr.out.kb hs 34 (by omega) (by omega)).mono ?_
      rintro e w5 ⟨hF5, hb5, rfl⟩
      have HT5 : Hid (MT w w5 mb db s ov r true sv got) := HTr.out.one hb5 hF5
      have hr5 := hrl
      clear hF5 hb5 h4
      obtain ⟨sa, sc, rfl⟩ := HT5.out.bo.len
      obtain ⟨q1, q2, q3⟩ := HSL0.out w5 _ _ HT5.out.kb HT5.out.fr
      obtain ⟨oa, oc, rfl⟩ := q3.len
      have k3 := HT5.out.kb.at3
      have f3 := HT5.out.kb.free 3
      have HQ2 := hide q2
      have HQ3 := hide q3
      have hB5 : B ≤ w5.heap.size := Nat.le_trans hB q2.fr.size
      have hsz5 := HT5.out.size
      have hwl : (wCount got.length).length ≤ 2 := by unfold wCount; split <;> simp
      have HWl := hide hwl
      clear q1 q2 q3 hwl
      go_wp2_with fail
      refine wp_region_held_drew (S := fun _ => True) (by kernel_rfl) trivial (fun hT => ?_)
      refine wtake0 (by kernel_rfl) (by kernel_rfl) (by kernel_rfl) (fun _ _ _ h => h) (Or.inl ⟨by rfl, fun W _ => by go_simp; try with_reducible rfl⟩) trivial ?_
      try simp only [Act.put, List.setIfInBounds_toArray, List.set_cons_zero, List.set_cons_succ]
      refine wtake1 (by kernel_rfl) (by kernel_rfl) (by kernel_rfl) (fun _ _ _ h => h) (Or.inl ⟨by rfl, fun W _ => by go_simp; try with_reducible rfl⟩) trivial ?_
      try simp only [Act.put, List.setIfInBounds_toArray, List.set_cons_zero, List.set_cons_succ]
      refine wtake2 (by kernel_rfl) (by kernel_rfl) (by kernel_rfl) (fun _ _ _ h => h) (Or.inl ⟨by rfl, fun W _ => by go_simp; try with_reducible rfl⟩) trivial ?_
      try simp only [Act.put, List.setIfInBounds_toArray, List.set_cons_zero, List.set_cons_succ]
      refine wtake3 (by kernel_rfl) (by kernel_rfl) (by kernel_rfl) (fun _ _ _ h => h) (Or.inl ⟨by rfl, fun W _ => by go_simp; try with_reducible rfl⟩) trivial ?_
      try simp only [Act.put, List.setIfInBounds_toArray, List.set_cons_zero, List.set_cons_succ]
      refine wtake5 (by kernel_rfl) (by kernel_rfl) (by kernel_rfl) (fun _ _ _ h => h) (Or.inl ⟨by rfl, fun W _ => by go_simp; try with_reducible rfl⟩) trivial ?_
      try simp only [Act.put, List.setIfInBounds_toArray, List.set_cons_zero, List.set_cons_succ]
      refine wtake6 (by kernel_rfl) (by kernel_rfl) (by kernel_rfl) (fun _ _ _ h => h) (Or.inl ⟨by rfl, fun W _ => by go_simp; try with_reducible rfl⟩) trivial ?_
      try simp only [Act.put, List.setIfInBounds_toArray, List.set_cons_zero, List.set_cons_succ]
      refine wpAnyH_ready (rs := [4, 7]) (by kernel_rfl) (by simp) ?_
      refine wcons4 (fun K hK => ?_) (wcons7 (fun K hK => ?_) AllReadyH.nil)
      · go_simp
        refine hK.out _ _ trivial (fun _ => ?_)
        clear hK K
        try simp only [Act.put, List.setIfInBounds_toArray, List.set_cons_zero, List.set_cons_succ]
        refine wpAnyH_ready (rs := [7]) (by kernel_rfl) (by simp) ?_
        refine wcons7 (fun K hK => ?_) AllReadyH.nil
        go_simp
        refine (counted_any got.length hgl _).mono ?_
        rintro e w6 ⟨hF6, cv, rfl, hcv⟩
        have HF6 : Hid (Fr Zero w5 w6) := (Fr.drew Zero w5).trans hF6
        have HCV := hide hcv
        have HB6 := hide (HT5.out.kb.keep HF6.out (fun h => h))
        have e3 := HB6.out.at3
        have HO6 : Hid (BO w6 B (.slice oa out.length oc) out) := HQ3.out.keep HF6.out (fun _ _ h => h)
        have HL6 : Hid (BO w6 w.heap.size (.slice sa got.length sc) got) := HT5.out.bo.keep HF6.out (fun _ _ h => h)
        have hB6 : B ≤ w6.heap.size := Nat.le_trans hB5 HF6.out.size
        clear hF6 hcv
        go_wp2_with fail
        refine hK.out _ _ trivial (fun _ => ?_)
        clear hK K
        try simp only [Act.put, List.setIfInBounds_toArray, List.set_cons_zero, List.set_cons_succ]
        refine wpAnyH_ready (rs := [8]) (by kernel_rfl) (by simp) ?_
        refine wcons8 (fun K hK => ?_) AllReadyH.nil
        refine step_out2 rfl (.tmp 66) (.tmp 69) 32 rfl (wCount got.length) (by simp [Act.eval]) (by simp [Act.eval]) HO6.out HCV.out.src hB6 (by have := HWl.out; omega) ?_
        intro v7 w7 hB7 hF7 hv7
        obtain ⟨va, vc, hva⟩ := BO.len' hB7
        subst hva
        have HG7 := hide (MS.grow2 HB6.out HBm.out HO6.out hB7 hF7 hv7)
        have e4 := (HB6.out.keep hF7 (fun e => HO6.out.ne HB6.out.block (by decide) e)).at3
        have e5 := (HB6.out.keep hF7 (fun e => HO6.out.ne HB6.out.block (by decide) e)).free 3
        have HL7 : Hid (BO w7 w.heap.size (.slice sa got.length sc) got) := ⟨ownsRow_keep HL6.out.own hF7 (fun g hg e => by have := HOL.out g e; have := HL6.out.from_ g hg; omega), HL6.out.from_⟩
        clear hB7 hF7 hv7
        refine hK.out _ _ trivial (fun _ => ?_)
        clear hK K
        try simp only [Act.put, List.setIfInBounds_toArray, List.set_cons_zero, List.set_cons_succ]
        refine wtake9 (by kernel_rfl) (by kernel_rfl) (by kernel_rfl) (fun _ _ _ h => h) (Or.inl ⟨by rfl, fun W _ => by go_simp; try with_reducible rfl⟩) trivial ?_
        try simp only [Act.put, List.setIfInBounds_toArray, List.set_cons_zero, List.set_cons_succ]
        refine wtake10 (by kernel_rfl) (by kernel_rfl) (by kernel_rfl) (fun _ _ _ h => h) (Or.inl ⟨by rfl, fun W _ => by go_simp; try with_reducible rfl⟩) trivial ?_
        try simp only [Act.put, List.setIfInBounds_toArray, List.set_cons_zero, List.set_cons_succ]
        refine wpAnyH_ready (rs := [11]) (by kernel_rfl) (by simp) ?_
        refine wcons11 (fun K hK => ?_) AllReadyH.nil
        go_simp
        refine hK.out _ _ trivial (fun _ => ?_)
        clear hK K
        try simp only [Act.put, List.setIfInBounds_toArray, List.set_cons_zero, List.set_cons_succ]
        refine wpAnyH_done (by kernel_rfl) ?_ _
        obtain ⟨hb8, ho8, hf8⟩ := HG7.out
        have HB8 := hide hb8
        have HO8 := hide ho8
        have HF8 := hide ((HQ2.out.trans (MFr.quiet HF6.out HT5.out.kb.lt)).trans hf8)
        have HL8 : Hid (BO (w7.setCell ⟨mb, 3, none⟩ (.slice va (out.length + (wCount got.length).length) vc)) w.heap.size (.slice sa got.length sc) got) := HL7.out.keep (Fr.setCell (One mb) _ _ _ rfl) (fun k hk e => by have e' : k = mb := e; omega)
        have k8 := hb8.at3
        have f8 := hb8.free 3
        have hB8 : B ≤ (w7.setCell ⟨mb, 3, none⟩ (.slice va (out.length + (wCount got.length).length) vc)).heap.size := Nat.le_trans hB HF8.out.fr.size
        clear hb8 ho8 hf8 e3 e4 e5 k3 f3
        generalize w7.setCell ⟨mb, 3, none⟩ (.slice va (out.length + (wCount got.length).length) vc) = w8 at *
        go_wp2_with (at_builtin; refine wpList_out2 rfl (.tmp 77) (.tmp 78) 32 rfl got rfl rfl HO8.out HL8.out.src ?hb9 ?hl9 ?_)
        case hb9 => exact hB8
        case hl9 => have := HWl.out; simp only [List.length_append]; omega
        intro v9 w9 hB9 hF9 hv9
        obtain ⟨vb, vn, vd, hvb⟩ := BO.any hB9
        subst hvb
        have HG9 := hide (MS.grow2 HB8.out HBm.out HO8.out hB9 hF9 hv9)
        have e8 := (HB8.out.keep hF9 (fun e => HO8.out.ne HB8.out.block (by decide) e)).at3
        have e9 := (HB8.out.keep hF9 (fun e => HO8.out.ne HB8.out.block (by decide) e)).free 3
        clear hB9 hF9 hv9 k8 f8
        go_wp2_with fail
        go_end0
        obtain ⟨hb9, ho9, hf9⟩ := HG9.out
        have hwl := HWl.out
        refine ⟨HF8.out.trans hf9, r, true, out ++ (wCount got.length ++ got), ⟨_, hb9, HBm.out, ho9⟩, rfl, ?_, hrl, fun hh => ?_, fun hh => ?_⟩
        · rw [HQE.out]
        · rw [HQE.out]; exact absurd hh (by decide)
        · rw [HQE.out]; exact ⟨.inl rfl, by simp only [List.length_append]; omega⟩

      · go_simp
        refine (counted_any got.length hgl _).mono ?_
        rintro e w6 ⟨hF6, cv, rfl, hcv⟩
        have HF6 : Hid (Fr Zero w5 w6) := (Fr.drew Zero w5).trans hF6
        have HCV := hide hcv
        have HB6 := hide (HT5.out.kb.keep HF6.out (fun h => h))
        have e3 := HB6.out.at3
        have HO6 : Hid (BO w6 B (.slice oa out.length oc) out) := HQ3.out.keep HF6.out (fun _ _ h => h)
        have HL6 : Hid (BO w6 w.heap.size (.slice sa got.length sc) got) := HT5.out.bo.keep HF6.out (fun _ _ h => h)
        have hB6 : B ≤ w6.heap.size := Nat.le_trans hB5 HF6.out.size
        clear hF6 hcv
        go_wp2_with fail
        refine hK.out _ _ trivial (fun _ => ?_)
        clear hK K
        try simp only [Act.put, List.setIfInBounds_toArray, List.set_cons_zero, List.set_cons_succ]
        refine wpAnyH_ready (rs := [4]) (by kernel_rfl) (by simp) ?_
        refine wcons4 (fun K hK => ?_) AllReadyH.nil
        go_simp
        refine hK.out _ _ trivial (fun _ => ?_)
        clear hK K
        try simp only [Act.put, List.setIfInBounds_toArray, List.set_cons_zero, List.set_cons_succ]
        refine wpAnyH_ready (rs := [8]) (by kernel_rfl) (by simp) ?_
        refine wcons8 (fun K hK => ?_) AllReadyH.nil
        refine step_out2 rfl (.tmp 66) (.tmp 69) 32 rfl (wCount got.length) (by simp [Act.eval]) (by simp [Act.eval]) HO6.out HCV.out.src hB6 (by have := HWl.out; omega) ?_
        intro v7 w7 hB7 hF7 hv7
        obtain ⟨va, vc, hva⟩ := BO.len' hB7
        subst hva
        have HG7 := hide (MS.grow2 HB6.out HBm.out HO6.out hB7 hF7 hv7)
        have e4 := (HB6.out.keep hF7 (fun e => HO6.out.ne HB6.out.block (by decide) e)).at3
        have e5 := (HB6.out.keep hF7 (fun e => HO6.out.ne HB6.out.block (by decide) e)).free 3
        have HL7 : Hid (BO w7 w.heap.size (.slice sa got.length sc) got) := ⟨ownsRow_keep HL6.out.own hF7 (fun g hg e => by have := HOL.out g e; have := HL6.out.from_ g hg; omega), HL6.out.from_⟩
        clear hB7 hF7 hv7
        refine hK.out _ _ trivial (fun _ => ?_)
        clear hK K
        try simp only [Act.put, List.setIfInBounds_toArray, List.set_cons_zero, List.set_cons_succ]
        refine wtake9 (by kernel_rfl) (by kernel_rfl) (by kernel_rfl) (fun _ _ _ h => h) (Or.inl ⟨by rfl, fun W _ => by go_simp; try with_reducible rfl⟩) trivial ?_
        try simp only [Act.put, List.setIfInBounds_toArray, List.set_cons_zero, List.set_cons_succ]
        refine wtake10 (by kernel_rfl) (by kernel_rfl) (by kernel_rfl) (fun _ _ _ h => h) (Or.inl ⟨by rfl, fun W _ => by go_simp; try with_reducible rfl⟩) trivial ?_
        try simp only [Act.put, List.setIfInBounds_toArray, List.set_cons_zero, List.set_cons_succ]
        refine wpAnyH_ready (rs := [11]) (by kernel_rfl) (by simp) ?_
        refine wcons11 (fun K hK => ?_) AllReadyH.nil
        go_simp
        refine hK.out _ _ trivial (fun _ => ?_)
        clear hK K
        try simp only [Act.put, List.setIfInBounds_toArray, List.set_cons_zero, List.set_cons_succ]
        refine wpAnyH_done (by kernel_rfl) ?_ _
        obtain ⟨hb8, ho8, hf8⟩ := HG7.out
        have HB8 := hide hb8
        have HO8 := hide ho8
        have HF8 := hide ((HQ2.out.trans (MFr.quiet HF6.out HT5.out.kb.lt)).trans hf8)
        have HL8 : Hid (BO (w7.setCell ⟨mb, 3, none⟩ (.slice va (out.length + (wCount got.length).length) vc)) w.heap.size (.slice sa got.length sc) got) := HL7.out.keep (Fr.setCell (One mb) _ _ _ rfl) (fun k hk e => by have e' : k = mb := e; omega)
        have k8 := hb8.at3
        have f8 := hb8.free 3
        have hB8 : B ≤ (w7.setCell ⟨mb, 3, none⟩ (.slice va (out.length + (wCount got.length).length) vc)).heap.size := Nat.le_trans hB HF8.out.fr.size
        clear hb8 ho8 hf8 e3 e4 e5 k3 f3
        generalize w7.setCell ⟨mb, 3, none⟩ (.slice va (out.length + (wCount got.length).length) vc) = w8 at *
        go_wp2_with (at_builtin; refine wpList_out2 rfl (.tmp 77) (.tmp 78) 32 rfl got rfl rfl HO8.out HL8.out.src ?hb9 ?hl9 ?_)
        case hb9 => exact hB8
        case hl9 => have := HWl.out; simp only [List.length_append]; omega
        intro v9 w9 hB9 hF9 hv9
        obtain ⟨vb, vn, vd, hvb⟩ := BO.any hB9
        subst hvb
        have HG9 := hide (MS.grow2 HB8.out HBm.out HO8.out hB9 hF9 hv9)
        have e8 := (HB8.out.keep hF9 (fun e => HO8.out.ne HB8.out.block (by decide) e)).at3
        have e9 := (HB8.out.keep hF9 (fun e => HO8.out.ne HB8.out.block (by decide) e)).free 3
        clear hB9 hF9 hv9 k8 f8
        go_wp2_with fail
        go_end0
        obtain ⟨hb9, ho9, hf9⟩ := HG9.out
        have hwl := HWl.out
        refine ⟨HF8.out.trans hf9, r, true, out ++ (wCount got.length ++ got), ⟨_, hb9, HBm.out, ho9⟩, rfl, ?_, hrl, fun hh => ?_, fun hh => ?_⟩
        · rw [HQE.out]
        · rw [HQE.out]; exact absurd hh (by decide)
        · rw [HQE.out]; exact ⟨.inl rfl, by simp only [List.length_append]; omega⟩

    · obtain rfl : bad = false := by simpa using hbd
      have h4 := HTr.out.kb.at4
      obtain ⟨sa, sc, rfl⟩ := HTr.out.bo.len
      have HPL := hide HTr.out.kb.place
      have HGQ := hide (HGD.out rfl)
      clear hbd HBD
      go_wp2_with fail
      refine (mNext_any HTr.out.kb hs).mono ?_
      rintro e w2 ⟨rfl, n2, e2⟩
      obtain rfl := e2.symm
      have HT2 := hide (HTr.out.drewN n2)
      generalize wr.drewN n2 = w2 at *
      have g2 := HT2.out.kb.at2
      have gf2 := HT2.out.kb.free 2
      have gf4 := HT2.out.kb.free 4
      have g4 := HT2.out.kb.at4
      have hps := HT2.out.kb.posle
      simp only [Bool.false_eq_true, if_false]
      clear h4
      rcases r with _ | ⟨b, r'⟩
      · have HE : Hid (rQuoted l = (none, [])) := HGQ.out.trans (by cases 300 - got.length <;> rfl)
        simp only [hd]
        go_wp2_with fail
        refine bodyPost_ret (v := .tuple #[]) (by simp [results, Tryz.results175, go_sem]) rfl ?_
        exact HDB.out _ _ _ _ (HT2.out.one (HT2.out.kb.mark true) (Fr.setCell (One mb) _ _ _ rfl)) HE.out (by simp)
      · simp only [hd]
        have hb8 := b.toNat_lt
        obtain ⟨hp, hp1, htl, _⟩ := HT2.out.kb.next
        by_cases h34 : b.toNat = 34
        · have q34 : (((b.toNat : Nat) : Int) == 34) = true := beq_iff_eq.2 (by omega)
          have HQE : Hid (rQuoted l = (some got, r')) := HGQ.out.trans (by cases 300 - got.length <;> simp [rQuo, h34])
          have HMU : Hid (mMust 34 (b :: r') false = (r', false)) := by show _ = _; simp [mMust, rAcc, h34]
          clear h34 htl hp1
          go_wp2_with fail
          refine (mMustB HT2.out.kb hs 34 (by omega) (by omega)).mono ?_
          rw [HMU.out]
          rintro e w5 ⟨hF5, hb5, rfl⟩
          have HT5 : Hid (MT w w5 mb db s ov r' false (.slice sa got.length sc) got) := HT2.out.one hb5 hF5
          have hr5 : r'.length ≤ l.length := by simp at hrl; omega
          clear hF5 hb5 g2 gf2 gf4 g4
          obtain ⟨q1, q2, q3⟩ := HSL0.out w5 _ _ HT5.out.kb HT5.out.fr
          obtain ⟨oa, oc, rfl⟩ := q3.len
          have k3 := HT5.out.kb.at3
          have f3 := HT5.out.kb.free 3
          have HQ2 := hide q2
          have HQ3 := hide q3
          have hB5 : B ≤ w5.heap.size := Nat.le_trans hB q2.fr.size
          have hsz5 := HT5.out.size
          have hwl : (wCount got.length).length ≤ 2 := by unfold wCount; split <;> simp
          have HWl := hide hwl
          clear q1 q2 q3 hwl
          go_wp2_with fail
          refine wp_region_held_drew (S := fun _ => True) (by kernel_rfl) trivial (fun hT => ?_)
          refine wtake0 (by kernel_rfl) (by kernel_rfl) (by kernel_rfl) (fun _ _ _ h => h) (Or.inl ⟨by rfl, fun W _ => by go_simp; try with_reducible rfl⟩) trivial ?_
          try simp only [Act.put, List.setIfInBounds_toArray, List.set_cons_zero, List.set_cons_succ]
          refine wtake1 (by kernel_rfl) (by kernel_rfl) (by kernel_rfl) (fun _ _ _ h => h) (Or.inl ⟨by rfl, fun W _ => by go_simp; try with_reducible rfl⟩) trivial ?_
          try simp only [Act.put, List.setIfInBounds_toArray, List.set_cons_zero, List.set_cons_succ]
          refine wtake2 (by kernel_rfl) (by kernel_rfl) (by kernel_rfl) (fun _ _ _ h => h) (Or.inl ⟨by rfl, fun W _ => by go_simp; try with_reducible rfl⟩) trivial ?_
          try simp only [Act.put, List.setIfInBounds_toArray, List.set_cons_zero, List.set_cons_succ]
          refine wtake3 (by kernel_rfl) (by kernel_rfl) (by kernel_rfl) (fun _ _ _ h => h) (Or.inl ⟨by rfl, fun W _ => by go_simp; try with_reducible rfl⟩) trivial ?_
          try simp only [Act.put, List.setIfInBounds_toArray, List.set_cons_zero, List.set_cons_succ]
          refine wtake5 (by kernel_rfl) (by kernel_rfl) (by kernel_rfl) (fun _ _ _ h => h) (Or.inl ⟨by rfl, fun W _ => by go_simp; try with_reducible rfl⟩) trivial ?_
          try simp only [Act.put, List.setIfInBounds_toArray, List.set_cons_zero, List.set_cons_succ]
          refine wtake6 (by kernel_rfl) (by kernel_rfl) (by kernel_rfl) (fun _ _ _ h => h) (Or.inl ⟨by rfl, fun W _ => by go_simp; try with_reducible rfl⟩) trivial ?_
          try simp only [Act.put, List.setIfInBounds_toArray, List.set_cons_zero, List.set_cons_succ]
          refine wpAnyH_ready (rs := [4, 7]) (by kernel_rfl) (by simp) ?_
          refine wcons4 (fun K hK => ?_) (wcons7 (fun K hK => ?_) AllReadyH.nil)
          · go_simp
            refine hK.out _ _ trivial (fun _ => ?_)
            clear hK K
            try simp only [Act.put, List.setIfInBounds_toArray, List.set_cons_zero, List.set_cons_succ]
            refine wpAnyH_ready (rs := [7]) (by kernel_rfl) (by simp) ?_
            refine wcons7 (fun K hK => ?_) AllReadyH.nil
            go_simp
            refine (counted_any got.length hgl _).mono ?_
            rintro e w6 ⟨hF6, cv, rfl, hcv⟩
            have HF6 : Hid (Fr Zero w5 w6) := (Fr.drew Zero w5).trans hF6
            have HCV := hide hcv
            have HB6 := hide (HT5.out.kb.keep HF6.out (fun h => h))
            have e3 := HB6.out.at3
            have HO6 : Hid (BO w6 B (.slice oa out.length oc) out) := HQ3.out.keep HF6.out (fun _ _ h => h)
            have HL6 : Hid (BO w6 w.heap.size (.slice sa got.length sc) got) := HT5.out.bo.keep HF6.out (fun _ _ h => h)
            have hB6 : B ≤ w6.heap.size := Nat.le_trans hB5 HF6.out.size
            clear hF6 hcv
            go_wp2_with fail
            refine hK.out _ _ trivial (fun _ => ?_)
            clear hK K
            try simp only [Act.put, List.setIfInBounds_toArray, List.set_cons_zero, List.set_cons_succ]
            refine wpAnyH_ready (rs := [8]) (by kernel_rfl) (by simp) ?_
            refine wcons8 (fun K hK => ?_) AllReadyH.nil
            refine step_out2 rfl (.tmp 66) (.tmp 69) 32 rfl (wCount got.length) (by simp [Act.eval]) (by simp [Act.eval]) HO6.out HCV.out.src hB6 (by have := HWl.out; omega) ?_
            intro v7 w7 hB7 hF7 hv7
            obtain ⟨va, vc, hva⟩ := BO.len' hB7
            subst hva
            have HG7 := hide (MS.grow2 HB6.out HBm.out HO6.out hB7 hF7 hv7)
            have e4 := (HB6.out.keep hF7 (fun e => HO6.out.ne HB6.out.block (by decide) e)).at3
            have e5 := (HB6.out.keep hF7 (fun e => HO6.out.ne HB6.out.block (by decide) e)).free 3
            have HL7 : Hid (BO w7 w.heap.size (.slice sa got.length sc) got) := ⟨ownsRow_keep HL6.out.own hF7 (fun g hg e => by have := HOL.out g e; have := HL6.out.from_ g hg; omega), HL6.out.from_⟩
            clear hB7 hF7 hv7
            refine hK.out _ _ trivial (fun _ => ?_)
            clear hK K
            try simp only [Act.put, List.setIfInBounds_toArray, List.set_cons_zero, List.set_cons_succ]
            refine wtake9 (by kernel_rfl) (by kernel_rfl) (by kernel_rfl) (fun _ _ _ h => h) (Or.inl ⟨by rfl, fun W _ => by go_simp; try with_reducible rfl⟩) trivial ?_
            try simp only [Act.put, List.setIfInBounds_toArray, List.set_cons_zero, List.set_cons_succ]
            refine wtake10 (by kernel_rfl) (by kernel_rfl) (by kernel_rfl) (fun _ _ _ h => h) (Or.inl ⟨by rfl, fun W _ => by go_simp; try with_reducible rfl⟩) trivial ?_
            try simp only [Act.put, List.setIfInBounds_toArray, List.set_cons_zero, List.set_cons_succ]
            refine wpAnyH_ready (rs := [11]) (by kernel_rfl) (by simp) ?_
            refine wcons11 (fun K hK => ?_) AllReadyH.nil
            go_simp
            refine hK.out _ _ trivial (fun _ => ?_)
            clear hK K
            try simp only [Act.put, List.setIfInBounds_toArray, List.set_cons_zero, List.set_cons_succ]
            refine wpAnyH_done (by kernel_rfl) ?_ _
            obtain ⟨hb8, ho8, hf8⟩ := HG7.out
            have HB8 := hide hb8
            have HO8 := hide ho8
            have HF8 := hide ((HQ2.out.trans (MFr.quiet HF6.out HT5.out.kb.lt)).trans hf8)
            have HL8 : Hid (BO (w7.setCell ⟨mb, 3, none⟩ (.slice va (out.length + (wCount got.length).length) vc)) w.heap.size (.slice sa got.length sc) got) := HL7.out.keep (Fr.setCell (One mb) _ _ _ rfl) (fun k hk e => by have e' : k = mb := e; omega)
            have k8 := hb8.at3
            have f8 := hb8.free 3
            have hB8 : B ≤ (w7.setCell ⟨mb, 3, none⟩ (.slice va (out.length + (wCount got.length).length) vc)).heap.size := Nat.le_trans hB HF8.out.fr.size
            clear hb8 ho8 hf8 e3 e4 e5 k3 f3
            generalize w7.setCell ⟨mb, 3, none⟩ (.slice va (out.length + (wCount got.length).length) vc) = w8 at *
            go_wp2_with (at_builtin; refine wpList_out2 rfl (.tmp 77) (.tmp 78) 32 rfl got rfl rfl HO8.out HL8.out.src ?hb9 ?hl9 ?_)
            case hb9 => exact hB8
            case hl9 => have := HWl.out; simp only [List.length_append]; omega
            intro v9 w9 hB9 hF9 hv9
            obtain ⟨vb, vn, vd, hvb⟩ := BO.any hB9
            subst hvb
            have HG9 := hide (MS.grow2 HB8.out HBm.out HO8.out hB9 hF9 hv9)
            have e8 := (HB8.out.keep hF9 (fun e => HO8.out.ne HB8.out.block (by decide) e)).at3
            have e9 := (HB8.out.keep hF9 (fun e => HO8.out.ne HB8.out.block (by decide) e)).free 3
            clear hB9 hF9 hv9 k8 f8
            go_wp2_with fail
            go_end0
            obtain ⟨hb9, ho9, hf9⟩ := HG9.out
            have hwl := HWl.out
            refine ⟨HF8.out.trans hf9, r', false, out ++ (wCount got.length ++ got), ⟨_, hb9, HBm.out, ho9⟩, rfl, ?_, hr5, fun hh => ?_, fun hh => ?_⟩
            · rw [HQE.out]
            · rw [HQE.out]; exact ⟨got, rfl, rfl⟩
            · rw [HQE.out]; exact absurd hh (by decide)

          · go_simp
            refine (counted_any got.length hgl _).mono ?_
            rintro e w6 ⟨hF6, cv, rfl, hcv⟩
            have HF6 : Hid (Fr Zero w5 w6) := (Fr.drew Zero w5).trans hF6
            have HCV := hide hcv
            have HB6 := hide (HT5.out.kb.keep HF6.out (fun h => h))
            have e3 := HB6.out.at3
            have HO6 : Hid (BO w6 B (.slice oa out.length oc) out) := HQ3.out.keep HF6.out (fun _ _ h => h)
            have HL6 : Hid (BO w6 w.heap.size (.slice sa got.length sc) got) := HT5.out.bo.keep HF6.out (fun _ _ h => h)
            have hB6 : B ≤ w6.heap.size := Nat.le_trans hB5 HF6.out.size
            clear hF6 hcv
            go_wp2_with fail
            refine hK.out _ _ trivial (fun _ => ?_)
            clear hK K
            try simp only [Act.put, List.setIfInBounds_toArray, List.set_cons_zero, List.set_cons_succ]
            refine wpAnyH_ready (rs := [4]) (by kernel_rfl) (by simp) ?_
            refine wcons4 (fun K hK => ?_) AllReadyH.nil
            go_simp
            refine hK.out _ _ trivial (fun _ => ?_)
            clear hK K
            try simp only [Act.put, List.setIfInBounds_toArray, List.set_cons_zero, List.set_cons_succ]
            refine wpAnyH_ready (rs := [8]) (by kernel_rfl) (by simp) ?_
            refine wcons8 (fun K hK => ?_) AllReadyH.nil
            refine step_out2 rfl (.tmp 66) (.tmp 69) 32 rfl (wCount got.length) (by simp [Act.eval]) (by simp [Act.eval]) HO6.out HCV.out.src hB6 (by have := HWl.out; omega) ?_
            intro v7 w7 hB7 hF7 hv7
            obtain ⟨va, vc, hva⟩ := BO.len' hB7
            subst hva
            have HG7 := hide (MS.grow2 HB6.out HBm.out HO6.out hB7 hF7 hv7)
            have e4 := (HB6.out.keep hF7 (fun e => HO6.out.ne HB6.out.block (by decide) e)).at3
            have e5 := (HB6.out.keep hF7 (fun e => HO6.out.ne HB6.out.block (by decide) e)).free 3
            have HL7 : Hid (BO w7 w.heap.size (.slice sa got.length sc) got) := ⟨ownsRow_keep HL6.out.own hF7 (fun g hg e => by have := HOL.out g e; have := HL6.out.from_ g hg; omega), HL6.out.from_⟩
            clear hB7 hF7 hv7
            refine hK.out _ _ trivial (fun _ => ?_)
            clear hK K
            try simp only [Act.put, List.setIfInBounds_toArray, List.set_cons_zero, List.set_cons_succ]
            refine wtake9 (by kernel_rfl) (by kernel_rfl) (by kernel_rfl) (fun _ _ _ h => h) (Or.inl ⟨by rfl, fun W _ => by go_simp; try with_reducible rfl⟩) trivial ?_
            try simp only [Act.put, List.setIfInBounds_toArray, List.set_cons_zero, List.set_cons_succ]
            refine wtake10 (by kernel_rfl) (by kernel_rfl) (by kernel_rfl) (fun _ _ _ h => h) (Or.inl ⟨by rfl, fun W _ => by go_simp; try with_reducible rfl⟩) trivial ?_
            try simp only [Act.put, List.setIfInBounds_toArray, List.set_cons_zero, List.set_cons_succ]
            refine wpAnyH_ready (rs := [11]) (by kernel_rfl) (by simp) ?_
            refine wcons11 (fun K hK => ?_) AllReadyH.nil
            go_simp
            refine hK.out _ _ trivial (fun _ => ?_)
            clear hK K
            try simp only [Act.put, List.setIfInBounds_toArray, List.set_cons_zero, List.set_cons_succ]
            refine wpAnyH_done (by kernel_rfl) ?_ _
            obtain ⟨hb8, ho8, hf8⟩ := HG7.out
            have HB8 := hide hb8
            have HO8 := hide ho8
            have HF8 := hide ((HQ2.out.trans (MFr.quiet HF6.out HT5.out.kb.lt)).trans hf8)
            have HL8 : Hid (BO (w7.setCell ⟨mb, 3, none⟩ (.slice va (out.length + (wCount got.length).length) vc)) w.heap.size (.slice sa got.length sc) got) := HL7.out.keep (Fr.setCell (One mb) _ _ _ rfl) (fun k hk e => by have e' : k = mb := e; omega)
            have k8 := hb8.at3
            have f8 := hb8.free 3
            have hB8 : B ≤ (w7.setCell ⟨mb, 3, none⟩ (.slice va (out.length + (wCount got.length).length) vc)).heap.size := Nat.le_trans hB HF8.out.fr.size
            clear hb8 ho8 hf8 e3 e4 e5 k3 f3
            generalize w7.setCell ⟨mb, 3, none⟩ (.slice va (out.length + (wCount got.length).length) vc) = w8 at *
            go_wp2_with (at_builtin; refine wpList_out2 rfl (.tmp 77) (.tmp 78) 32 rfl got rfl rfl HO8.out HL8.out.src ?hb9 ?hl9 ?_)
            case hb9 => exact hB8
            case hl9 => have := HWl.out; simp only [List.length_append]; omega
            intro v9 w9 hB9 hF9 hv9
            obtain ⟨vb, vn, vd, hvb⟩ := BO.any hB9
            subst hvb
            have HG9 := hide (MS.grow2 HB8.out HBm.out HO8.out hB9 hF9 hv9)
            have e8 := (HB8.out.keep hF9 (fun e => HO8.out.ne HB8.out.block (by decide) e)).at3
            have e9 := (HB8.out.keep hF9 (fun e => HO8.out.ne HB8.out.block (by decide) e)).free 3
            clear hB9 hF9 hv9 k8 f8
            go_wp2_with fail
            go_end0
            obtain ⟨hb9, ho9, hf9⟩ := HG9.out
            have hwl := HWl.out
            refine ⟨HF8.out.trans hf9, r', false, out ++ (wCount got.length ++ got), ⟨_, hb9, HBm.out, ho9⟩, rfl, ?_, hr5, fun hh => ?_, fun hh => ?_⟩
            · rw [HQE.out]
            · rw [HQE.out]; exact ⟨got, rfl, rfl⟩
            · rw [HQE.out]; exact absurd hh (by decide)

        · have q34 : (((b.toNat : Nat) : Int) == 34) = false := beq_eq_false_iff_ne.2 (by omega)
          by_cases hbad : b.toNat < 32 ∨ 126 < b.toNat ∨ 300 ≤ got.length
          · have HE : Hid (rQuoted l = (none, b :: r')) := HGQ.out.trans (by
              rcases hk : 300 - got.length with _ | k
              · simp [rQuo, h34]
              · simp only [rQuo]
                rw [if_neg h34, if_neg (by omega), if_neg (by omega)])
            have cases3 : (((b.toNat : Nat) : Int) < 32) ∨ (decide (((b.toNat : Nat) : Int) < 32) = false ∧ 126 < ((b.toNat : Nat) : Int)) ∨ (decide (((b.toNat : Nat) : Int) < 32) = false ∧ decide (126 < ((b.toNat : Nat) : Int)) = false ∧ 300 ≤ ((got.length : Nat) : Int)) := by
              by_cases c1 : b.toNat < 32
              · exact .inl (by omega)
              · by_cases c2 : 126 < b.toNat
                · exact .inr (.inl ⟨decide_eq_false (by omega), by omega⟩)
                · exact .inr (.inr ⟨decide_eq_false (by omega), decide_eq_false (by omega), by omega⟩)
            clear hbad h34 htl hp1
            rcases cases3 with c1 | ⟨c1, c2⟩ | ⟨c1, c2, c3⟩
            all_goals
              go_wp2_with fail
              refine bodyPost_ret (v := .tuple #[]) (by simp [results, Tryz.results175, go_sem]) rfl ?_
              exact HDB.out _ _ _ _ (HT2.out.one (HT2.out.kb.mark true) (Fr.setCell (One mb) _ _ _ rfl)) HE.out hrl
          · have c1 : decide (((b.toNat : Nat) : Int) < 32) = false := decide_eq_false (by omega)
            have c2 : decide (126 < ((b.toNat : Nat) : Int)) = false := decide_eq_false (by omega)
            have c3 : decide (300 ≤ ((got.length : Nat) : Int)) = false := decide_eq_false (by omega)
            have c3n : decide (300 ≤ got.length) = false := decide_eq_false (by omega)
            have hg3 : got.length < 300 := by omega
            have hk : 300 - got.length = (300 - (got.length + 1)) + 1 := by omega
            have hpe : ((pos s (b :: r') : Nat) : Int) + 1 = ((pos s r' : Nat) : Int) := by omega
            have HLR : Hid (r'.length ≤ s.size) := by show _ ≤ _; have := HT2.out.kb.len; simp at this; omega
            have HT3 := hide (HT2.out.one (HT2.out.kb.move HLR.out htl) (Fr.setCell (One mb) _ _ _ rfl))
            have HRL : Hid (r'.length < l.length) := by show _ < _; simp at hrl; omega
            have hvis : 32 ≤ b.toNat ∧ b.toNat ≤ 126 := by omega
            have HTL := hide htl
            clear hbad htl hp1
            by_cases h92 : b.toNat = 92
            · have q92 : (((b.toNat : Nat) : Int) == 92) = true := beq_iff_eq.2 (by omega)
              have HST : Hid (rQuoted l = rEsc2 (300 - (got.length + 1)) got r') := HGQ.out.trans (by rw [hk]; exact rQuo_esc h92)
              clear h34 h92 hk hvis
              go_wp2_with fail
              generalize w2.setCell ⟨mb, 2, none⟩ (.int .i64 (pos s r')) = w3 at *
              refine (mNext_any HT3.out.kb hs).mono ?_
              rintro e w4 ⟨rfl, n4, e4⟩
              obtain rfl := e4.symm
              have HT4 := hide (HT3.out.drewN n4)
              generalize w3.drewN n4 = w4 at *
              have k2 := HT4.out.kb.at2
              have kf2 := HT4.out.kb.free 2
              have kf4 := HT4.out.kb.free 4
              have k4 := HT4.out.kb.at4
              have hps4 := HT4.out.kb.posle
              clear g2 gf2 gf4 g4
              simp only [Bool.false_eq_true, if_false]
              rcases r' with _ | ⟨c, r2⟩
              · have HE : Hid (rQuoted l = (none, [])) := HST.out.trans rfl
                simp only [hd]
                go_wp2_with fail
                refine bodyPost_ret (v := .tuple #[]) (by simp [results, Tryz.results175, go_sem]) rfl ?_
                exact HDB.out _ _ _ _ (HT4.out.one (HT4.out.kb.mark true) (Fr.setCell (One mb) _ _ _ rfl)) HE.out (by simp)
              · simp only [hd]
                have hc8 := c.toNat_lt
                by_cases hcc : c.toNat = 34 ∨ c.toNat = 92
                · have HEQ : Hid (rQuoted l = rQuo (300 - (got ++ [c]).length) (got ++ [c]) r2) := HST.out.trans (by simp only [rEsc2]; rw [if_pos hcc]; simp)
                  obtain ⟨hp4, hp5, htl4, _⟩ := HT4.out.kb.next
                  have hpe4 : ((pos s (c :: r2) : Nat) : Int) + 1 = ((pos s r2 : Nat) : Int) := by omega
                  have HLR4 : Hid (r2.length ≤ s.size) := by show _ ≤ _; have := HT4.out.kb.len; simp at this; omega
                  have HT5 := hide (HT4.out.one (HT4.out.kb.move HLR4.out htl4) (Fr.setCell (One mb) _ _ _ rfl))
                  clear htl4 hp5 hpe
                  obtain rfl | rfl : c = 34 ∨ c = 92 := by
                    rcases hcc with h | h
                    · exact .inl (u8_of h)
                    · exact .inr (u8_of h)
                  · have hszQ := HT4.out.size
                    have HSR : Hid (Src Tryz.prog 1 32 (.slice (some ⟨w4.heap.size, 0, none⟩) 1 1) [34].length (Lib.byteCells [34]) ((w4.setCell ⟨mb, 2, none⟩ (.int .i64 (pos s r2))).alloc (.cells #[.int .u8 34] 5))) := src_at (heap_new_at (by simp [World.setCell]) _)
                    go_wp2_with (at_builtin; refine wpList_out rfl (.tmp 56) (.tmp 58) 32 rfl [34] rfl rfl (HT5.out.alloc (.cells #[.int .u8 34] 5)).bo HSR.out ?hb6 ?hl6 ?_)
                    case hb6 => first | omega | (simp; omega) | simp
                    case hl6 => first | omega | (simp; omega) | simp
                    intro v6 w6 hB6 hF6 _
                    have HT6 := hide ((HT5.out.alloc (.cells #[.int .u8 34] 5)).more hB6 hF6)
                    clear hB6 hF6
                    have HPL6 := hide HT6.out.kb.place
                    go_wp2_with fail
                    refine ⟨⟨got ++ [34], r2, false, by first | omega | (simp; omega), by first | omega | (simp only [List.length_cons] at hrl; omega), HT6, fun _ => HEQ.out, fun h => by simp at h⟩, ?_⟩
                    have l6 := HT6.out.kb.len
                    have l7 := HTr.out.kb.len
                    rw [HPL.out, HPL6.out]
                    simp only [pos, List.length_cons] at l6 l7 ⊢
                    omega
                  · have hszQ := HT4.out.size
                    have HSR : Hid (Src Tryz.prog 1 32 (.slice (some ⟨w4.heap.size, 0, none⟩) 1 1) [92].length (Lib.byteCells [92]) ((w4.setCell ⟨mb, 2, none⟩ (.int .i64 (pos s r2))).alloc (.cells #[.int .u8 92] 5))) := src_at (heap_new_at (by simp [World.setCell]) _)
                    go_wp2_with (at_builtin; refine wpList_out rfl (.tmp 56) (.tmp 58) 32 rfl [92] rfl rfl (HT5.out.alloc (.cells #[.int .u8 92] 5)).bo HSR.out ?hb6 ?hl6 ?_)
                    case hb6 => first | omega | (simp; omega) | simp
                    case hl6 => first | omega | (simp; omega) | simp
                    intro v6 w6 hB6 hF6 _
                    have HT6 := hide ((HT5.out.alloc (.cells #[.int .u8 92] 5)).more hB6 hF6)
                    clear hB6 hF6
                    have HPL6 := hide HT6.out.kb.place
                    go_wp2_with fail
                    refine ⟨⟨got ++ [92], r2, false, by first | omega | (simp; omega), by first | omega | (simp only [List.length_cons] at hrl; omega), HT6, fun _ => HEQ.out, fun h => by simp at h⟩, ?_⟩
                    have l6 := HT6.out.kb.len
                    have l7 := HTr.out.kb.len
                    rw [HPL.out, HPL6.out]
                    simp only [pos, List.length_cons] at l6 l7 ⊢
                    omega
                · have HE : Hid (rQuoted l = (none, c :: r2)) := HST.out.trans (by simp only [rEsc2]; rw [if_neg hcc])
                  have q1 : (((c.toNat : Nat) : Int) != 34) = true := bne_iff_ne.2 (by omega)
                  have q2 : (((c.toNat : Nat) : Int) != 92) = true := bne_iff_ne.2 (by omega)
                  clear hcc
                  go_wp2_with fail
                  refine bodyPost_ret (v := .tuple #[]) (by simp [results, Tryz.results175, go_sem]) rfl ?_
                  exact HDB.out _ _ _ _ (HT4.out.one (HT4.out.kb.mark true) (Fr.setCell (One mb) _ _ _ rfl)) HE.out (by have := HRL.out; omega)
            · have q92 : (((b.toNat : Nat) : Int) == 92) = false := beq_eq_false_iff_ne.2 (by omega)
              have HEQ : Hid (rQuoted l = rQuo (300 - (got ++ [b]).length) (got ++ [b]) r') := HGQ.out.trans (by rw [hk]; simp only [rQuo]; rw [if_neg h34, if_neg h92, if_pos hvis]; simp)
              clear h34 h92 hk hvis
              have hszQ := HT2.out.size
              have HSR : Hid (Src Tryz.prog 1 32 (.slice (some ⟨w2.heap.size, 0, none⟩) 1 1) [b].length (Lib.byteCells [b]) ((w2.setCell ⟨mb, 2, none⟩ (.int .i64 (pos s r'))).alloc (.cells #[.int .u8 b.toNat] 5))) := src_at (heap_new_at (by simp [World.setCell]) _)
              go_wp2_with (at_builtin; refine wpList_out rfl (.tmp 56) (.tmp 58) 32 rfl [b] rfl rfl (HT3.out.alloc (.cells #[.int .u8 b.toNat] 5)).bo HSR.out ?hb6 ?hl6 ?_)
              case hb6 => first | omega | (simp; omega) | simp
              case hl6 => first | omega | (simp; omega) | simp
              intro v6 w6 hB6 hF6 _
              have HT6 := hide ((HT3.out.alloc (.cells #[.int .u8 b.toNat] 5)).more hB6 hF6)
              clear hB6 hF6
              have HPL6 := hide HT6.out.kb.place
              go_wp2_with fail
              refine ⟨⟨got ++ [b], r', false, by first | omega | (simp; omega), by first | omega | (simp only [List.length_cons] at hrl; omega), HT6, fun _ => HEQ.out, fun h => by simp at h⟩, ?_⟩
              have l6 := HT6.out.kb.len
              have l7 := HTr.out.kb.len
              rw [HPL.out, HPL6.out]
              simp only [pos, List.length_cons] at l6 l7 ⊢
              omega

end Go.Proofs.YtnhkalnihjkoeaaGreatDoor
