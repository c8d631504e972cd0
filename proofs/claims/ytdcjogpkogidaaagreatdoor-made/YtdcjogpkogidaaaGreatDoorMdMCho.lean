/- The maker's values: choices. -/
import Derived.Test.YtdcjogpkogidaaaGreatDoorMdMRec
namespace Go.Proofs.YtdcjogpkogidaaaGreatDoor.Q
open Go.RowKit

set_option maxHeartbeats 16000000 in
set_option maxRecDepth 100000 in
theorem sevM_choice {k : Nat} (HV : ValSaid k) {w : World} {B B2 mb : Nat} {tv : Value} {n : Nat} {ways : List (Bs × Bs)} {nums : List (Bs × Int)} {sz : Nat} {a : Addr} {t : PT} {p st : Bs} (h : VIn w B B2 mb tv n ways nums sz (k + 1) a t) (hr : VRoom 1 n ways nums sz (k + 1) p st) (hk : t.kind = 10) :
    Calls Tryz.prog 24 #[.pointer (some ⟨mb, 0, none⟩), .pointer (some a), .string (ba p), .string (ba st)] w fun e w' => SevPost w B2 mb tv n ways nums sz k t p st e w' := by
  obtain ⟨b, sa, m, sc, rfl, hK⟩ := h.sr.kids
  obtain ⟨l, hsub, hl1, hl3, hml, hnm⟩ := made_several h.md (.inr hk)
  have hml' : m = l.length := by rw [hK.len, hsub]
  subst hml'
  have hxb := hK.nx
  have c0 := hK.c0
  rw [hk] at c0
  have r1 := hr.n
  have r4 := hr.sz
  have hcp := CM_pos k
  have hcs := CM_succ k
  have H := hide h
  have HR := hide hr
  have HVV := hide HV
  have HK := hide hk
  have HML := hide hml
  have HNM := hide hnm
  have HSUB := hide hsub
  obtain ⟨pv, qv, nv, hM⟩ := h.mz
  have HM := hide hM
  have hlt := hM.lt
  have hbl := hK.lt
  have c1 := hK.c1
  have HC := hide (next_any hM.bk h.tp h.hB (by omega) l.length (by omega) (by omega))
  have HKA := hide hK
  clear h hr hk hM HV hK hml hnm hsub
  go_enter Tryz.func24, Tryz.ntmps24
  go_wp2_with fail
  refine HC.out.mono ?_
  rintro e w1 ⟨⟨r, hr, rfl⟩, hF1, hM1⟩
  obtain ⟨d, rfl⟩ := u8_of (r := r) (by omega)
  obtain ⟨u, hu⟩ : ∃ u, l[d.toNat]? = some u := ⟨_, List.getElem?_eq_getElem hr⟩
  have hus : t.sub d.toNat = u := by unfold PT.sub; rw [HSUB.out, hu]; rfl
  have hmu := HML.out u (List.mem_of_getElem? hu)
  have HF1 : Hid (Fr (MF mb B2) w w1) := hF1.mono (fun k _ e => .inl e)
  have HT1 := hide (H.out.tp.keep HF1.out (fun k hk e => by have := H.out.hB; have := H.out.hBB; rcases e with e | e <;> omega))
  have HMZ : Hid (MZ w1 B2 mb tv (n + 1) ways nums sz) := ⟨pv, qv, nv, HM.out.one hF1 hM1⟩
  have HI1 : Hid (KInv w w1 B B2 mb tv n ways nums sz k t (fun _ => u) p st (d.toNat : Int) 0 [] (n + 1) sz [] [] b sa l.length sc) := ⟨PInv.start HF1.out HT1.out HMZ.out (by omega), HKA.out.keep HF1.out, H.out.hB, H.out.hBB, H.out.h2, HR.out⟩
  obtain ⟨fb, off, c, hsa, hxf, d2, hSc⟩ := HI1.out.ki.kid d.toNat u (by rw [HSUB.out]; exact hu)
  subst hsa
  have d1 := HI1.out.ki.c1
  have hdI : (d.toNat : Int) < (l.length : Int) := by omega
  have HG : Hid (Fr Zero w1 w1.drew) := Fr.drew _ _
  have HP1 : Hid (p.length ≤ 1000000) := by have := HR.out.p; show _ ≤ _; omega
  have HP2 : Hid (st.length ≤ 1000000) := by have := HR.out.st; show _ ≤ _; omega
  have HD1 : Hid (([UInt8.ofNat (97 + d.toNat)] : Bs).length ≤ 1000000) := by show _ ≤ _; simp
  have HST : Hid (under p [UInt8.ofNat (97 + d.toNat)] = under p (stepOf t (d.toNat : Int) 0)) := by show _ = _; unfold stepOf; rw [if_neg (by have := HK.out; omega), if_neg (by have := HK.out; omega), if_neg (by have := HK.out; omega), Int.toNat_natCast, HNM.out _ hr]
  have HSA : Hid (under st [UInt8.ofNat (97 + d.toNat)] = under st (starOf t (d.toNat : Int) 0)) := by show _ = _; unfold starOf stepOf; rw [if_neg (by have := HK.out; omega), if_neg (by have := HK.out; omega), if_neg (by have := HK.out; omega), if_neg (by have := HK.out; omega), Int.toNat_natCast, HNM.out _ hr]
  have HVC : Hid (∀ W, Fr Zero w1 W → Calls Tryz.prog 14 #[.pointer (some ⟨mb, 0, none⟩), .pointer (some c), .string (ba (under p [UInt8.ofNat (97 + d.toNat)])), .string (ba (under st [UInt8.ofNat (97 + d.toNat)]))] W fun e w' => ValPost W B2 mb tv (n + 1) (ways ++ wayK k p t (d.toNat : Int) []) (nums ++ numK k st t (d.toNat : Int) []) sz k u (under p [UInt8.ofNat (97 + d.toNat)]) (under st [UInt8.ofNat (97 + d.toNat)]) e w') := fun W hf =>
    (HI1.out.quiet hf).call (sub := fun _ => u) HVV.out (by omega) (SRep.keep hf.of0 _ _ _ hSc) hmu (by simp) (by simp)
  have HKN : Hid (∀ W, Calls Tryz.prog 23 #[.int .i64 (d.toNat : Nat)] W fun e w' => e = .returned (.string (ba [UInt8.ofNat (97 + d.toNat)])) ∧ Fr Zero W w') := fun W => kname_any d.toNat (by omega) W
  have HNM1 : Hid (t.name d.toNat = [UInt8.ofNat (97 + d.toNat)]) := HNM.out _ hr
  have HUS := hide hus
  clear hF1 hM1 HC HM HMZ HT1 hu hus hmu hSc c1
  generalize UInt8.ofNat (97 + d.toNat) = y at *
  go_wp2_with fail
  go_region_held3 (fun W => W.cell? ⟨b, 1, none⟩ = some (.slice (some ⟨fb, off, none⟩) l.length sc) ∧ W.cell? ⟨fb, off + d.toNat, none⟩ = some (.pointer (some c))) (first | exact ⟨by assumption, by assumption⟩) (first | (go_at_call 39; refine (kunder_any _ _ (by first | exact HP1.out | exact HP2.out) (by exact HD1.out) _).mono ?_; rintro e w' ⟨rfl, rfl⟩) | (go_at_call 23; refine (HKN.out _).mono ?_; rintro e w4 ⟨rfl, hF4⟩; replace d1 := (hF4.cell (a := ⟨b, 1, none⟩) (World.block_lt_of_cell? _ _ d1) (fun h => h)).trans d1; replace d2 := (hF4.cell (a := ⟨fb, off + d.toNat, none⟩) (World.block_lt_of_cell? _ _ d2) (fun h => h)).trans d2; replace HG := hide (HG.out.trans hF4); clear hF4) | (go_at_call 14; refine (HVC.out _ HG.out).mono ?_; rintro e w5 ⟨v, n2, sz2, rfl, ho⟩; replace d1 := (ho.fr.cell (a := ⟨b, 1, none⟩) (World.block_lt_of_cell? _ _ d1) hxb).trans d1; replace d2 := (ho.fr.cell (a := ⟨fb, off + d.toNat, none⟩) (World.block_lt_of_cell? _ _ d2) hxf).trans d2; have HI5 := hide ((HI1.out.quiet HG.out).more HST.out HSA.out ho); have hct := ho.ct; have hcm := ho.cm; have hzx := ba_size (wText k v); have hzm := ba_size (wMsg k v); have n1 : ¬ 9223372036854775807 < 2 + (wText k v).length := (by omega); have n2' : ¬ 9223372036854775807 < 1 + (wMsg k v).length := (by omega); clear ho))
  all_goals
    have hP : PInv w w5 B B2 mb tv n ways nums sz k t (fun _ => u) p st (d.toNat : Int) 1 [v] n2 sz2 (wText k v) (wMsg k v) := by simpa using HI5.out.pi
    have HP5 := hide (hP.quiet (Fr.drew Zero w5))
    clear hP HI5 HVC HG HST HSA d1 d2
    have HFIN : Hid (∀ W, Fr Zero w5.drew W → SevPost w B2 mb tv n ways nums sz k t p st (.returned (.tuple #[.string (ba (y :: 58 :: wText k v)), .string (ba (d :: wMsg k v))])) W) := fun W hf => by
      have hk := HK.out
      have e1 : wText (k + 1) (vParts t (d.toNat : Int) [v]) = y :: 58 :: wText k v := by unfold vParts; rw [wText_mk, if_neg (by omega), if_neg (by omega), if_neg (by omega), if_neg (by omega), if_neg (by omega), if_neg (by omega), if_neg (by omega), Int.toNat_natCast, HNM1.out]; rfl
      have e2 : wMsg (k + 1) (vParts t (d.toNat : Int) [v]) = d :: wMsg k v := by unfold vParts; rw [wMsg_mk, if_neg (by omega), if_neg (by omega), if_neg (by omega), if_neg (by omega), if_neg (by omega), if_neg (by omega), Int.toNat_natCast, ofNat_toNat]; simp
      refine ⟨vParts t (d.toNat : Int) [v], n2, sz2, by rw [e1, e2], (HP5.out.quiet hf).out (by omega) (by omega) ⟨rfl, ?_⟩ (by rw [e1]; simp) (by rw [e2]; simp)⟩
      rw [if_neg (by omega), if_neg (by omega), if_neg (by omega), if_neg (by omega), if_neg (by omega), if_neg (by omega), if_neg (by omega), if_neg (by omega)]
      exact ⟨rfl, d.toNat, v, rfl, by rw [HSUB.out]; exact hr, rfl, by rw [HUS.out]; exact HP5.out.val 0 v rfl⟩
    have s1 : (ba [y]).size = 1 := ba_size _
    have s2 : (ba [y, 58]).size = 2 := ba_size _
    have s3 : (ba [d]).size = 1 := ba_size _
    have a1 : ba [y] ++ ⟨#[58]⟩ = ba [y, 58] := ba_append [y] [58]
    have a2 : ba [y, 58] ++ ba (wText k v) = ba (y :: 58 :: wText k v) := ba_append [y, 58] _
    have a3 : ba [d] ++ ba (wMsg k v) = ba (d :: wMsg k v) := ba_append [d] _
    go_wp2_with fail
    have hwr : IntKind.u8.wrap (d.toNat : Int) = (d.toNat : Int) := by simp only [IntKind.wrap, IntKind.bits, IntKind.signed]; simp; omega
    refine wp_region_held_drew (S := fun _ => True) (by kernel_rfl) trivial (fun hT => ?_)
    generalize w5.drew = wd at *
    refine wtake0 (by kernel_rfl) (by kernel_rfl) (by kernel_rfl) (fun _ _ _ h => h) (Or.inl ⟨by rfl, fun W _ => by go_simp; try with_reducible rfl⟩) trivial ?_
    try simp only [Act.put, List.setIfInBounds_toArray, List.set_cons_zero, List.set_cons_succ]
    refine wtake3 (by kernel_rfl) (by kernel_rfl) (by kernel_rfl) (fun _ _ _ h => h) (Or.inl ⟨by rfl, fun W _ => by go_simp; try with_reducible rfl⟩) trivial ?_
    try simp only [Act.put, List.setIfInBounds_toArray, List.set_cons_zero, List.set_cons_succ]
    refine wtake5 (by kernel_rfl) (by kernel_rfl) (by kernel_rfl) (fun _ _ _ h => h) (Or.inl ⟨by rfl, fun W _ => by go_simp; try with_reducible rfl⟩) trivial ?_
    try simp only [Act.put, List.setIfInBounds_toArray, List.set_cons_zero, List.set_cons_succ]
    refine wtake6 (by kernel_rfl) (by kernel_rfl) (by kernel_rfl) (fun _ _ _ h => h) (Or.inl ⟨by rfl, fun W _ => by go_simp; try with_reducible rfl⟩) trivial ?_
    try simp only [Act.put, List.setIfInBounds_toArray, List.set_cons_zero, List.set_cons_succ]
    refine wtake9 (by kernel_rfl) (by kernel_rfl) (by kernel_rfl) (fun _ _ _ h => h) (Or.inl ⟨by rfl, fun W _ => by go_simp; try with_reducible rfl⟩) trivial ?_
    try simp only [Act.put, List.setIfInBounds_toArray, List.set_cons_zero, List.set_cons_succ]
    refine wpAnyH_ready (rs := [1, 7]) (by kernel_rfl) (by simp) ?_
    refine wcons1 (fun K hK => ?_) (wcons7 (fun K hK => ?_) AllReadyH.nil)
    · go_simp
      refine (HKN.out _).mono ?_
      rintro e w6 ⟨rfl, hF6⟩
      have HZ := hide (hF6.trans (Fr.alloc Zero w6 (.cells #[.int .u8 d.toNat] 5)))
      clear hF6
      have hcv : (convert 24 9 (.slice (some ⟨w6.heap.size, 0, none⟩) 1 1)).run Tryz.prog (w6.alloc (.cells #[.int .u8 d.toNat] 5)) = .ok (.string (ba [d])) (w6.alloc (.cells #[.int .u8 d.toNat] 5)) := conv_at (heap_new_at rfl _)
      go_wp2_with fail
      refine hK.out _ _ trivial (fun _ => ?_)
      clear hK K
      try simp only [Act.put, List.setIfInBounds_toArray, List.set_cons_zero, List.set_cons_succ]
      refine wtake2 (by kernel_rfl) (by kernel_rfl) (by kernel_rfl) (fun _ _ _ h => h) (Or.inl ⟨by rfl, fun W _ => by go_simp; try with_reducible rfl⟩) trivial ?_
      try simp only [Act.put, List.setIfInBounds_toArray, List.set_cons_zero, List.set_cons_succ]
      refine wtake4 (by kernel_rfl) (by kernel_rfl) (by kernel_rfl) (fun _ _ _ h => h) (Or.inl ⟨by rfl, fun W _ => by go_simp; try with_reducible rfl⟩) trivial ?_
      try simp only [Act.put, List.setIfInBounds_toArray, List.set_cons_zero, List.set_cons_succ]
      refine wtake11 (by kernel_rfl) (by kernel_rfl) (by kernel_rfl) (fun _ _ _ h => h) (Or.inl ⟨by rfl, fun W _ => by go_simp; try with_reducible rfl⟩) trivial ?_
      try simp only [Act.put, List.setIfInBounds_toArray, List.set_cons_zero, List.set_cons_succ]
      refine wpAnyH_ready (rs := [7]) (by kernel_rfl) (by simp) ?_
      refine wcons7 (fun K hK => ?_) AllReadyH.nil
      go_simp
      refine hK.out _ _ trivial (fun _ => ?_)
      clear hK K
      try simp only [Act.put, List.setIfInBounds_toArray, List.set_cons_zero, List.set_cons_succ]
      refine wpAnyH_ready (rs := [8]) (by kernel_rfl) (by simp) ?_
      refine wcons8 (fun K hK => ?_) AllReadyH.nil
      go_simp
      refine hK.out _ _ trivial (fun _ => ?_)
      clear hK K
      try simp only [Act.put, List.setIfInBounds_toArray, List.set_cons_zero, List.set_cons_succ]
      refine wtake10 (by kernel_rfl) (by kernel_rfl) (by kernel_rfl) (fun _ _ _ h => h) (Or.inl ⟨by rfl, fun W _ => by go_simp; try with_reducible rfl⟩) trivial ?_
      try simp only [Act.put, List.setIfInBounds_toArray, List.set_cons_zero, List.set_cons_succ]
      refine wtake12 (by kernel_rfl) (by kernel_rfl) (by kernel_rfl) (fun _ _ _ h => h) (Or.inl ⟨by rfl, fun W _ => by go_simp; try with_reducible rfl⟩) trivial ?_
      try simp only [Act.put, List.setIfInBounds_toArray, List.set_cons_zero, List.set_cons_succ]
      refine wpAnyH_done (by kernel_rfl) ?_ _
      go_wp2_with fail
      go_ret2
      exact HFIN.out _ HZ.out
    · go_simp
      refine hK.out _ _ trivial (fun _ => ?_)
      clear hK K
      try simp only [Act.put, List.setIfInBounds_toArray, List.set_cons_zero, List.set_cons_succ]
      have HA := hide (Fr.alloc Zero wd (.cells #[.int .u8 d.toNat] 5))
      have HO : Hid ((wd.alloc (.cells #[.int .u8 d.toNat] 5)).heap[wd.heap.size]? = some (.cells #[.int .u8 d.toNat] 5 (0, 0))) := heap_new_at rfl _
      refine wpAnyH_ready (rs := [1, 8]) (by kernel_rfl) (by simp) ?_
      refine wcons1 (fun K hK => ?_) (wcons8 (fun K hK => ?_) AllReadyH.nil)
      · go_simp
        refine (HKN.out _).mono ?_
        rintro e w6 ⟨rfl, hF6⟩
        have HZ := hide (HA.out.trans hF6)
        have hcv : (convert 24 9 (.slice (some ⟨wd.heap.size, 0, none⟩) 1 1)).run Tryz.prog w6 = .ok (.string (ba [d])) w6 := conv_at (hF6.keep HO.out (fun h => h))
        clear hF6
        go_wp2_with fail
        refine hK.out _ _ trivial (fun _ => ?_)
        clear hK K
        try simp only [Act.put, List.setIfInBounds_toArray, List.set_cons_zero, List.set_cons_succ]
        refine wtake2 (by kernel_rfl) (by kernel_rfl) (by kernel_rfl) (fun _ _ _ h => h) (Or.inl ⟨by rfl, fun W _ => by go_simp; try with_reducible rfl⟩) trivial ?_
        try simp only [Act.put, List.setIfInBounds_toArray, List.set_cons_zero, List.set_cons_succ]
        refine wtake4 (by kernel_rfl) (by kernel_rfl) (by kernel_rfl) (fun _ _ _ h => h) (Or.inl ⟨by rfl, fun W _ => by go_simp; try with_reducible rfl⟩) trivial ?_
        try simp only [Act.put, List.setIfInBounds_toArray, List.set_cons_zero, List.set_cons_succ]
        refine wtake11 (by kernel_rfl) (by kernel_rfl) (by kernel_rfl) (fun _ _ _ h => h) (Or.inl ⟨by rfl, fun W _ => by go_simp; try with_reducible rfl⟩) trivial ?_
        try simp only [Act.put, List.setIfInBounds_toArray, List.set_cons_zero, List.set_cons_succ]
        refine wpAnyH_ready (rs := [8]) (by kernel_rfl) (by simp) ?_
        refine wcons8 (fun K hK => ?_) AllReadyH.nil
        go_simp
        refine hK.out _ _ trivial (fun _ => ?_)
        clear hK K
        try simp only [Act.put, List.setIfInBounds_toArray, List.set_cons_zero, List.set_cons_succ]
        refine wtake10 (by kernel_rfl) (by kernel_rfl) (by kernel_rfl) (fun _ _ _ h => h) (Or.inl ⟨by rfl, fun W _ => by go_simp; try with_reducible rfl⟩) trivial ?_
        try simp only [Act.put, List.setIfInBounds_toArray, List.set_cons_zero, List.set_cons_succ]
        refine wtake12 (by kernel_rfl) (by kernel_rfl) (by kernel_rfl) (fun _ _ _ h => h) (Or.inl ⟨by rfl, fun W _ => by go_simp; try with_reducible rfl⟩) trivial ?_
        try simp only [Act.put, List.setIfInBounds_toArray, List.set_cons_zero, List.set_cons_succ]
        refine wpAnyH_done (by kernel_rfl) ?_ _
        go_wp2_with fail
        go_ret2
        exact HFIN.out _ HZ.out
      · have hcv : (convert 24 9 (.slice (some ⟨wd.heap.size, 0, none⟩) 1 1)).run Tryz.prog (wd.alloc (.cells #[.int .u8 d.toNat] 5)) = .ok (.string (ba [d])) (wd.alloc (.cells #[.int .u8 d.toNat] 5)) := conv_at HO.out
        go_simp
        refine hK.out _ _ trivial (fun _ => ?_)
        clear hK K
        try simp only [Act.put, List.setIfInBounds_toArray, List.set_cons_zero, List.set_cons_succ]
        refine wtake10 (by kernel_rfl) (by kernel_rfl) (by kernel_rfl) (fun _ _ _ h => h) (Or.inl ⟨by rfl, fun W _ => by go_simp; try with_reducible rfl⟩) trivial ?_
        try simp only [Act.put, List.setIfInBounds_toArray, List.set_cons_zero, List.set_cons_succ]
        refine wpAnyH_ready (rs := [1]) (by kernel_rfl) (by simp) ?_
        refine wcons1 (fun K hK => ?_) AllReadyH.nil
        go_simp
        refine (HKN.out _).mono ?_
        rintro e w6 ⟨rfl, hF6⟩
        have HZ := hide (HA.out.trans hF6)
        clear hF6
        go_wp2_with fail
        refine hK.out _ _ trivial (fun _ => ?_)
        clear hK K
        try simp only [Act.put, List.setIfInBounds_toArray, List.set_cons_zero, List.set_cons_succ]
        refine wtake2 (by kernel_rfl) (by kernel_rfl) (by kernel_rfl) (fun _ _ _ h => h) (Or.inl ⟨by rfl, fun W _ => by go_simp; try with_reducible rfl⟩) trivial ?_
        try simp only [Act.put, List.setIfInBounds_toArray, List.set_cons_zero, List.set_cons_succ]
        refine wtake4 (by kernel_rfl) (by kernel_rfl) (by kernel_rfl) (fun _ _ _ h => h) (Or.inl ⟨by rfl, fun W _ => by go_simp; try with_reducible rfl⟩) trivial ?_
        try simp only [Act.put, List.setIfInBounds_toArray, List.set_cons_zero, List.set_cons_succ]
        refine wtake11 (by kernel_rfl) (by kernel_rfl) (by kernel_rfl) (fun _ _ _ h => h) (Or.inl ⟨by rfl, fun W _ => by go_simp; try with_reducible rfl⟩) trivial ?_
        try simp only [Act.put, List.setIfInBounds_toArray, List.set_cons_zero, List.set_cons_succ]
        refine wtake12 (by kernel_rfl) (by kernel_rfl) (by kernel_rfl) (fun _ _ _ h => h) (Or.inl ⟨by rfl, fun W _ => by go_simp; try with_reducible rfl⟩) trivial ?_
        try simp only [Act.put, List.setIfInBounds_toArray, List.set_cons_zero, List.set_cons_succ]
        refine wpAnyH_done (by kernel_rfl) ?_ _
        go_wp2_with fail
        go_ret2
        exact HFIN.out _ HZ.out

end Go.Proofs.YtdcjogpkogidaaaGreatDoor.Q
