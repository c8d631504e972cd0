/- The maker's values: records. -/
import Derived.Test.YtdcjogpkogidaaaGreatDoorMdMKind
section
namespace Go.Proofs.YtdcjogpkogidaaaGreatDoor.Q
open Go.RowKit

set_option maxHeartbeats 16000000 in
set_option maxRecDepth 100000 in
theorem sevM_opt {k : Nat} (HV : ValSaid k) {w : World} {B B2 mb : Nat} {tv : Value} {n : Nat} {ways : List (Bs × Bs)} {nums : List (Bs × Int)} {sz : Nat} {a : Addr} {t : PT} {p st : Bs} (h : VIn w B B2 mb tv n ways nums sz (k + 1) a t) (hr : VRoom 1 n ways nums sz (k + 1) p st) (hk : t.kind = 8) :
    Calls Tryz.prog 24 #[.pointer (some ⟨mb, 0, none⟩), .pointer (some a), .string (ba p), .string (ba st)] w fun e w' => SevPost w B2 mb tv n ways nums sz k t p st e w' := by
  obtain ⟨b, sa, m, sc, rfl, hK⟩ := h.sr.kids
  obtain ⟨u, hmu, hsub⟩ := made_one h.md (.inr hk)
  have hsub0 : t.sub 0 = u := by unfold PT.sub; rw [hsub]; rfl
  have hm1 : m = 1 := by rw [hK.len, hsub]; rfl
  subst hm1
  obtain ⟨fb, off, c, rfl, hxf, hcc, hSc⟩ := hK.kid 0 u (by rw [hsub]; rfl)
  have hxb := hK.nx
  have c0 := hK.c0
  rw [hk] at c0
  have r1 := hr.n
  have r4 := hr.sz
  have hcp := CM_pos k
  have hcs := CM_succ k
  have H := hide h
  have HR := hide hr
  have HVV := hide HV
  have HK := hide hk
  have HMU := hide hmu
  obtain ⟨pv, qv, nv, hM⟩ := h.mz
  have HM := hide hM
  have hlt := hM.lt
  have hbl := hK.lt
  have HC := hide (next_any hM.bk h.tp h.hB (by omega) 2 (by omega) (by omega))
  have HKA := hide hK
  have HS0 := hide hsub0
  have HCC := hide hcc
  have HSC := hide hSc
  clear h hr hk hM HV hK hSc hcc hmu hsub hsub0
  go_enter Tryz.func24, Tryz.ntmps24
  go_wp2_with fail
  refine HC.out.mono ?_
  rintro e w1 ⟨⟨r, hr, rfl⟩, hF1, hM1⟩
  have HF1 : Hid (Fr (MF mb B2) w w1) := hF1.mono (fun k _ e => .inl e)
  have HT1 := hide (H.out.tp.keep HF1.out (fun k hk e => by have := H.out.hB; have := H.out.hBB; rcases e with e | e <;> omega))
  have HMZ : Hid (MZ w1 B2 mb tv (n + 1) ways nums sz) := ⟨pv, qv, nv, HM.out.one hF1 hM1⟩
  have HI1 : Hid (KInv w w1 B B2 mb tv n ways nums sz k t (fun _ => u) p st 0 0 [] (n + 1) sz [] [] b (some ⟨fb, off, none⟩) 1 sc) := ⟨PInv.start HF1.out HT1.out HMZ.out (by omega), HKA.out.keep HF1.out, H.out.hB, H.out.hBB, H.out.h2, HR.out⟩
  have hF1s := HF1.out
  clear hF1 hM1 HC HM HMZ HT1
  rcases (show r = 0 ∨ r = 1 by omega) with rfl | rfl
  · clear hF1s
    go_wp2_with fail
    go_ret2
    have hk := HK.out
    have e1 : wText (k + 1) (vParts t 0 []) = [45] := by unfold vParts; rw [wText_mk, if_neg (by omega), if_neg (by omega), if_neg (by omega), if_neg (by omega), if_neg (by omega), if_pos hk]; rfl
    have e2 : wMsg (k + 1) (vParts t 0 []) = [0] := by unfold vParts; rw [wMsg_mk, if_neg (by omega), if_neg (by omega), if_neg (by omega), if_neg (by omega), if_pos (by omega)]; rfl
    refine ⟨vParts t 0 [], n + 1, sz, ?_, HI1.out.pi.out (by omega) (by omega) ⟨rfl, ?_⟩ (by rw [e1]; simp) (by rw [e2]; simp)⟩
    · rw [e1, e2]; rfl
    · rw [if_neg (by omega), if_neg (by omega), if_neg (by omega), if_neg (by omega), if_neg (by omega), if_neg (by omega), if_pos hk]
      exact ⟨rfl, rfl, by simp [vParts], fun x hx => by simp [vParts] at hx⟩
  · have d1 := HI1.out.ki.c1
    have d2 : w1.cell? ⟨fb, off, none⟩ = some (.pointer (some c)) := (hF1s.cell (a := ⟨fb, off, none⟩) (World.block_lt_of_cell? _ _ HCC.out) hxf).trans HCC.out
    have HG : Hid (Fr Zero w1 w1.drew) := Fr.drew _ _
    have HP1 : Hid (p.length ≤ 1000000) := by have := HR.out.p; show _ ≤ _; omega
    have HP2 : Hid (st.length ≤ 1000000) := by have := HR.out.st; show _ ≤ _; omega
    have HD1 : Hid (([43] : Bs).length ≤ 1000000) := by show _ ≤ _; simp
    have HST : Hid (under p [43] = under p (stepOf t 0 0)) := by show _ = _; unfold stepOf; rw [if_neg (by have := HK.out; omega), if_pos HK.out]
    have HSA : Hid (under st [43] = under st (starOf t 0 0)) := by show _ = _; unfold starOf stepOf; rw [if_neg (by have := HK.out; omega), if_neg (by have := HK.out; omega), if_pos HK.out]
    have HVC : Hid (∀ W, Fr Zero w1 W → Calls Tryz.prog 14 #[.pointer (some ⟨mb, 0, none⟩), .pointer (some c), .string (ba (under p [43])), .string (ba (under st [43]))] W fun e w' => ValPost W B2 mb tv (n + 1) (ways ++ wayK k p t 0 []) (nums ++ numK k st t 0 []) sz k u (under p [43]) (under st [43]) e w') := fun W hf =>
      (HI1.out.quiet hf).call (sub := fun _ => u) HVV.out (by omega) (SRep.keep (hF1s.trans hf.of0) _ _ _ HSC.out) HMU.out (by simp) (by simp)
    clear hF1s
    have HAP : Hid (∀ x : Bs, ⟨#[43]⟩ ++ ba x = ba (43 :: x)) := fun x => ba_append [43] x
    have HAQ : Hid (∀ x : Bs, ⟨#[1]⟩ ++ ba x = ba (1 :: x)) := fun x => ba_append [1] x
    go_wp2_with fail
    go_region_held3 (fun W => W.cell? ⟨b, 1, none⟩ = some (.slice (some ⟨fb, off, none⟩) 1 sc) ∧ W.cell? ⟨fb, off, none⟩ = some (.pointer (some c))) (first | exact ⟨by assumption, by assumption⟩) (first | (go_at_call 39; refine (kunder_any _ _ (by first | exact HP1.out | exact HP2.out) (by exact HD1.out) _).mono ?_; rintro e w' ⟨rfl, rfl⟩) | (go_at_call 14; refine (HVC.out _ HG.out).mono ?_; rintro e w5 ⟨v, n2, sz2, rfl, ho⟩; replace d1 := (ho.fr.cell (a := ⟨b, 1, none⟩) (World.block_lt_of_cell? _ _ d1) hxb).trans d1; replace d2 := (ho.fr.cell (a := ⟨fb, off, none⟩) (World.block_lt_of_cell? _ _ d2) hxf).trans d2; have HI5 := hide ((HI1.out.quiet HG.out).more HST.out HSA.out ho); have hct := ho.ct; have hcm := ho.cm; have hzx := ba_size (wText k v); have hzm := ba_size (wMsg k v); have n1 : ¬ 9223372036854775807 < 1 + (wText k v).length := (by omega); have n2' : ¬ 9223372036854775807 < 1 + (wMsg k v).length := (by omega); clear ho))
    all_goals
      go_wp2_with fail
      go_ret2
      have hk := HK.out
      have hP : PInv w w5 B B2 mb tv n ways nums sz k t (fun _ => u) p st 0 1 [v] n2 sz2 (wText k v) (wMsg k v) := by simpa using HI5.out.pi
      have e1 : wText (k + 1) (vParts t 0 [v]) = 43 :: wText k v := by unfold vParts; rw [wText_mk, if_neg (by omega), if_neg (by omega), if_neg (by omega), if_neg (by omega), if_neg (by omega), if_pos hk]; rfl
      have e2 : wMsg (k + 1) (vParts t 0 [v]) = 1 :: wMsg k v := by unfold vParts; rw [wMsg_mk, if_neg (by omega), if_neg (by omega), if_neg (by omega), if_neg (by omega), if_pos (by omega)]; simp [wCount]
      refine ⟨vParts t 0 [v], n2, sz2, ?_, hP.out (by omega) (by omega) ⟨rfl, ?_⟩ (by rw [e1]; simp) (by rw [e2]; simp)⟩
      · rw [e1, e2, ← HAP.out, ← HAQ.out]; rfl
      · rw [if_neg (by omega), if_neg (by omega), if_neg (by omega), if_neg (by omega), if_neg (by omega), if_neg (by omega), if_pos hk]
        refine ⟨rfl, rfl, by simp [vParts], fun x hx => ?_⟩
        rw [HS0.out]
        simp [vParts] at hx
        subst hx
        exact hP.val 0 x rfl

end Go.Proofs.YtdcjogpkogidaaaGreatDoor.Q
end
section
namespace Go.Proofs.YtdcjogpkogidaaaGreatDoor.Q
open Go.RowKit

set_option maxHeartbeats 16000000 in
set_option maxRecDepth 100000 in
theorem sevM_rec {k : Nat} (HV : ValSaid k) {w : World} {B B2 mb : Nat} {tv : Value} {n : Nat} {ways : List (Bs × Bs)} {nums : List (Bs × Int)} {sz : Nat} {a : Addr} {t : PT} {p st : Bs} (h : VIn w B B2 mb tv n ways nums sz (k + 1) a t) (hr : VRoom 1 n ways nums sz (k + 1) p st) (hk : t.kind = 9) :
    Calls Tryz.prog 24 #[.pointer (some ⟨mb, 0, none⟩), .pointer (some a), .string (ba p), .string (ba st)] w fun e w' => SevPost w B2 mb tv n ways nums sz k t p st e w' := by
  obtain ⟨b, sa, m, sc, rfl, hK⟩ := h.sr.kids
  obtain ⟨l, hsub, hl1, hl3, hml, hnm⟩ := made_several h.md (.inl hk)
  have hml' : m = l.length := by rw [hK.len, hsub]
  subst hml'
  have hxb := hK.nx
  have c0 := hK.c0
  rw [hk] at c0
  have r1 := hr.n
  have r4 := hr.sz
  have hcp := CM_pos k
  have hcs := CM_succ k
  have H := hide h
  have HR := hide hr
  have HVV := hide HV
  have HK := hide hk
  have HML := hide hml
  have HNM := hide hnm
  have HSUB := hide hsub
  have hlt : mb < w.heap.size := by obtain ⟨pv, qv, nv, hM⟩ := h.mz; exact hM.lt
  have hbl := hK.lt
  have HI0 : Hid (KInv w w B B2 mb tv n ways nums sz k t t.sub p st 0 0 [] n sz [] [] b sa l.length sc) := ⟨PInv.start (Fr.refl _ _) h.tp h.mz (by omega), hK, h.hB, h.hBB, h.h2, hr⟩
  clear h hr hk HV hK hml hnm hsub
  go_enter Tryz.func24, Tryz.ntmps24
  go_wp2_with fail
  go_loopw [21, 22, 23, 24, 25] (fun tx bx iv _ _ wr => ∃ (i n' sz' : Nat) (vs : List PV) (acc bacc : Bs), i ≤ l.length ∧ iv = .int .i64 i ∧ tx = .string (ba acc) ∧ bx = .string (ba bacc) ∧ acc.length ≤ 100000000 ∧ bacc.length ≤ 100000000 ∧ Hid (KInv w wr B B2 mb tv n ways nums sz k t t.sub p st 0 i vs n' sz' acc bacc b sa l.length sc)) (fun _ _ iv _ _ _ => l.length - (intOf iv).toNat)
  case atStart => exact ⟨0, n, sz, [], [], [], by omega, rfl, rfl, rfl, by simp, by simp, HI0⟩
  case round =>
    obtain ⟨i, n', sz', vs, acc, bacc, hi, rfl, rfl, rfl, hal, hbl2, HI⟩ := hrel
    have hzb : (ba bacc).size = bacc.length := ba_size _
    have d1 := HI.out.ki.c1
    by_cases hid : i < l.length
    · have hidI : (i : Int) < (l.length : Int) := by omega
      obtain ⟨u, hu⟩ : ∃ u, l[i]? = some u := ⟨_, List.getElem?_eq_getElem hid⟩
      obtain ⟨fb, off, c, hsa, hxf, d2, hSc⟩ := HI.out.ki.kid i u (by rw [HSUB.out]; exact hu)
      subst hsa
      have hus : t.sub i = u := by unfold PT.sub; rw [HSUB.out, hu]; rfl
      have hmu := HML.out u (List.mem_of_getElem? hu)
      have HG : Hid (Fr Zero wr wr.drew) := Fr.drew _ _
      have HP1 : Hid (p.length ≤ 1000000) := by have := HR.out.p; show _ ≤ _; omega
      have HP2 : Hid (st.length ≤ 1000000) := by have := HR.out.st; show _ ≤ _; omega
      have HD1 : Hid (([UInt8.ofNat (97 + i)] : Bs).length ≤ 1000000) := by show _ ≤ _; simp
      have HST : Hid (under p [UInt8.ofNat (97 + i)] = under p (stepOf t 0 i)) := by show _ = _; unfold stepOf; rw [if_neg (by have := HK.out; omega), if_neg (by have := HK.out; omega), if_pos HK.out, HNM.out i hid]
      have HSA : Hid (under st [UInt8.ofNat (97 + i)] = under st (starOf t 0 i)) := by show _ = _; unfold starOf stepOf; rw [if_neg (by have := HK.out; omega), if_neg (by have := HK.out; omega), if_neg (by have := HK.out; omega), if_pos HK.out, HNM.out i hid]
      have HVC : Hid (∀ W, Fr Zero wr W → Calls Tryz.prog 14 #[.pointer (some ⟨mb, 0, none⟩), .pointer (some c), .string (ba (under p [UInt8.ofNat (97 + i)])), .string (ba (under st [UInt8.ofNat (97 + i)]))] W fun e w' => ValPost W B2 mb tv n' (ways ++ wayK k p t 0 vs) (nums ++ numK k st t 0 vs) sz' k (t.sub i) (under p [UInt8.ofNat (97 + i)]) (under st [UInt8.ofNat (97 + i)]) e w') := fun W hf =>
        (HI.out.quiet hf).call (sub := t.sub) HVV.out (by omega) (by rw [hus]; exact SRep.keep hf.of0 _ _ _ hSc) (by rw [hus]; exact hmu) (by simp) (by simp)
      have hca := HI.out.pi.ct
      have hcb := HI.out.pi.cm
      have hm1 : i * (CM k + 1) ≤ 2 * (CM k + 1) := Nat.mul_le_mul_right _ (by omega)
      have hm2 : i * CM k ≤ 2 * CM k := Nat.mul_le_mul_right _ (by omega)
      clear hu hus hmu hSc
      by_cases hi0 : i = 0
      · have hz1 := ba_size acc
        have HSEP : Hid ((if i = 0 then ([] : Bs) else [44]) = []) := if_pos hi0
        subst hi0
        rw [Nat.add_zero] at d2
        have HKN : Hid (∀ W, Calls Tryz.prog 23 #[.int .i64 0] W fun e w' => e = .returned (.string (ba [UInt8.ofNat (97 + 0)])) ∧ Fr Zero W w') := fun W => kname_any 0 (by omega) W
        generalize UInt8.ofNat (97 + 0) = y at *
        go_wp2_with fail
        go_region_held3 (fun W => W.cell? ⟨b, 1, none⟩ = some (.slice (some ⟨fb, off, none⟩) l.length sc) ∧ W.cell? ⟨fb, off, none⟩ = some (.pointer (some c))) (first | exact ⟨by assumption, by assumption⟩) (first | (go_at_call 39; refine (kunder_any _ _ (by first | exact HP1.out | exact HP2.out) (by exact HD1.out) _).mono ?_; rintro e w' ⟨rfl, rfl⟩) | (go_at_call 23; refine (HKN.out _).mono ?_; rintro e w4 ⟨rfl, hF4⟩; replace d1 := (hF4.cell (a := ⟨b, 1, none⟩) (World.block_lt_of_cell? _ _ d1) (fun h => h)).trans d1; replace d2 := (hF4.cell (a := ⟨fb, off, none⟩) (World.block_lt_of_cell? _ _ d2) (fun h => h)).trans d2; replace HG := hide (HG.out.trans hF4); clear hF4) | (go_at_call 14; refine (HVC.out _ HG.out).mono ?_; rintro e w5 ⟨v, n2, sz2, rfl, ho⟩; replace d1 := (ho.fr.cell (a := ⟨b, 1, none⟩) (World.block_lt_of_cell? _ _ d1) hxb).trans d1; replace d2 := (ho.fr.cell (a := ⟨fb, off, none⟩) (World.block_lt_of_cell? _ _ d2) hxf).trans d2; have HI5 := hide ((HI.out.quiet HG.out).more HST.out HSA.out ho); have hct := ho.ct; have hcm := ho.cm; have hzx := ba_size (wText k v); have hzm := ba_size (wMsg k v); have n1 : ¬ 9223372036854775807 < acc.length + (wText k v).length := (by omega); have n2' : ¬ 9223372036854775807 < bacc.length + (wMsg k v).length := (by omega); clear ho))
        all_goals
          go_wp2_with fail
          refine ⟨⟨0 + 1, n2, sz2, vs ++ [v], acc ++ wText k v, bacc ++ wMsg k v, by omega, rfl, by rw [ba_append], by rw [ba_append], by rw [List.length_append]; omega, by rw [List.length_append]; omega, ?_⟩, by simp [intOf]; omega⟩
          exact hide (by simpa using HI5.out)
      · have a44 : ba acc ++ ⟨#[44]⟩ = ba (acc ++ [44]) := ba_append acc [44]
        have hz0 := ba_size acc
        have hz1 : (ba (acc ++ [44])).size = acc.length + 1 := by rw [ba_size]; simp
        have n0 : ¬ 9223372036854775807 < acc.length + 1 := by omega
        have hi0I : (0 : Int) < (i : Int) := by omega
        have HSEP : Hid ((if i = 0 then ([] : Bs) else [44]) = [44]) := if_neg hi0
        clear hi0
        have HKN : Hid (∀ W, Calls Tryz.prog 23 #[.int .i64 i] W fun e w' => e = .returned (.string (ba [UInt8.ofNat (97 + i)])) ∧ Fr Zero W w') := fun W => kname_any i (by omega) W
        generalize UInt8.ofNat (97 + i) = y at *
        go_wp2_with fail
        go_region_held3 (fun W => W.cell? ⟨b, 1, none⟩ = some (.slice (some ⟨fb, off, none⟩) l.length sc) ∧ W.cell? ⟨fb, off + i, none⟩ = some (.pointer (some c))) (first | exact ⟨by assumption, by assumption⟩) (first | (go_at_call 39; refine (kunder_any _ _ (by first | exact HP1.out | exact HP2.out) (by exact HD1.out) _).mono ?_; rintro e w' ⟨rfl, rfl⟩) | (go_at_call 23; refine (HKN.out _).mono ?_; rintro e w4 ⟨rfl, hF4⟩; replace d1 := (hF4.cell (a := ⟨b, 1, none⟩) (World.block_lt_of_cell? _ _ d1) (fun h => h)).trans d1; replace d2 := (hF4.cell (a := ⟨fb, off + i, none⟩) (World.block_lt_of_cell? _ _ d2) (fun h => h)).trans d2; replace HG := hide (HG.out.trans hF4); clear hF4) | (go_at_call 14; refine (HVC.out _ HG.out).mono ?_; rintro e w5 ⟨v, n2, sz2, rfl, ho⟩; replace d1 := (ho.fr.cell (a := ⟨b, 1, none⟩) (World.block_lt_of_cell? _ _ d1) hxb).trans d1; replace d2 := (ho.fr.cell (a := ⟨fb, off + i, none⟩) (World.block_lt_of_cell? _ _ d2) hxf).trans d2; have HI5 := hide ((HI.out.quiet HG.out).more HST.out HSA.out ho); have hct := ho.ct; have hcm := ho.cm; have hzx := ba_size (wText k v); have hzm := ba_size (wMsg k v); have n1 : ¬ 9223372036854775807 < acc.length + 1 + (wText k v).length := (by omega); have n2' : ¬ 9223372036854775807 < bacc.length + (wMsg k v).length := (by omega); clear ho))
        all_goals
          go_wp2_with fail
          refine ⟨⟨i + 1, n2, sz2, vs ++ [v], acc ++ [44] ++ wText k v, bacc ++ wMsg k v, by omega, by go_num, by rw [ba_append], by rw [ba_append], by simp only [List.length_append, List.length_cons, List.length_nil]; omega, by rw [List.length_append]; omega, ?_⟩, by simp [intOf]; omega⟩
          exact hide (by have := HI5.out; rw [HSEP.out] at this; exact this)
    · have hidI : ¬ (i : Int) < (l.length : Int) := by omega
      obtain rfl : i = l.length := by omega
      have a1 : ⟨#[123]⟩ ++ ba acc = ba (123 :: acc) := ba_append [123] acc
      have a2 : ba (123 :: acc) ++ ⟨#[125]⟩ = ba (123 :: (acc ++ [125])) := ba_append (123 :: acc) [125]
      have z0 := ba_size acc
      have z2 : (ba (123 :: acc)).size = acc.length + 1 := ba_size _
      have n1 : ¬ 9223372036854775807 < 1 + acc.length := by omega
      have n2 : ¬ 9223372036854775807 < acc.length + 1 + 1 := by omega
      go_wp2_with fail
      go_ret2
      have hk := HK.out
      have hlen := HI.out.pi.len
      have e1 : wText (k + 1) (vParts t 0 vs) = 123 :: (acc ++ [125]) := by unfold vParts; rw [wText_mk, if_neg (by omega), if_neg (by omega), if_neg (by omega), if_neg (by omega), if_neg (by omega), if_neg (by omega), if_pos hk, HI.out.pi.ea]
      have e2 : wMsg (k + 1) (vParts t 0 vs) = bacc := by
        unfold vParts
        rw [wMsg_mk, if_neg (by omega), if_neg (by omega), if_neg (by omega), if_neg (by omega), if_neg (by omega), if_pos (by omega), HI.out.pi.eb]
      refine ⟨vParts t 0 vs, n', sz', ?_, HI.out.pi.out (by omega) (by omega) ⟨rfl, ?_⟩ (by rw [e1]; simp) (by rw [e2]; simp)⟩
      · rw [e1, e2]; rfl
      · rw [if_neg (by omega), if_neg (by omega), if_neg (by omega), if_neg (by omega), if_neg (by omega), if_neg (by omega), if_neg (by omega), if_pos hk]
        exact ⟨rfl, rfl, by rw [HSUB.out]; exact hlen, HI.out.pi.val⟩

end Go.Proofs.YtdcjogpkogidaaaGreatDoor.Q
end
