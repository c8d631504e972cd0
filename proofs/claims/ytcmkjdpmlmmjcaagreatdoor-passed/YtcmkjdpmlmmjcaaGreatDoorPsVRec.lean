/- How records and choices are read of a text. -/
import Derived.Test.YtcmkjdpmlmmjcaaGreatDoorPsVSub
namespace Go.Proofs.YtcmkjdpmlmmjcaaGreatDoor
open Go.RowKit

theorem rFields_cons (rd : PT → Bs → Option PV × Bs) (t : PT) (ts : List PT) (ahead : Nat) (acc : List PV) (l : Bs) : rFields rd (t :: ts) ahead acc l = match rAcc ahead l with
    | none => (none, l)
    | some l1 => match rd t l1 with
      | (none, l2) => (none, l2)
      | (some v, l2) => rFields rd ts 44 (acc ++ [v]) l2 := rfl

set_option maxHeartbeats 8000000 in
set_option maxRecDepth 100000 in
theorem record_row {ty : TypeId} {w : World} {X : Nat → Prop} {rb : Nat} {s : ByteArray} {l : Bs} {subs : List PT} {rd : PT → Bs → Option PV × Bs} (pg pcap : Nat) (prow : List (ByteArray × Addr))
    (hT : ∀ u ∈ subs, Said ty 51 rd u s) (h : RB ty w rb s l) (hX : X rb) (hXlt : ∀ b, X b → b < w.heap.size)
    (hO : w.ownsRow 0 89 2 (.slice (some ⟨pg, 0, none⟩) prow.length pcap) prow.length (rowCells prow)) (hpg : ¬ X pg) (hlen : prow.length = subs.length) (h6 : subs.length ≤ 6)
    (htr : ∀ (j : Nat) (p : ByteArray × Addr) (u : PT), prow[j]? = some p → subs[j]? = some u → TR w X p.2 u) (hs : s.size ≤ maxLen) :
    Calls Tryz.prog 71 #[.pointer (some ⟨rb, 0, none⟩), .slice (some ⟨pg, 0, none⟩) prow.length pcap] w fun e w' => PartsPost ty w X rb s (rFields rd subs 123 [] l) e w' := by
  have HR := hide h
  have hrb := h.lt
  have HT := hide hT
  have HX := hide hXlt
  have HTR := hide htr
  have hpl : pg < w.heap.size := (hO.lt pg rfl).2
  have hpr : ¬ One rb pg := fun e => by have e' : pg = rb := e; rw [e'] at hpg; exact hpg hX
  have HPR := hide hpr
  have HPO := hide hO
  have HLEN := hide hlen
  clear h hT hXlt htr hO hpr hpg hlen
  go_enter Tryz.func71, Tryz.ntmps71
  go_wp2_with fail
  go_loopw [6, 7, 14] (fun ev av iv wr => ∃ (k : Nat) (acc : List PV) (rows : List VC) (r : Bs) (ahead : Nat), k ≤ subs.length ∧ acc.length = k ∧ iv = .int .i64 k ∧ av = .int .u8 ahead ∧ ahead < 256 ∧ Hid (rFields rd subs 123 [] l = rFields rd (subs.drop k) ahead acc r) ∧ Hid (wr.ownsRow 0 75 4 ev rows.length (vCells rows)) ∧ Hid (∀ g, ev.ownBlock = some g → w.heap.size ≤ g) ∧
        Hid (VL wr (XO X ev) rows acc) ∧ Hid (RB ty wr rb s r) ∧ Hid (Fr (One rb) w wr)) (fun _ _ iv _ => subs.length - (intOf iv).toNat)
  case atStart => exact ⟨0, [], [], l, 123, by omega, rfl, rfl, rfl, by omega, rfl, World.ownsRow_nil _ _ _ _, fun g hg => by simp [Value.ownBlock] at hg, VL.nil _ _, HR, Fr.refl _ _⟩
  case round =>
    obtain ⟨k, acc, rows, r, ahead, hk, hacc, rfl, rfl, ha256, HE, HO, HG, HVL, HRr, HF⟩ := hrel
    have hrl : Hid (rows.length = acc.length) := HVL.out.1
    obtain ⟨ea, ecap, rfl⟩ := own_slice HO.out
    have hX' : XO X (.slice ea rows.length ecap) rb := .inl hX
    have HNE : Hid (∀ g, (Value.slice ea rows.length ecap).ownBlock = some g → ¬ One rb g) := fun g hg e => by
      have e' : g = rb := e
      have := HG.out g hg
      omega
    by_cases hlt : k < subs.length
    · obtain ⟨p, hp⟩ : ∃ p, prow[k]? = some p := ⟨prow[k]'(by have := HLEN.out; omega), by simp⟩
      obtain ⟨u, hu⟩ : ∃ u, subs[k]? = some u := ⟨subs[k], by simp⟩
      have hc0 : wr.cell? ⟨pg, k * 2, none⟩ = some (.string p.1) := by
        rw [HF.out.cell (a := ⟨pg, k * 2, none⟩) hpl HPR, HPO.out.cellAt (k * 2) (by have := HLEN.out; omega)]
        exact (rowCells_get prow k p hp).1
      have hc1 : wr.cell? ⟨pg, k * 2 + 1, none⟩ = some (.pointer (some p.2)) := by
        rw [HF.out.cell (a := ⟨pg, k * 2 + 1, none⟩) hpl HPR, HPO.out.cellAt (k * 2 + 1) (by have := HLEN.out; omega)]
        exact (rowCells_get prow k p hp).2
      have HTU : Hid (TR w X p.2 u) := HTR.out k p u hp hu
      have HTS : Hid (Said ty 51 rd u s) := HT.out u (List.mem_of_getElem? hu)
      have HDR : Hid (subs.drop k = u :: subs.drop (k + 1)) := by
        show _ = _
        obtain ⟨_, he⟩ := List.getElem?_eq_some_iff.1 hu
        rw [List.drop_eq_getElem_cons hlt, he]
      have hI : (k : Int) < (prow.length : Int) := by have := HLEN.out; omega
      have HSTEP : Hid (rFields rd subs 123 [] l = match rAcc ahead r with
          | none => (none, r)
          | some l1 => match rd u l1 with
            | (none, l2) => (none, l2)
            | (some v, l2) => rFields rd (subs.drop (k + 1)) 44 (acc ++ [v]) l2) := HE.out.trans (by rw [HDR.out, rFields_cons])
      clear hp hu HE
      rcases hA : rAcc ahead r with _ | r2
      · rw [hA] at HSTEP
        have HA := hide hA
        have HX3 : Hid (rFields rd subs 123 [] l = (none, r)) := HSTEP
        clear hA HSTEP
        go_wp2_with fail
        refine (vAccept_no (HRr.out.keep (Fr.alloc Zero _ _) (fun h => h)) hs ahead HA).mono ?_
        rintro e w2 ⟨rfl, hR2, hF2⟩
        have HR2 := hide hR2
        have HF2 := hide (HF.out.trans ((Fr.alloc _ _ _).trans hF2))
        clear hR2 hF2
        go_wp2_with fail
        go_ret2
        rw [HX3.out]
        exact ⟨HF2, HR2, .slice none 0 0, ⟨_, _, _, rfl⟩, rfl, fun x hx => by cases hx⟩
      · rw [hA] at HSTEP
        have HA := hide hA
        clear hA
        go_wp2_with fail
        refine (vAccept_yes (HRr.out.keep (Fr.alloc Zero _ _) (fun h => h)) hs ahead HA).mono ?_
        rintro e w2 ⟨rfl, hR2, hF2⟩
        have HR2 := hide hR2
        have hFr2 := (Fr.alloc (One rb) wr (.cells #[.string p.1, .pointer (some p.2)] 89)).trans hF2
        have HF2 := hide (HF.out.trans hFr2)
        have HO2 := hide (ownsRow_keep HO.out hFr2 HNE.out)
        have HL2 := hide (HVL.out.keep (hFr2.mono (Y := XO X (.slice ea rows.length ecap)) (fun q _ e => by have e' : q = rb := e; rw [e']; exact hX')))
        have hpc : w2.cell? ⟨wr.heap.size, 1, none⟩ = some (.pointer (some p.2)) := by
          have hne : ¬ One rb wr.heap.size := fun e => by have e' : wr.heap.size = rb := e; have := HF.out.size; omega
          rw [cell_of_heap (hF2.keep (heap_new_at (w := wr) rfl _) hne)]
          rfl
        clear hR2 hF2 hFr2 HO HVL
        go_wp2_with fail
        refine (HTS.out _ (XO X (.slice ea rows.length ecap)) rb p.2 r2 HR2 hX' (XO.lt HX HO2 HF2.out.size) (HTU.out.past.open_ hX HF2 HG)).mono ?_
        rcases hq : rd u r2 with ⟨_ | v, r3⟩
        · simp only [hq] at HSTEP
          clear hq
          rintro e w3 ⟨hF3, hR3, ⟨ca, cn, cb, csv⟩, ⟨o, n, m, hsv⟩, rfl, -⟩
          simp only at hsv
          subst hsv
          have HX3 : Hid (rFields rd subs 123 [] l = (none, r3)) := HSTEP
          have HR3 := hide hR3
          have HF3 := hide (HF2.out.trans hF3)
          clear hR3 hF3 HSTEP
          simp only [VC.val]
          go_wp2_with fail
          go_ret2
          rw [HX3.out]
          exact ⟨HF3.out.trans (Fr.alloc _ _ _), HR3.out.keep (Fr.alloc Zero _ _) (fun h => h), .slice none 0 0, ⟨_, _, _, rfl⟩, rfl, fun x hx => by cases hx⟩
        · simp only [hq] at HSTEP
          clear hq
          rintro e w3 ⟨hF3, hR3, ⟨ca, cn, cb, csv⟩, ⟨o, n, m, hsv⟩, rfl, hv⟩
          simp only at hsv
          subst hsv
          have HX3 : Hid (rFields rd subs 123 [] l = rFields rd (subs.drop (k + 1)) 44 (acc ++ [v]) r3) := HSTEP
          have HV := hide (hv v rfl)
          have HR3 := hide hR3
          have HF3 := hide hF3
          clear hR3 hF3 hv HSTEP
          simp only [VC.val]
          obtain ⟨i0, hi, hz0, hz1, hz2⟩ := info_parts Tryz.info69
          go_wp2_with (at_builtin; refine wpList_append_mine _ rfl _ _ 73 rfl 0 75 i0 (.agg #[.pointer none, .int .i64 0, .string ⟨#[]⟩, .slice none 0 0]) 4 56 Tryz.underlying73 hi hz0 hz1 hz2 rfl (by decide) (.slice ea rows.length ecap) rows.length (vCells rows) rfl ?o1 ⟨w3.heap.size + 1, 0, none⟩ 1 1 (by omega) [.pointer (some ca), .int .i64 cn, .string (ba cb), .slice o n m] rfl rfl ?c1 ?c2 ?c3 ?c4 (Nat.zero_le _) ?_)
          case o1 => exact (ownsRow_keep HO2.out HF3 HNE.out).alloc _ |>.alloc _
          case c2 => exact ⟨rfl, rfl, rfl, rfl⟩
          case c3 => have := hrl.out; unfold maxLen; omega
          case c4 => have := hrl.out; omega
          intro v' w4 hO4 hg4 g cap hv' hgg
          have hFa : Fr (One rb) w2 ((w3.alloc (.cells #[.pointer (some ca), .int .i64 cn, .string (ba cb), .slice o n m] 75)).alloc (.cells #[.pointer (some ca), .int .i64 cn, .string (ba cb), .slice o n m] 75)) := HF3.out.trans ((Fr.alloc _ _ _).trans (Fr.alloc _ _ _))
          have hFz : Fr Zero w3 ((w3.alloc (.cells #[.pointer (some ca), .int .i64 cn, .string (ba cb), .slice o n m] 75)).alloc (.cells #[.pointer (some ca), .int .i64 cn, .string (ba cb), .slice o n m] 75)) := (Fr.alloc _ _ _).trans (Fr.alloc _ _ _)
          have hsz := HF2.out.size
          have hsz2 := hFa.size
          obtain ⟨hL4, hO5, hG4, hF4, -⟩ := VL.grow (B := w.heap.size) (c := ⟨ca, cn, cb, .slice o n m⟩) (v := v) HG (Nat.le_trans hsz hsz2) (HL2.out.keep (hFa.mono (fun q _ e => by have e' : q = rb := e; rw [e']; exact hX'))) (HV.out.keep hFz.of0) hO4 hg4 ⟨g, cap, hv', by simpa using hgg⟩
          have HF4 := hide ((HF2.out.trans hFa).past hF4)
          have HR4 := hide ((HR3.out.keep hFz (fun h => h)).keep hF4 (by omega))
          have HL4 := hide hL4
          have HO5 := hide hO5
          have HG4 := hide hG4
          subst hv'
          clear hO4 hg4 hgg hFa hFz hL4 hO5 hG4 hF4 hi hz0 hz1 hz2 hsz hsz2 HNE HO2 HG HL2 HRr HF HR3 HF3 HV
          go_wp2_with fail
          go_roundw
          case rel => exact ⟨k + 1, acc ++ [v], rows ++ [⟨ca, cn, cb, .slice o n m⟩], r3, 44, by omega, by simp [hacc], by go_num, rfl, by omega, HX3, HO5, HG4, HL4, HR4, HF4⟩
          case measure => simp [intOf]; omega
    · have hkl : k = subs.length := by omega
      subst hkl
      have hI : ¬ (subs.length : Int) < (prow.length : Int) := by have := HLEN.out; omega
      have HX3 : Hid (rFields rd subs 123 [] l = match rAcc 125 r with
        | some l1 => (some acc, l1)
        | none => (none, r)) := HE.out.trans (by rw [List.drop_length]; rfl)
      clear HE
      rcases hA : rAcc 125 r with _ | r2
      · rw [hA] at HX3
        have HA := hide hA
        have HX4 : Hid (rFields rd subs 123 [] l = (none, r)) := HX3
        clear hA HX3
        go_wp2_with fail
        refine (vAccept_no HRr hs 125 HA).mono ?_
        rintro e w2 ⟨rfl, hR2, hF2⟩
        have HR2 := hide hR2
        have HF2 := hide (HF.out.trans hF2)
        clear hR2 hF2
        go_wp2_with fail
        go_ret2
        rw [HX4.out]
        exact ⟨HF2, HR2, .slice ea rows.length ecap, ⟨_, _, _, rfl⟩, rfl, fun x hx => by cases hx⟩
      · rw [hA] at HX3
        have HA := hide hA
        have HX4 : Hid (rFields rd subs 123 [] l = (some acc, r2)) := HX3
        clear hA HX3
        go_wp2_with fail
        refine (vAccept_yes HRr hs 125 HA).mono ?_
        rintro e w2 ⟨rfl, hR2, hF2⟩
        have HR2 := hide hR2
        have HF2 := hide (HF.out.trans hF2)
        have HO2 := hide (ownsRow_keep HO.out hF2 HNE.out)
        have HL2 := hide (HVL.out.keep (hF2.mono (Y := XO X (.slice ea rows.length ecap)) (fun q _ e => by have e' : q = rb := e; rw [e']; exact hX')))
        clear hR2 hF2
        go_wp2_with fail
        go_ret2
        rw [HX4.out]
        exact ⟨HF2, HR2, _, ⟨_, _, _, rfl⟩, rfl, fun x hx => by simp at hx; subst hx; exact ⟨_, HO2, HG, HL2⟩⟩

end Go.Proofs.YtcmkjdpmlmmjcaaGreatDoor
