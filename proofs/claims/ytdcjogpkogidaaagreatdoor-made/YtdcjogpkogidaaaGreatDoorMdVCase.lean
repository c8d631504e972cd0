/- How choices are read of a text. -/
import Derived.Test.YtdcjogpkogidaaaGreatDoorMdVSub
section
namespace Go.Proofs.YtdcjogpkogidaaaGreatDoor
open Go.RowKit

theorem rFields_cons (rd : PT → Bs → Option PV × Bs) (t : PT) (ts : List PT) (ahead : Nat) (acc : List PV) (l : Bs) : rFields rd (t :: ts) ahead acc l = match rAcc ahead l with
    | none => (none, l)
    | some l1 => match rd t l1 with
      | (none, l2) => (none, l2)
      | (some v, l2) => rFields rd ts 44 (acc ++ [v]) l2 := rfl

set_option maxHeartbeats 8000000 in
set_option maxRecDepth 100000 in
theorem record_row {ty : TypeId} {w : World} {X : Nat → Prop} {rb : Nat} {s : ByteArray} {l : Bs} {subs : List PT} {rd : PT → Bs → Option PV × Bs} (pg pcap : Nat) (prow : List (ByteArray × Addr))
    (hT : ∀ u ∈ subs, Said ty 76 rd u s) (h : RB ty w rb s l) (hX : X rb) (hXlt : ∀ b, X b → b < w.heap.size)
    (hO : w.ownsRow 0 146 2 (.slice (some ⟨pg, 0, none⟩) prow.length pcap) prow.length (rowCells prow)) (hpg : ¬ X pg) (hlen : prow.length = subs.length) (h6 : subs.length ≤ 6)
    (htr : ∀ (j : Nat) (p : ByteArray × Addr) (u : PT), prow[j]? = some p → subs[j]? = some u → TR w X p.2 u) (hs : s.size ≤ maxLen) :
    Calls Tryz.prog 117 #[.pointer (some ⟨rb, 0, none⟩), .slice (some ⟨pg, 0, none⟩) prow.length pcap] w fun e w' => PartsPost ty w X rb s (rFields rd subs 123 [] l) e w' := by
  have HR := hide h
  have hrb := h.lt
  have HT := hide hT
  have HX := hide hXlt
  have HTR := hide htr
  have hpl : pg < w.heap.size := (hO.lt pg rfl).2
  have hpr : ¬ One rb pg := fun e => by have e' : pg = rb := e; rw [e'] at hpg; exact hpg hX
  have HPR := hide hpr
  have HPO := hide hO
  have HLEN := hide hlen
  clear h hT hXlt htr hO hpr hpg hlen
  go_enter Tryz.func117, Tryz.ntmps117
  go_wp2_with fail
  go_loopw [6, 7, 14] (fun ev av iv wr => ∃ (k : Nat) (acc : List PV) (rows : List VC) (r : Bs) (ahead : Nat), k ≤ subs.length ∧ acc.length = k ∧ iv = .int .i64 k ∧ av = .int .u8 ahead ∧ ahead < 256 ∧ Hid (rFields rd subs 123 [] l = rFields rd (subs.drop k) ahead acc r) ∧ Hid (wr.ownsRow 0 96 4 ev rows.length (vCells rows)) ∧ Hid (∀ g, ev.ownBlock = some g → w.heap.size ≤ g) ∧
        Hid (VL wr (XO X ev) rows acc) ∧ Hid (RB ty wr rb s r) ∧ Hid (Fr (One rb) w wr)) (fun _ _ iv _ => subs.length - (intOf iv).toNat)
  case atStart => exact ⟨0, [], [], l, 123, by omega, rfl, rfl, rfl, by omega, rfl, World.ownsRow_nil _ _ _ _, fun g hg => by simp [Value.ownBlock] at hg, VL.nil _ _, HR, Fr.refl _ _⟩
  case round =>
    obtain ⟨k, acc, rows, r, ahead, hk, hacc, rfl, rfl, ha256, HE, HO, HG, HVL, HRr, HF⟩ := hrel
    have hrl : Hid (rows.length = acc.length) := HVL.out.1
    obtain ⟨ea, ecap, rfl⟩ := own_slice HO.out
    have hX' : XO X (.slice ea rows.length ecap) rb := .inl hX
    have HNE : Hid (∀ g, (Value.slice ea rows.length ecap).ownBlock = some g → ¬ One rb g) := fun g hg e => by
      have e' : g = rb := e
      have := HG.out g hg
      omega
    by_cases hlt : k < subs.length
    · obtain ⟨p, hp⟩ : ∃ p, prow[k]? = some p := ⟨prow[k]'(by have := HLEN.out; omega), by simp⟩
      obtain ⟨u, hu⟩ : ∃ u, subs[k]? = some u := ⟨subs[k], by simp⟩
      have hc0 : wr.cell? ⟨pg, k * 2, none⟩ = some (.string p.1) := by
        rw [HF.out.cell (a := ⟨pg, k * 2, none⟩) hpl HPR, HPO.out.cellAt (k * 2) (by have := HLEN.out; omega)]
        exact (rowCells_get prow k p hp).1
      have hc1 : wr.cell? ⟨pg, k * 2 + 1, none⟩ = some (.pointer (some p.2)) := by
        rw [HF.out.cell (a := ⟨pg, k * 2 + 1, none⟩) hpl HPR, HPO.out.cellAt (k * 2 + 1) (by have := HLEN.out; omega)]
        exact (rowCells_get prow k p hp).2
      have HTU : Hid (TR w X p.2 u) := HTR.out k p u hp hu
      have HTS : Hid (Said ty 76 rd u s) := HT.out u (List.mem_of_getElem? hu)
      have HDR : Hid (subs.drop k = u :: subs.drop (k + 1)) := by
        show _ = _
        obtain ⟨_, he⟩ := List.getElem?_eq_some_iff.1 hu
        rw [List.drop_eq_getElem_cons hlt, he]
      have hI : (k : Int) < (prow.length : Int) := by have := HLEN.out; omega
      have HSTEP : Hid (rFields rd subs 123 [] l = match rAcc ahead r with
          | none => (none, r)
          | some l1 => match rd u l1 with
            | (none, l2) => (none, l2)
            | (some v, l2) => rFields rd (subs.drop (k + 1)) 44 (acc ++ [v]) l2) := HE.out.trans (by rw [HDR.out, rFields_cons])
      clear hp hu HE
      rcases hA : rAcc ahead r with _ | r2
      · rw [hA] at HSTEP
        have HA := hide hA
        have HX3 : Hid (rFields rd subs 123 [] l = (none, r)) := HSTEP
        clear hA HSTEP
        go_wp2_with fail
        refine (vAccept_no (HRr.out.keep (Fr.alloc Zero _ _) (fun h => h)) hs ahead HA).mono ?_
        rintro e w2 ⟨rfl, hR2, hF2⟩
        have HR2 := hide hR2
        have HF2 := hide (HF.out.trans ((Fr.alloc _ _ _).trans hF2))
        clear hR2 hF2
        go_wp2_with fail
        go_ret2
        rw [HX3.out]
        exact ⟨HF2, HR2, .slice none 0 0, ⟨_, _, _, rfl⟩, rfl, fun x hx => by cases hx⟩
      · rw [hA] at HSTEP
        have HA := hide hA
        clear hA
        go_wp2_with fail
        refine (vAccept_yes (HRr.out.keep (Fr.alloc Zero _ _) (fun h => h)) hs ahead HA).mono ?_
        rintro e w2 ⟨rfl, hR2, hF2⟩
        have HR2 := hide hR2
        have hFr2 := (Fr.alloc (One rb) wr (.cells #[.string p.1, .pointer (some p.2)] 146)).trans hF2
        have HF2 := hide (HF.out.trans hFr2)
        have HO2 := hide (ownsRow_keep HO.out hFr2 HNE.out)
        have HL2 := hide (HVL.out.keep (hFr2.mono (Y := XO X (.slice ea rows.length ecap)) (fun q _ e => by have e' : q = rb := e; rw [e']; exact hX')))
        have hpc : w2.cell? ⟨wr.heap.size, 1, none⟩ = some (.pointer (some p.2)) := by
          have hne : ¬ One rb wr.heap.size := fun e => by have e' : wr.heap.size = rb := e; have := HF.out.size; omega
          rw [cell_of_heap (hF2.keep (heap_new_at (w := wr) rfl _) hne)]
          rfl
        clear hR2 hF2 hFr2 HO HVL
        go_wp2_with fail
        refine (HTS.out _ (XO X (.slice ea rows.length ecap)) rb p.2 r2 HR2 hX' (XO.lt HX HO2 HF2.out.size) (HTU.out.past.open_ hX HF2 HG)).mono ?_
        rcases hq : rd u r2 with ⟨_ | v, r3⟩
        · simp only [hq] at HSTEP
          clear hq
          rintro e w3 ⟨hF3, hR3, ⟨ca, cn, cb, csv⟩, ⟨o, n, m, hsv⟩, rfl, -⟩
          simp only at hsv
          subst hsv
          have HX3 : Hid (rFields rd subs 123 [] l = (none, r3)) := HSTEP
          have HR3 := hide hR3
          have HF3 := hide (HF2.out.trans hF3)
          clear hR3 hF3 HSTEP
          simp only [VC.val]
          go_wp2_with fail
          go_ret2
          rw [HX3.out]
          exact ⟨HF3.out.trans (Fr.alloc _ _ _), HR3.out.keep (Fr.alloc Zero _ _) (fun h => h), .slice none 0 0, ⟨_, _, _, rfl⟩, rfl, fun x hx => by cases hx⟩
        · simp only [hq] at HSTEP
          clear hq
          rintro e w3 ⟨hF3, hR3, ⟨ca, cn, cb, csv⟩, ⟨o, n, m, hsv⟩, rfl, hv⟩
          simp only at hsv
          subst hsv
          have HX3 : Hid (rFields rd subs 123 [] l = rFields rd (subs.drop (k + 1)) 44 (acc ++ [v]) r3) := HSTEP
          have HV := hide (hv v rfl)
          have HR3 := hide hR3
          have HF3 := hide hF3
          clear hR3 hF3 hv HSTEP
          simp only [VC.val]
          obtain ⟨i0, hi, hz0, hz1, hz2⟩ := info_parts Tryz.info69
          go_wp2_with (at_builtin; refine wpList_append_mine _ rfl _ _ 94 rfl 0 96 i0 (.agg #[.pointer none, .int .i64 0, .string ⟨#[]⟩, .slice none 0 0]) 4 56 Tryz.underlying94 hi hz0 hz1 hz2 rfl (by decide) (.slice ea rows.length ecap) rows.length (vCells rows) rfl ?o1 ⟨w3.heap.size + 1, 0, none⟩ 1 1 (by omega) [.pointer (some ca), .int .i64 cn, .string (ba cb), .slice o n m] rfl rfl ?c1 ?c2 ?c3 ?c4 (Nat.zero_le _) ?_)
          case o1 => exact (ownsRow_keep HO2.out HF3 HNE.out).alloc _ |>.alloc _
          case c2 => exact ⟨rfl, rfl, rfl, rfl⟩
          case c3 => have := hrl.out; unfold maxLen; omega
          case c4 => have := hrl.out; omega
          intro v' w4 hO4 hg4 g cap hv' hgg
          have hFa : Fr (One rb) w2 ((w3.alloc (.cells #[.pointer (some ca), .int .i64 cn, .string (ba cb), .slice o n m] 96)).alloc (.cells #[.pointer (some ca), .int .i64 cn, .string (ba cb), .slice o n m] 96)) := HF3.out.trans ((Fr.alloc _ _ _).trans (Fr.alloc _ _ _))
          have hFz : Fr Zero w3 ((w3.alloc (.cells #[.pointer (some ca), .int .i64 cn, .string (ba cb), .slice o n m] 96)).alloc (.cells #[.pointer (some ca), .int .i64 cn, .string (ba cb), .slice o n m] 96)) := (Fr.alloc _ _ _).trans (Fr.alloc _ _ _)
          have hsz := HF2.out.size
          have hsz2 := hFa.size
          obtain ⟨hL4, hO5, hG4, hF4, -⟩ := VL.grow (B := w.heap.size) (c := ⟨ca, cn, cb, .slice o n m⟩) (v := v) HG (Nat.le_trans hsz hsz2) (HL2.out.keep (hFa.mono (fun q _ e => by have e' : q = rb := e; rw [e']; exact hX'))) (HV.out.keep hFz.of0) hO4 hg4 ⟨g, cap, hv', by simpa using hgg⟩
          have HF4 := hide ((HF2.out.trans hFa).past hF4)
          have HR4 := hide ((HR3.out.keep hFz (fun h => h)).keep hF4 (by omega))
          have HL4 := hide hL4
          have HO5 := hide hO5
          have HG4 := hide hG4
          subst hv'
          clear hO4 hg4 hgg hFa hFz hL4 hO5 hG4 hF4 hi hz0 hz1 hz2 hsz hsz2 HNE HO2 HG HL2 HRr HF HR3 HF3 HV
          go_wp2_with fail
          go_roundw
          case rel => exact ⟨k + 1, acc ++ [v], rows ++ [⟨ca, cn, cb, .slice o n m⟩], r3, 44, by omega, by simp [hacc], by go_num, rfl, by omega, HX3, HO5, HG4, HL4, HR4, HF4⟩
          case measure => simp [intOf]; omega
    · have hkl : k = subs.length := by omega
      subst hkl
      have hI : ¬ (subs.length : Int) < (prow.length : Int) := by have := HLEN.out; omega
      have HX3 : Hid (rFields rd subs 123 [] l = match rAcc 125 r with
        | some l1 => (some acc, l1)
        | none => (none, r)) := HE.out.trans (by rw [List.drop_length]; rfl)
      clear HE
      rcases hA : rAcc 125 r with _ | r2
      · rw [hA] at HX3
        have HA := hide hA
        have HX4 : Hid (rFields rd subs 123 [] l = (none, r)) := HX3
        clear hA HX3
        go_wp2_with fail
        refine (vAccept_no HRr hs 125 HA).mono ?_
        rintro e w2 ⟨rfl, hR2, hF2⟩
        have HR2 := hide hR2
        have HF2 := hide (HF.out.trans hF2)
        clear hR2 hF2
        go_wp2_with fail
        go_ret2
        rw [HX4.out]
        exact ⟨HF2, HR2, .slice ea rows.length ecap, ⟨_, _, _, rfl⟩, rfl, fun x hx => by cases hx⟩
      · rw [hA] at HX3
        have HA := hide hA
        have HX4 : Hid (rFields rd subs 123 [] l = (some acc, r2)) := HX3
        clear hA HX3
        go_wp2_with fail
        refine (vAccept_yes HRr hs 125 HA).mono ?_
        rintro e w2 ⟨rfl, hR2, hF2⟩
        have HR2 := hide hR2
        have HF2 := hide (HF.out.trans hF2)
        have HO2 := hide (ownsRow_keep HO.out hF2 HNE.out)
        have HL2 := hide (HVL.out.keep (hF2.mono (Y := XO X (.slice ea rows.length ecap)) (fun q _ e => by have e' : q = rb := e; rw [e']; exact hX')))
        clear hR2 hF2
        go_wp2_with fail
        go_ret2
        rw [HX4.out]
        exact ⟨HF2, HR2, _, ⟨_, _, _, rfl⟩, rfl, fun x hx => by simp at hx; subst hx; exact ⟨_, HO2, HG, HL2⟩⟩

end Go.Proofs.YtdcjogpkogidaaaGreatDoor
end
section
namespace Go.Proofs.YtdcjogpkogidaaaGreatDoor
open Go.RowKit

theorem Tryz.info9 : (Tryz.prog.info? 9).map (fun i => (i.zero, i.size, i.bytes)) = some (some (.string ⟨#[]⟩), 1, 16) := by kernel_rfl

/-- What a reader of a choice leaves. -/
def CasePost (ty : TypeId) (w : World) (X : Nat → Prop) (rb : Nat) (s : ByteArray) (res : Option (Nat × PV) × Bs) (e : Ending) (w' : World) : Prop :=
  Fr (One rb) w w' ∧ RB ty w' rb s res.2 ∧ ∃ (n : Int) (sv : Value), (∃ o m k, sv = .slice o m k) ∧ e = .returned (.tuple #[.int .i64 n, sv, .bool res.1.isSome]) ∧ (∀ i v, res.1 = some (i, v) → n = i ∧ ∃ rows : List VC, w'.ownsRow 0 96 4 sv rows.length (vCells rows) ∧ (∀ g, sv.ownBlock = some g → w.heap.size ≤ g) ∧ VL w' (XO X sv) rows [v])

theorem name_colon (n : ByteArray) : n ++ ⟨#[58]⟩ = ba (nameBs n) := by
  apply bytes_data
  simp [ba, nameBs]

theorem oneOf_at {ty : TypeId} {w : World} {rb : Nat} {s : ByteArray} {l : Bs} (g cap n : Nat) (ws : List Bs) (hn : n = ws.length) (hl : ws.length ≤ 1000) (hx : ∀ x ∈ ws, x.length ≤ 1000) (hown : w.ownsRow 0 9 1 (.slice (some ⟨g, 0, none⟩) n cap) n (sCells ws)) (hgr : g ≠ rb)
    (h : RB ty w rb s l) (hs : s.size ≤ maxLen) :
    Calls Tryz.prog 112 #[.pointer (some ⟨rb, 0, none⟩), .slice (some ⟨g, 0, none⟩) n cap] w fun e w' => NumPost ty w rb s ((rOne ws [] l).1.map Int.ofNat, (rOne ws [] l).2) e w' := by
  subst hn
  exact oneOf_any g cap ws hl hx hown hgr h hs

set_option maxHeartbeats 8000000 in
set_option maxRecDepth 100000 in
theorem choice_row {ty : TypeId} {w : World} {X : Nat → Prop} {rb : Nat} {s : ByteArray} {l : Bs} {t : PT} {rd : PT → Bs → Option PV × Bs} (pg pcap : Nat) (prow : List (ByteArray × Addr))
    (hT : ∀ u ∈ t.subs, Said ty 76 rd u s) (h : RB ty w rb s l) (hX : X rb) (hXlt : ∀ b, X b → b < w.heap.size)
    (hO : w.ownsRow 0 146 2 (.slice (some ⟨pg, 0, none⟩) prow.length pcap) prow.length (rowCells prow)) (hpg : ¬ X pg) (hlen : prow.length = t.subs.length) (hnm : prow.map (·.1) = t.names) (h0 : 0 < prow.length) (h6 : prow.length ≤ 6) (hns : ∀ p ∈ prow, p.1.size ≤ 400)
    (htr : ∀ (j : Nat) (p : ByteArray × Addr) (u : PT), prow[j]? = some p → t.subs[j]? = some u → TR w X p.2 u) (hs : s.size ≤ maxLen) :
    Calls Tryz.prog 118 #[.pointer (some ⟨rb, 0, none⟩), .slice (some ⟨pg, 0, none⟩) prow.length pcap] w fun e w' => CasePost ty w X rb s (rCase rd t l) e w' := by
  have HR := hide h
  have hrb := h.lt
  have HT := hide hT
  have HX := hide hXlt
  have HTR := hide htr
  have hpl : pg < w.heap.size := (hO.lt pg rfl).2
  have hpr : ¬ One rb pg := fun e => by have e' : pg = rb := e; rw [e'] at hpg; exact hpg hX
  have HPR := hide hpr
  have HPO := hide hO
  have HLEN := hide hlen
  have HNS := hide hns
  obtain ⟨ws, hws⟩ : ∃ ws, ws = prow.map (fun p => nameBs p.1) := ⟨_, rfl⟩
  have HNM : Hid (t.names.map nameBs = ws) := by show _ = _; rw [hws, ← hnm, List.map_map]; rfl
  have HWL : Hid (ws.length = prow.length) := by show _ = _; rw [hws, List.length_map]
  have HWG : Hid (∀ (k : Nat) (p : ByteArray × Addr), prow[k]? = some p → ws[k]? = some (nameBs p.1)) := fun k p hp => by rw [hws, List.getElem?_map, hp]; rfl
  have HWX : Hid (∀ x ∈ ws, x.length ≤ 1000) := fun x hx => by
    rw [hws] at hx
    obtain ⟨p, hp, rfl⟩ := List.mem_map.1 hx
    have h1 := hns p hp
    have h2 : p.1.data.toList.length = p.1.size := by rw [Array.length_toList]; rfl
    rw [nameBs, List.length_append, h2]
    simp; omega
  clear h hT hXlt htr hO hpr hpg hlen hns hnm hws
  go_enter Tryz.func118, Tryz.ntmps118
  go_wp2_with fail
  go_loopw [7, 15] (fun nv iv wr => ∃ k : Nat, k ≤ prow.length ∧ iv = .int .i64 k ∧ Hid (wr.ownsRow 0 9 1 nv k (sCells (ws.take k))) ∧ Hid (∀ g, nv.ownBlock = some g → w.heap.size ≤ g) ∧ Hid (Fr Zero w wr)) (fun _ iv _ => prow.length - (intOf iv).toNat)
  case atStart => exact ⟨0, by omega, rfl, World.ownsRow_nil _ _ _ _, fun g hg => by simp [Value.ownBlock] at hg, Fr.refl _ _⟩
  case round =>
    obtain ⟨k, hk, rfl, HO, HG, HF⟩ := hrel
    obtain ⟨ea, ecap, rfl⟩ := own_slice HO.out
    by_cases hlt : k < prow.length
    · obtain ⟨p, hp⟩ : ∃ p, prow[k]? = some p := ⟨prow[k], by simp⟩
      have hc0 : wr.cell? ⟨pg, k * 2, none⟩ = some (.string p.1) := by
        rw [HF.out.cell (a := ⟨pg, k * 2, none⟩) hpl (fun h => h), HPO.out.cellAt (k * 2) (by omega)]
        exact (rowCells_get prow k p hp).1
      have hc1 : wr.cell? ⟨pg, k * 2 + 1, none⟩ = some (.pointer (some p.2)) := by
        rw [HF.out.cell (a := ⟨pg, k * 2 + 1, none⟩) hpl (fun h => h), HPO.out.cellAt (k * 2 + 1) (by omega)]
        exact (rowCells_get prow k p hp).2
      have hpn := HNS.out p (List.mem_of_getElem? hp)
      have HTK : Hid (ws.take (k + 1) = ws.take k ++ [nameBs p.1]) := by
        show _ = _
        obtain ⟨hq, he⟩ := List.getElem?_eq_some_iff.1 (HWG.out k p hp)
        rw [List.take_succ_eq_append_getElem hq, he]
      have happ := name_colon p.1
      have hpN : ¬ (9223372036854775807 < p.1.size + 1) := by omega
      have hpI : ((p.1.size : Nat) : Int) + 1 ≤ 9223372036854775807 := by omega
      have hI : (k : Int) < (prow.length : Int) := by omega
      clear hp
      obtain ⟨i0, hi, hz0, hz1, hz2⟩ := info_parts Tryz.info9
      go_wp2_with (at_builtin; refine wpList_append_mine _ rfl _ _ 33 rfl 0 9 i0 (.string ⟨#[]⟩) 1 16 Tryz.underlying33 hi hz0 hz1 hz2 rfl (by decide) (.slice ea k ecap) k (sCells (ws.take k)) rfl ?o1 ⟨wr.heap.size + 1, 0, none⟩ 1 1 (by omega) [.string (ba (nameBs p.1))] rfl rfl ?c1 ?c2 ?c3 ?c4 (Nat.zero_le _) ?_)
      case o1 => exact (HO.out.alloc _).alloc _
      case c1 =>
        intro j u hj
        match j, hj with
        | 0, hj => simp at hj; subst hj; simp [Addr.add]
        | j + 1, hj => simp at hj
      case c2 => intro u hu; simp at hu; subst hu; rfl
      case c3 => unfold maxLen; omega
      case c4 => omega
      intro v' w4 hO4 hg4 g cap hv' hgg
      have hsz := HF.out.size
      have hF4 : Fr (fun b => w.heap.size ≤ b) ((wr.alloc (.cells #[.string p.1, .pointer (some p.2)] 146)).alloc (.cells #[.string (ba (nameBs p.1))] 9)) w4 := Fr.grown hg4 (fun k e _ => HG.out k e)
      have HF4 : Hid (Fr Zero w w4) := (HF.out.trans ((Fr.alloc _ _ _).trans (Fr.alloc _ _ _))).past hF4
      have HO4 : Hid (w4.ownsRow 0 9 1 v' (k + 1) (sCells (ws.take (k + 1)))) := by
        show World.ownsRow _ _ _ _ _ _ _
        rw [HTK.out]
        simpa [sCells] using hO4
      have HG4 : Hid (∀ g, v'.ownBlock = some g → w.heap.size ≤ g) := fun g' hg' => by
        rw [hv'] at hg'
        simp [Value.ownBlock] at hg'
        subst hg'
        rcases hgg with h' | h'
        · exact HG.out _ h'
        · omega
      subst hv'
      clear hO4 hg4 hgg hF4 hi hz0 hz1 hz2 hsz happ hpN hpI
      go_wp2_with fail
      exact ⟨⟨k + 1, by omega, by go_num, HO4, HG4, HF4⟩, by simp [intOf]; omega⟩
    · have hkl : k = prow.length := by omega
      subst hkl
      have hI : ¬ (prow.length : Int) < (prow.length : Int) := by omega
      have HO' : Hid (wr.ownsRow 0 9 1 (.slice ea prow.length ecap) prow.length (sCells ws)) := by
        have h' := HO.out
        rw [List.take_of_length_le (by have := HWL.out; omega)] at h'
        exact h'
      obtain ⟨g, rfl⟩ : ∃ g, ea = some ⟨g, 0, none⟩ := by
        rcases HO'.out.2 with ⟨_, hz⟩ | ⟨g, cap, cur, hv, _⟩
        · omega
        · simp at hv; exact ⟨g, hv.1⟩
      have hgr : g ≠ rb := by have := HG.out g rfl; omega
      have HRr := hide (HR.out.keep HF (fun h => h))
      have HU : Hid (rCase rd t l = match rOne ws [] l with
          | (none, l1) => (none, l1)
          | (some i, l1) => ((rd (t.sub i) l1).1.map (fun v => (i, v)), (rd (t.sub i) l1).2)) := by show _ = _; unfold rCase; rw [HNM.out]; rfl
      clear HO
      go_wp2_with fail
      refine (oneOf_at g ecap prow.length ws HWL.out.symm (by have := HWL.out; omega) HWX HO' hgr HRr hs).mono ?_
      rcases hq : rOne ws [] l with ⟨_ | i, l1⟩
      · rw [hq] at HU
        have HE : Hid (rCase rd t l = (none, l1)) := HU
        clear hq HU
        rintro e w2 ⟨hF2, hR2, n, rfl, -⟩
        have HF2 := hide (HF.out.of0.trans hF2)
        have HR2 := hide hR2
        clear hF2 hR2
        go_wp2_with fail
        go_ret3
        rw [HE.out]
        exact ⟨HF2, HR2, 0, .slice none 0 0, ⟨_, _, _, rfl⟩, rfl, fun i v hx => by cases hx⟩
      · rw [hq] at HU
        have HE : Hid (rCase rd t l = ((rd (t.sub i) l1).1.map (fun v => (i, v)), (rd (t.sub i) l1).2)) := HU
        obtain ⟨x, pre, hwi, _, _⟩ := rOne_sound ws l [] i l1 hq
        have hil : i < prow.length := by have := (List.getElem?_eq_some_iff.1 hwi).1; have := HWL.out; omega
        clear hq HU hwi
        rintro e w2 ⟨hF2, hR2, n, rfl, hn⟩
        have hni : n = i := hn i rfl
        subst hni
        have HF2 := hide (HF.out.of0.trans hF2)
        have HR2 := hide hR2
        clear hF2 hR2 hn
        obtain ⟨p, hp⟩ : ∃ p, prow[i]? = some p := ⟨prow[i], by simp⟩
        have hiu : i < t.subs.length := by have := HLEN.out; omega
        have HTU : Hid (TR w X p.2 (t.sub i)) := HTR.out i p _ hp (PT.sub_some hiu)
        have HTS : Hid (Said ty 76 rd (t.sub i) s) := HT.out _ (List.mem_of_getElem? (PT.sub_some hiu))
        have hc1 : w2.cell? ⟨pg, i * 2 + 1, none⟩ = some (.pointer (some p.2)) := by
          rw [HF2.out.cell (a := ⟨pg, i * 2 + 1, none⟩) hpl HPR, HPO.out.cellAt (i * 2 + 1) (by omega)]
          exact (rowCells_get prow i p hp).2
        have hiI : (i : Int) < (prow.length : Int) := by omega
        clear hp
        go_wp2_with fail
        refine (HTS.out _ X rb p.2 l1 HR2 hX (fun b hb => Nat.lt_of_lt_of_le (HX.out b hb) HF2.out.size) (HTU.out.keep (HF2.out.one hX))).mono ?_
        rcases hq2 : rd (t.sub i) l1 with ⟨q, r3⟩
        rw [hq2] at HE
        clear hq2
        rintro e w3 ⟨hF3, hR3, ⟨ca, cn, cb, csv⟩, ⟨o, m, j, hsv⟩, rfl, hv⟩
        simp only at hsv
        subst hsv
        have HV := hide hv
        have HR3 := hide hR3
        have HF3 := hide (HF2.out.trans hF3)
        clear hR3 hF3 hv
        simp only [VC.val]
        go_wp2_with fail
        go_region
        go_wp2_with fail
        go_ret3
        rw [HE.out]
        have hFz : Fr Zero w3 (((w3.alloc (.cells #[.pointer (some ca), .int .i64 cn, .string (ba cb), .slice o m j] 96)).alloc (.cells #[.pointer (some ca), .int .i64 cn, .string (ba cb), .slice o m j] 96)).drew) := (Fr.alloc _ _ _).trans ((Fr.alloc _ _ _).trans (Fr.drew _ _))
        refine ⟨HF3.out.trans hFz.of0, HR3.out.keep hFz (fun h => h), i, .slice (some ⟨w3.heap.size + 1, 0, none⟩) 1 1, ⟨_, _, _, rfl⟩, ?_, fun i' v hx => ?_⟩
        · have : (Option.map (fun v => (i, v)) q).isSome = q.isSome := by cases q <;> rfl
          simp only [this]
          rfl
        · simp only [Option.map_eq_some_iff] at hx
          obtain ⟨v', hq, he⟩ := hx
          simp at he
          obtain ⟨rfl, rfl⟩ := he
          have hw3 := HF3.out.size
          have hnew : (((w3.alloc (.cells #[.pointer (some ca), .int .i64 cn, .string (ba cb), .slice o m j] 96)).alloc (.cells #[.pointer (some ca), .int .i64 cn, .string (ba cb), .slice o m j] 96)).drew).heap[w3.heap.size + 1]? = some (.cells #[.pointer (some ca), .int .i64 cn, .string (ba cb), .slice o m j] 96 (0, 0)) := heap_new_at (w := w3.alloc (.cells #[.pointer (some ca), .int .i64 cn, .string (ba cb), .slice o m j] 96)) (by simp) _
          exact ⟨rfl, [⟨ca, cn, cb, .slice o m j⟩], own_one (c := ⟨ca, cn, cb, .slice o m j⟩) hnew, fun g hg => by simp [Value.ownBlock] at hg; omega, VL.snoc (rows := []) (VL.nil _ _) ((HV.out v' hq).past hFz (fun g hg => by simp [Value.ownBlock] at hg; omega))⟩

end Go.Proofs.YtdcjogpkogidaaaGreatDoor
end
