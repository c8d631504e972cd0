/- How choices are read of a text. -/
import Derived.Test.YtcmkjdpmlmmjcaaGreatDoorPsVRec
namespace Go.Proofs.YtcmkjdpmlmmjcaaGreatDoor
open Go.RowKit

theorem Tryz.info9 : (Tryz.prog.info? 9).map (fun i => (i.zero, i.size, i.bytes)) = some (some (.string ⟨#[]⟩), 1, 16) := by kernel_rfl

/-- What a reader of a choice leaves. -/
def CasePost (ty : TypeId) (w : World) (X : Nat → Prop) (rb : Nat) (s : ByteArray) (res : Option (Nat × PV) × Bs) (e : Ending) (w' : World) : Prop :=
  Fr (One rb) w w' ∧ RB ty w' rb s res.2 ∧ ∃ (n : Int) (sv : Value), (∃ o m k, sv = .slice o m k) ∧ e = .returned (.tuple #[.int .i64 n, sv, .bool res.1.isSome]) ∧ (∀ i v, res.1 = some (i, v) → n = i ∧ ∃ rows : List VC, w'.ownsRow 0 75 4 sv rows.length (vCells rows) ∧ (∀ g, sv.ownBlock = some g → w.heap.size ≤ g) ∧ VL w' (XO X sv) rows [v])

theorem name_colon (n : ByteArray) : n ++ ⟨#[58]⟩ = ba (nameBs n) := by
  apply bytes_data
  simp [ba, nameBs]

theorem oneOf_at {ty : TypeId} {w : World} {rb : Nat} {s : ByteArray} {l : Bs} (g cap n : Nat) (ws : List Bs) (hn : n = ws.length) (hl : ws.length ≤ 1000) (hx : ∀ x ∈ ws, x.length ≤ 1000) (hown : w.ownsRow 0 9 1 (.slice (some ⟨g, 0, none⟩) n cap) n (sCells ws)) (hgr : g ≠ rb)
    (h : RB ty w rb s l) (hs : s.size ≤ maxLen) :
    Calls Tryz.prog 66 #[.pointer (some ⟨rb, 0, none⟩), .slice (some ⟨g, 0, none⟩) n cap] w fun e w' => NumPost ty w rb s ((rOne ws [] l).1.map Int.ofNat, (rOne ws [] l).2) e w' := by
  subst hn
  exact oneOf_any g cap ws hl hx hown hgr h hs

set_option maxHeartbeats 8000000 in
set_option maxRecDepth 100000 in
theorem choice_row {ty : TypeId} {w : World} {X : Nat → Prop} {rb : Nat} {s : ByteArray} {l : Bs} {t : PT} {rd : PT → Bs → Option PV × Bs} (pg pcap : Nat) (prow : List (ByteArray × Addr))
    (hT : ∀ u ∈ t.subs, Said ty 51 rd u s) (h : RB ty w rb s l) (hX : X rb) (hXlt : ∀ b, X b → b < w.heap.size)
    (hO : w.ownsRow 0 89 2 (.slice (some ⟨pg, 0, none⟩) prow.length pcap) prow.length (rowCells prow)) (hpg : ¬ X pg) (hlen : prow.length = t.subs.length) (hnm : prow.map (·.1) = t.names) (h0 : 0 < prow.length) (h6 : prow.length ≤ 6) (hns : ∀ p ∈ prow, p.1.size ≤ 400)
    (htr : ∀ (j : Nat) (p : ByteArray × Addr) (u : PT), prow[j]? = some p → t.subs[j]? = some u → TR w X p.2 u) (hs : s.size ≤ maxLen) :
    Calls Tryz.prog 72 #[.pointer (some ⟨rb, 0, none⟩), .slice (some ⟨pg, 0, none⟩) prow.length pcap] w fun e w' => CasePost ty w X rb s (rCase rd t l) e w' := by
  have HR := hide h
  have hrb := h.lt
  have HT := hide hT
  have HX := hide hXlt
  have HTR := hide htr
  have hpl : pg < w.heap.size := (hO.lt pg rfl).2
  have hpr : ¬ One rb pg := fun e => by have e' : pg = rb := e; rw [e'] at hpg; exact hpg hX
  have HPR := hide hpr
  have HPO := hide hO
  have HLEN := hide hlen
  have HNS := hide hns
  obtain ⟨ws, hws⟩ : ∃ ws, ws = prow.map (fun p => nameBs p.1) := ⟨_, rfl⟩
  have HNM : Hid (t.names.map nameBs = ws) := by show _ = _; rw [hws, ← hnm, List.map_map]; rfl
  have HWL : Hid (ws.length = prow.length) := by show _ = _; rw [hws, List.length_map]
  have HWG : Hid (∀ (k : Nat) (p : ByteArray × Addr), prow[k]? = some p → ws[k]? = some (nameBs p.1)) := fun k p hp => by rw [hws, List.getElem?_map, hp]; rfl
  have HWX : Hid (∀ x ∈ ws, x.length ≤ 1000) := fun x hx => by
    rw [hws] at hx
    obtain ⟨p, hp, rfl⟩ := List.mem_map.1 hx
    have h1 := hns p hp
    have h2 : p.1.data.toList.length = p.1.size := by rw [Array.length_toList]; rfl
    rw [nameBs, List.length_append, h2]
    simp; omega
  clear h hT hXlt htr hO hpr hpg hlen hns hnm hws
  go_enter Tryz.func72, Tryz.ntmps72
  go_wp2_with fail
  go_loopw [7, 15] (fun nv iv wr => ∃ k : Nat, k ≤ prow.length ∧ iv = .int .i64 k ∧ Hid (wr.ownsRow 0 9 1 nv k (sCells (ws.take k))) ∧ Hid (∀ g, nv.ownBlock = some g → w.heap.size ≤ g) ∧ Hid (Fr Zero w wr)) (fun _ iv _ => prow.length - (intOf iv).toNat)
  case atStart => exact ⟨0, by omega, rfl, World.ownsRow_nil _ _ _ _, fun g hg => by simp [Value.ownBlock] at hg, Fr.refl _ _⟩
  case round =>
    obtain ⟨k, hk, rfl, HO, HG, HF⟩ := hrel
    obtain ⟨ea, ecap, rfl⟩ := own_slice HO.out
    by_cases hlt : k < prow.length
    · obtain ⟨p, hp⟩ : ∃ p, prow[k]? = some p := ⟨prow[k], by simp⟩
      have hc0 : wr.cell? ⟨pg, k * 2, none⟩ = some (.string p.1) := by
        rw [HF.out.cell (a := ⟨pg, k * 2, none⟩) hpl (fun h => h), HPO.out.cellAt (k * 2) (by omega)]
        exact (rowCells_get prow k p hp).1
      have hc1 : wr.cell? ⟨pg, k * 2 + 1, none⟩ = some (.pointer (some p.2)) := by
        rw [HF.out.cell (a := ⟨pg, k * 2 + 1, none⟩) hpl (fun h => h), HPO.out.cellAt (k * 2 + 1) (by omega)]
        exact (rowCells_get prow k p hp).2
      have hpn := HNS.out p (List.mem_of_getElem? hp)
      have HTK : Hid (ws.take (k + 1) = ws.take k ++ [nameBs p.1]) := by
        show _ = _
        obtain ⟨hq, he⟩ := List.getElem?_eq_some_iff.1 (HWG.out k p hp)
        rw [List.take_succ_eq_append_getElem hq, he]
      have happ := name_colon p.1
      have hpN : ¬ (9223372036854775807 < p.1.size + 1) := by omega
      have hpI : ((p.1.size : Nat) : Int) + 1 ≤ 9223372036854775807 := by omega
      have hI : (k : Int) < (prow.length : Int) := by omega
      clear hp
      obtain ⟨i0, hi, hz0, hz1, hz2⟩ := info_parts Tryz.info9
      go_wp2_with (at_builtin; refine wpList_append_mine _ rfl _ _ 22 rfl 0 9 i0 (.string ⟨#[]⟩) 1 16 Tryz.underlying22 hi hz0 hz1 hz2 rfl (by decide) (.slice ea k ecap) k (sCells (ws.take k)) rfl ?o1 ⟨wr.heap.size + 1, 0, none⟩ 1 1 (by omega) [.string (ba (nameBs p.1))] rfl rfl ?c1 ?c2 ?c3 ?c4 (Nat.zero_le _) ?_)
      case o1 => exact (HO.out.alloc _).alloc _
      case c1 =>
        intro j u hj
        match j, hj with
        | 0, hj => simp at hj; subst hj; simp [Addr.add]
        | j + 1, hj => simp at hj
      case c2 => intro u hu; simp at hu; subst hu; rfl
      case c3 => unfold maxLen; omega
      case c4 => omega
      intro v' w4 hO4 hg4 g cap hv' hgg
      have hsz := HF.out.size
      have hF4 : Fr (fun b => w.heap.size ≤ b) ((wr.alloc (.cells #[.string p.1, .pointer (some p.2)] 89)).alloc (.cells #[.string (ba (nameBs p.1))] 9)) w4 := Fr.grown hg4 (fun k e _ => HG.out k e)
      have HF4 : Hid (Fr Zero w w4) := (HF.out.trans ((Fr.alloc _ _ _).trans (Fr.alloc _ _ _))).past hF4
      have HO4 : Hid (w4.ownsRow 0 9 1 v' (k + 1) (sCells (ws.take (k + 1)))) := by
        show World.ownsRow _ _ _ _ _ _ _
        rw [HTK.out]
        simpa [sCells] using hO4
      have HG4 : Hid (∀ g, v'.ownBlock = some g → w.heap.size ≤ g) := fun g' hg' => by
        rw [hv'] at hg'
        simp [Value.ownBlock] at hg'
        subst hg'
        rcases hgg with h' | h'
        · exact HG.out _ h'
        · omega
      subst hv'
      clear hO4 hg4 hgg hF4 hi hz0 hz1 hz2 hsz happ hpN hpI
      go_wp2_with fail
      exact ⟨⟨k + 1, by omega, by go_num, HO4, HG4, HF4⟩, by simp [intOf]; omega⟩
    · have hkl : k = prow.length := by omega
      subst hkl
      have hI : ¬ (prow.length : Int) < (prow.length : Int) := by omega
      have HO' : Hid (wr.ownsRow 0 9 1 (.slice ea prow.length ecap) prow.length (sCells ws)) := by
        have h' := HO.out
        rw [List.take_of_length_le (by have := HWL.out; omega)] at h'
        exact h'
      obtain ⟨g, rfl⟩ : ∃ g, ea = some ⟨g, 0, none⟩ := by
        rcases HO'.out.2 with ⟨_, hz⟩ | ⟨g, cap, cur, hv, _⟩
        · omega
        · simp at hv; exact ⟨g, hv.1⟩
      have hgr : g ≠ rb := by have := HG.out g rfl; omega
      have HRr := hide (HR.out.keep HF (fun h => h))
      have HU : Hid (rCase rd t l = match rOne ws [] l with
          | (none, l1) => (none, l1)
          | (some i, l1) => ((rd (t.sub i) l1).1.map (fun v => (i, v)), (rd (t.sub i) l1).2)) := by show _ = _; unfold rCase; rw [HNM.out]; rfl
      clear HO
      go_wp2_with fail
      refine (oneOf_at g ecap prow.length ws HWL.out.symm (by have := HWL.out; omega) HWX HO' hgr HRr hs).mono ?_
      rcases hq : rOne ws [] l with ⟨_ | i, l1⟩
      · rw [hq] at HU
        have HE : Hid (rCase rd t l = (none, l1)) := HU
        clear hq HU
        rintro e w2 ⟨hF2, hR2, n, rfl, -⟩
        have HF2 := hide (HF.out.of0.trans hF2)
        have HR2 := hide hR2
        clear hF2 hR2
        go_wp2_with fail
        go_ret3
        rw [HE.out]
        exact ⟨HF2, HR2, 0, .slice none 0 0, ⟨_, _, _, rfl⟩, rfl, fun i v hx => by cases hx⟩
      · rw [hq] at HU
        have HE : Hid (rCase rd t l = ((rd (t.sub i) l1).1.map (fun v => (i, v)), (rd (t.sub i) l1).2)) := HU
        obtain ⟨x, pre, hwi, _, _⟩ := rOne_sound ws l [] i l1 hq
        have hil : i < prow.length := by have := (List.getElem?_eq_some_iff.1 hwi).1; have := HWL.out; omega
        clear hq HU hwi
        rintro e w2 ⟨hF2, hR2, n, rfl, hn⟩
        have hni : n = i := hn i rfl
        subst hni
        have HF2 := hide (HF.out.of0.trans hF2)
        have HR2 := hide hR2
        clear hF2 hR2 hn
        obtain ⟨p, hp⟩ : ∃ p, prow[i]? = some p := ⟨prow[i], by simp⟩
        have hiu : i < t.subs.length := by have := HLEN.out; omega
        have HTU : Hid (TR w X p.2 (t.sub i)) := HTR.out i p _ hp (PT.sub_some hiu)
        have HTS : Hid (Said ty 51 rd (t.sub i) s) := HT.out _ (List.mem_of_getElem? (PT.sub_some hiu))
        have hc1 : w2.cell? ⟨pg, i * 2 + 1, none⟩ = some (.pointer (some p.2)) := by
          rw [HF2.out.cell (a := ⟨pg, i * 2 + 1, none⟩) hpl HPR, HPO.out.cellAt (i * 2 + 1) (by omega)]
          exact (rowCells_get prow i p hp).2
        have hiI : (i : Int) < (prow.length : Int) := by omega
        clear hp
        go_wp2_with fail
        refine (HTS.out _ X rb p.2 l1 HR2 hX (fun b hb => Nat.lt_of_lt_of_le (HX.out b hb) HF2.out.size) (HTU.out.keep (HF2.out.one hX))).mono ?_
        rcases hq2 : rd (t.sub i) l1 with ⟨q, r3⟩
        rw [hq2] at HE
        clear hq2
        rintro e w3 ⟨hF3, hR3, ⟨ca, cn, cb, csv⟩, ⟨o, m, j, hsv⟩, rfl, hv⟩
        simp only at hsv
        subst hsv
        have HV := hide hv
        have HR3 := hide hR3
        have HF3 := hide (HF2.out.trans hF3)
        clear hR3 hF3 hv
        simp only [VC.val]
        go_wp2_with fail
        go_region
        go_wp2_with fail
        go_ret3
        rw [HE.out]
        have hFz : Fr Zero w3 (((w3.alloc (.cells #[.pointer (some ca), .int .i64 cn, .string (ba cb), .slice o m j] 75)).alloc (.cells #[.pointer (some ca), .int .i64 cn, .string (ba cb), .slice o m j] 75)).drew) := (Fr.alloc _ _ _).trans ((Fr.alloc _ _ _).trans (Fr.drew _ _))
        refine ⟨HF3.out.trans hFz.of0, HR3.out.keep hFz (fun h => h), i, .slice (some ⟨w3.heap.size + 1, 0, none⟩) 1 1, ⟨_, _, _, rfl⟩, ?_, fun i' v hx => ?_⟩
        · have : (Option.map (fun v => (i, v)) q).isSome = q.isSome := by cases q <;> rfl
          simp only [this]
          rfl
        · simp only [Option.map_eq_some_iff] at hx
          obtain ⟨v', hq, he⟩ := hx
          simp at he
          obtain ⟨rfl, rfl⟩ := he
          have hw3 := HF3.out.size
          have hnew : (((w3.alloc (.cells #[.pointer (some ca), .int .i64 cn, .string (ba cb), .slice o m j] 75)).alloc (.cells #[.pointer (some ca), .int .i64 cn, .string (ba cb), .slice o m j] 75)).drew).heap[w3.heap.size + 1]? = some (.cells #[.pointer (some ca), .int .i64 cn, .string (ba cb), .slice o m j] 75 (0, 0)) := heap_new_at (w := w3.alloc (.cells #[.pointer (some ca), .int .i64 cn, .string (ba cb), .slice o m j] 75)) (by simp) _
          exact ⟨rfl, [⟨ca, cn, cb, .slice o m j⟩], own_one (c := ⟨ca, cn, cb, .slice o m j⟩) hnew, fun g hg => by simp [Value.ownBlock] at hg; omega, VL.snoc (rows := []) (VL.nil _ _) ((HV.out v' hq).past hFz (fun g hg => by simp [Value.ownBlock] at hg; omega))⟩

end Go.Proofs.YtcmkjdpmlmmjcaaGreatDoor
