/- The other reader's wrong, walked. -/
import Derived.Test.YtapblkmlhoalgaaDoorRWrong
import Derived.Test.YtapblkmlhoalgaaDoorRTyp
namespace Go.Proofs.YtapblkmlhoalgaaDoor
open Go.RowKit

def WPost (w : World) (X : Nat → Prop) (_B db : Nat) (s : ByteArray) (n : Nat) (bad : Bool) (tv lv av rv : Value) (r : Option Nat × List RT) (e : Ending) (w' : World) : Prop :=
  e = .returned (.int .i64 (intOr r.1)) ∧ Fr (fun k => tv.ownBlock = some k) w w' ∧ DS w' X db s n bad tv lv av rv r.2

def WSaid (lines : List ByteArray) (ats roots : List Nat) (i f : Nat) : Prop :=
  ∀ (w : World) (X : Nat → Prop) (B db : Nat) (s : ByteArray) (n : Nat) (bad : Bool) (tv lv av rv : Value) (tab : List RT) (x : Nat), DS w X db s n bad tv lv av rv tab → X db → (∀ b, X b → b < w.heap.size) → LD w B lv av rv lines ats roots → W1 tab → x < tab.length → x < f → tab.length ≤ 1000 →
    Calls Tryd.prog 11 #[.pointer (some ⟨db, 0, none⟩), .int .i64 x, .int .i64 i] w fun e w' => WPost w X B db s n bad tv lv av rv (rWrong lines roots i f tab x) e w'

theorem numsI (l : List Nat) (k : Nat) (hk : k < l.length) : (ints l)[k]? = some (.int .i64 (numAt l k : Nat)) := by simp [ints, numAt, hk]
theorem textsI (l : List ByteArray) (k : Nat) (hk : k < l.length) : (texts l)[k]? = some (.string (textAt l k)) := by simp [texts, textAt, hk]

/-- A slice that is not empty lies somewhere; its cells. -/
theorem SL.open {w : World} {X : Nat → Prop} {e : TypeId} {v : Value} {xs : List Value} (h : SL w X e v xs) (hp : 0 < xs.length) : ∃ g cap, v = .slice (some ⟨g, 0, none⟩) xs.length cap ∧ ¬ X g ∧ g < w.heap.size ∧ ∀ k, k < xs.length → w.cell? ⟨g, k, none⟩ = xs[k]? := by
  rcases h.1.2 with ⟨_, e⟩ | ⟨g, cap, cur, rfl, _⟩
  · omega
  · exact ⟨g, cap, rfl, h.2 g rfl, (h.1.lt g rfl).2, fun k hk => h.1.cellAt k (by omega)⟩

theorem SL.len {w : World} {X : Nat → Prop} {e : TypeId} {a : Option Addr} {n c : Nat} {xs : List Value} (h : SL w X e (.slice a n c) xs) : n = xs.length := by
  rcases h.1.2 with ⟨q, e⟩ | ⟨g, cap, cur, q, _⟩
  · cases q; omega
  · cases q; rfl

theorem SL.le {w : World} {X : Nat → Prop} {e : TypeId} {v : Value} {xs : List Value} (h : SL w X e v xs) : xs.length ≤ maxLen := by
  rcases h.1.2 with ⟨q, e⟩ | ⟨g, cap, cur, q, _, _, h1, h2, _⟩
  · omega
  · omega

set_option maxRecDepth 100000 in
set_option maxHeartbeats 16000000 in
theorem wrong_step {lines : List ByteArray} {ats roots : List Nat} {i f : Nat} (hT : WSaid lines ats roots i f) (hr : roots.length = lines.length) (hl : lines.length ≤ 1000) (hi : i ≤ lines.length) : WSaid lines ats roots i (f + 1) := by
  intro w X B db s n bad tv lv av rv tab x h hX hXlt hL hW hx hxf htl
  have HT := hide hT
  have HX := hide hXlt
  have HL := hide hL
  have HW := hide hW
  have HS := hide h
  have hD := h.1
  have c2 := hD.at2
  have hdl := lt_of_heap hD
  have hg : tab[x]? = some (rowAt tab x) := by unfold rowAt; simp [hx]
  have hWx := hide (hW x _ hg)
  have hxI : ((x : Nat) : Int) < ((tab.length : Nat) : Int) := by omega
  obtain ⟨gt, capt, o, nv, a, htv, t0, t1, t2, t3, hR, hfz, hset⟩ := h.row hx
  have hgt : gt < w.heap.size := World.block_lt_of_cell? w _ t0
  have HR := hide hR
  have HSET := hide hset
  have HFZ := hide hfz
  have HTV := hide htv
  have HD := hide hD
  have c2' : w.cell? ⟨db, 2, none⟩ = some (.slice (some ⟨gt, 0, none⟩) tab.length capt) := by rw [← htv]; exact c2
  obtain ⟨oa, on, oc, ho⟩ := hR.shape o (.inl rfl)
  obtain ⟨na, nn, nc, hn⟩ := hR.shape nv (.inr (.inl rfl))
  obtain ⟨aa, an, ac, ha⟩ := hR.shape a (.inr (.inr rfl))
  subst ho hn ha
  have HG := hide hg
  have HRR := hide hr
  have hf1 := hfz (x * 4 + 1)
  clear hT hXlt hL hW h hR hset hfz htv hD hg c2 hr
  by_cases hk : (rowAt tab x).kind = 11
  · have hkI : (((rowAt tab x).kind : Int) == 11) = true := beq_iff_eq.2 (by omega)
    have hln := hWx.out.2 hk
    obtain ⟨gn, cn, en, hnx, hgnl, hcn⟩ := HR.out.2.2.1.open (by rw [texts_length]; omega)
    obtain ⟨ga, ca, ea, hax, hgal, hca⟩ := HR.out.2.2.2.open (by rw [ints_length]; omega)
    simp only at en ea
    have hn0 := (hcn 0 (by rw [texts_length]; omega)).trans (textsI _ 0 (by omega))
    have ha0 := (hca 0 (by rw [ints_length]; omega)).trans (numsI _ 0 (by omega))
    rw [texts_length, hln.1] at en
    rw [ints_length, hln.2] at ea
    cases en
    cases ea
    have HRW : Hid (rWrong lines roots i (f + 1) tab x = match rNamed lines roots (textAt (rowAt tab x).names 0) i with
        | none => (some (numAt (rowAt tab x).ats 0), tab)
        | some to => (none, tab.set x ⟨11, [to], (rowAt tab x).names, (rowAt tab x).ats⟩)) := by
      show _ = _
      simp only [rWrong]
      rw [if_pos hk]
      rfl
    have HK := hide hk
    generalize textAt (rowAt tab x).names 0 = nm0 at *
    generalize numAt (rowAt tab x).ats 0 = at0 at *
    clear hcn hca hnx hax hln
    generalize hkd : (rowAt tab x).kind = kd at *
    have HKD := hide hkd
    clear hkd hk
    go_enter Tryd.func11, Tryd.ntmps11
    go_wp2_with fail
    have hFa : Fr Zero w (w.alloc (.cells #[.int .i64 (kd : Int), .slice oa on oc, .slice (some ⟨gn, 0, none⟩) 1 nc, .slice (some ⟨ga, 0, none⟩) 1 ac] 56)) := Fr.alloc _ _ _
    refine (named_any (hFa.keep HD.out (fun h => h)) (HL.out.keep hFa (fun _ _ h => h)) HRR.out hl nm0 i hi).mono ?_
    rintro e w1 ⟨rfl, e1⟩
    obtain rfl := e1.symm
    rcases hnd : rNamed lines roots nm0 i with _ | to
    · have HR2 : Hid (rWrong lines roots i (f + 1) tab x = (some at0, tab)) := HRW.out.trans (by rw [hnd])
      clear hnd HRW
      simp only [intOr]
      go_wp2_with fail
      go_ret
      rw [HR2.out]
      exact ⟨rfl, hFa.of0, HS.out.keep0 hFa⟩
    · have HR2 : Hid (rWrong lines roots i (f + 1) tab x = (none, tab.set x ⟨11, [to], (rowAt tab x).names, (rowAt tab x).ats⟩)) := HRW.out.trans (by rw [hnd])
      have hto0 : (0 : Int) ≤ (to : Int) := by omega
      clear hnd HRW
      simp only [intOr]
      go_wp2_with fail
      go_ret
      rw [HR2.out]
      have hFb : Fr Zero w ((w.alloc (.cells #[.int .i64 (kd : Int), .slice oa on oc, .slice (some ⟨gn, 0, none⟩) 1 nc, .slice (some ⟨ga, 0, none⟩) 1 ac] 56)).alloc (.cells #[.int .i64 (to : Int)] 3)) := hFa.trans (Fr.alloc _ _ _)
      have hnx : ¬ XO X tv (w.heap.size + 1) := fun hx' => by
        rcases hx' with h' | h'
        · have := HX.out _ h'; omega
        · have := HS.out.lt _ h'; omega
      have hK11 : kd = 11 := HK.out
      have eW : ((w.alloc (.cells #[.int .i64 (kd : Int), .slice oa on oc, .slice (some ⟨gn, 0, none⟩) 1 nc, .slice (some ⟨ga, 0, none⟩) 1 ac] 56)).alloc (.cells #[.int .i64 (to : Int)] 3)).setCell ⟨gt, x * 4 + 1, none⟩ (.slice (some ⟨w.heap.size + 1, 0, none⟩) 1 1) = ((w.setCell ⟨gt, x * 4 + 1, none⟩ (.slice (some ⟨w.heap.size + 1, 0, none⟩) 1 1)).alloc (.cells #[.int .i64 (kd : Int), .slice oa on oc, .slice (some ⟨gn, 0, none⟩) 1 nc, .slice (some ⟨ga, 0, none⟩) 1 ac] 56)).alloc (.cells #[.int .i64 (to : Int)] 3) := by
        rw [World.setCell_alloc_past _ _ _ _ (by simp; omega), World.setCell_alloc_past _ _ _ _ hgt]
      rw [← eW]
      refine ⟨rfl, hFb.of0.trans (Fr.setCell _ _ _ _ (show tv.ownBlock = some gt by rw [HTV.out]; rfl)), ?_⟩
      have hRn := HR.out.keep (hFb.of0 (X := XO X tv))
      exact HSET.out _ _ _ hFb ⟨hK11, SL.oneAt (w := w.alloc (.cells #[.int .i64 (kd : Int), .slice oa on oc, .slice (some ⟨gn, 0, none⟩) 1 nc, .slice (some ⟨ga, 0, none⟩) 1 ac] 56)) (by simp) _ _ hnx, hRn.2.2.1, hRn.2.2.2⟩
  · have hkI : (((rowAt tab x).kind : Int) == 11) = false := beq_eq_false_iff_ne.2 (by omega)
    obtain ⟨hof, hlens⟩ := hWx.out.1 hk
    have HRW : Hid (rWrong lines roots i (f + 1) tab x = rLoopW (rWrong lines roots i f) (rowAt tab x) (rowAt tab x).of.length 0 tab) := by
      show _ = _
      simp only [rWrong]
      rw [if_neg hk]
    have hon : on = (rowAt tab x).of.length := HR.out.2.1.len.trans (ints_length _)
    have hnn : nn = (rowAt tab x).names.length := HR.out.2.2.1.len.trans (texts_length _)
    have HSO := hide HR.out.2.1
    have HSN := hide HR.out.2.2.1
    have HSA := hide HR.out.2.2.2
    have HOF := hide hof
    have HLENS := hide hlens
    generalize hofe : (rowAt tab x).of = of' at *
    generalize hnme : (rowAt tab x).names = nms at *
    generalize hate : (rowAt tab x).ats = ats' at *
    have HOE := hide hofe
    have HNE := hide hnme
    have HAE := hide hate
    subst hon hnn
    generalize (rowAt tab x).kind = kd at *
    have hofl : of'.length ≤ 9223372036854775807 := by have := HSO.out.le; rw [ints_length] at this; unfold maxLen at this; omega
    clear hof hlens hofe hnme hate hk
    go_enter Tryd.func11, Tryd.ntmps11
    go_wp2_with fail
    go_loopw [9] (fun kv wr => ∃ (k : Nat) (tab' : List RT), k ≤ of'.length ∧ kv = .int .i64 k ∧ Hid (rWrong lines roots i (f + 1) tab x = rLoopW (rWrong lines roots i f) (rowAt tab x) (of'.length - k) k tab') ∧ Hid (DS wr X db s n bad tv lv av rv tab') ∧ Hid (W1 tab' ∧ tab'.length = tab.length) ∧ Hid (Fr (fun b => tv.ownBlock = some b) (w.alloc (.cells #[.int .i64 (kd : Int), .slice oa of'.length oc, .slice na nms.length nc, .slice aa an ac] 56)) wr)) (fun kv _ => of'.length - (intOf kv).toNat)
    case atStart => exact ⟨0, tab, by omega, rfl, HRW, HS.out.keep0 (Fr.alloc _ _ _), ⟨HW.out, rfl⟩, Fr.refl _ _⟩
    case round =>
      obtain ⟨k, tab', hkl, rfl, HTOT, HSr, HWr, HF⟩ := hrel
      obtain ⟨w3, rfl⟩ : ∃ z, z = wr := ⟨wr, rfl⟩
      have hbx : w3.heap[w.heap.size]? = some (.cells #[.int .i64 (kd : Int), .slice oa of'.length oc, .slice na nms.length nc, .slice aa an ac] 56 (0, 0)) := HF.out.keep (heap_new_at rfl _) (fun e => by have := HS.out.lt _ e; omega)
      have b1 : w3.cell? ⟨w.heap.size, 1, none⟩ = some (.slice oa of'.length oc) := by rw [cell_of_heap hbx]; rfl
      have b2 : w3.cell? ⟨w.heap.size, 2, none⟩ = some (.slice na nms.length nc) := by rw [cell_of_heap hbx]; rfl
      have b3 : w3.cell? ⟨w.heap.size, 3, none⟩ = some (.slice aa an ac) := by rw [cell_of_heap hbx]; rfl
      clear hbx
      by_cases hlt : k < of'.length
      · obtain ⟨go, co, eo, hox, hgol, hco⟩ := HSO.out.open (by rw [ints_length]; omega)
        have hok := (hco k (by rw [ints_length]; omega)).trans (numsI _ k hlt)
        rw [ints_length] at eo
        cases eo
        have hok' : w3.cell? ⟨go, k, none⟩ = some (.int .i64 (numAt of' k : Nat)) := (HF.out.cell (a := ⟨go, k, none⟩) (by simp; omega) (fun e => hox (.inr e))).trans ((World.cell?_alloc_lt _ _ ⟨go, k, none⟩ hgol).trans hok)
        have hyx : numAt of' k < x := HOF.out _ (by unfold numAt; simp [hlt])
        clear hco hox hok
        rcases HLENS.out with hne | ⟨hl1, hl2⟩
        · have HDUP : Hid (dup nms k = false) := by show _ = _; rw [hne]; rfl
          have hn0 : ¬ (0 : Int) < ((nms.length : Nat) : Int) := by rw [hne]; simp
          have HNN := hide hne
          clear hne
          go_wp2_with fail
          refine wp_loop_rounds 1 ?_
          rw [rounds_succ]
          have hz4 : Fr Zero w3 w3 := Fr.refl _ _
          by_cases hk0 : k = 0
          · have hk1 : ¬ ((0 : Int) < (k : Int)) := by omega
            clear hk0
            go_wp2_with fail
            have hFj := HF.out.trans (hz4.of0 (X := fun b => tv.ownBlock = some b))
            have hFj0 : Fr (fun b => tv.ownBlock = some b) w w3 := (Fr.alloc _ _ _).trans hFj
            refine (HT.out w3 X B db s n bad tv lv av rv tab' (numAt of' k) (HSr.out.keep0 hz4) hX (fun b hb => Nat.lt_of_lt_of_le (HX b hb) hFj0.size) (HL.out.keep hFj0 (fun g hg e => by
              rcases hg with h' | h' | h'
              · exact HS.out.tvne HL.out.sl (by decide) g h' e
              · exact HS.out.tvne HL.out.sa (by decide) g h' e
              · exact HS.out.tvne HL.out.sr (by decide) g h' e)) HWr.out.1 (by have := HWr.out.2; omega) (by omega) (by have := HWr.out.2; omega)).mono ?_
            have hkeep := rWrong_keeps lines roots i f tab' (numAt of' k) HWr.out.1 (by have := HWr.out.2; omega)
            have HKP := hide hkeep
            generalize hrr : rWrong lines roots i f tab' (numAt of' k) = r at *
            have HRQ := hide hrr
            clear hrr hkeep
            rintro e w5 ⟨rfl, hF5, hS5⟩
            have HF5 := hide (hFj.trans hF5)
            have HS5 := hide hS5
            clear hF5 hS5 hFj hFj0
            rcases hr1 : r.1 with _ | pl
            · have HTT : Hid (rWrong lines roots i (f + 1) tab x = rLoopW (rWrong lines roots i f) (rowAt tab x) (of'.length - (k + 1)) (k + 1) r.2) := HTOT.out.trans (by
                rw [show of'.length - k = (of'.length - (k + 1)) + 1 by omega]
                simp only [rLoopW]
                rw [HNE.out, HOE.out, if_neg (by rw [HDUP.out]; simp), HRQ.out, hr1])
              clear hr1
              simp only [intOr]
              go_wp2_with fail
              go_roundw
              case rel => exact ⟨k + 1, r.2, by omega, by go_num, HTT, HS5, ⟨HKP.out.1, HKP.out.2.trans HWr.out.2⟩, HF5⟩
              case measure => simp [intOf]; omega
            · have HTT : Hid (rWrong lines roots i (f + 1) tab x = r) := HTOT.out.trans (by
                rw [show of'.length - k = (of'.length - (k + 1)) + 1 by omega]
                simp only [rLoopW]
                rw [HNE.out, HOE.out, if_neg (by rw [HDUP.out]; simp), HRQ.out, hr1]
                show (some pl, r.2) = r
                rw [← hr1])
              have hpl : (0 : Int) ≤ (pl : Int) := by omega
              have HR1 := hide hr1
              clear hr1
              simp only [intOr]
              go_wp2_with fail
              go_ret
              rw [HTT.out]
              exact ⟨by rw [HR1.out]; rfl, (Fr.alloc _ _ _).trans HF5.out, HS5⟩
          · have hk1 : (0 : Int) < (k : Int) := by omega
            clear hk0
            go_wp2_with fail
            have hFj := HF.out.trans (hz4.of0 (X := fun b => tv.ownBlock = some b))
            have hFj0 : Fr (fun b => tv.ownBlock = some b) w w3 := (Fr.alloc _ _ _).trans hFj
            refine (HT.out w3 X B db s n bad tv lv av rv tab' (numAt of' k) (HSr.out.keep0 hz4) hX (fun b hb => Nat.lt_of_lt_of_le (HX b hb) hFj0.size) (HL.out.keep hFj0 (fun g hg e => by
              rcases hg with h' | h' | h'
              · exact HS.out.tvne HL.out.sl (by decide) g h' e
              · exact HS.out.tvne HL.out.sa (by decide) g h' e
              · exact HS.out.tvne HL.out.sr (by decide) g h' e)) HWr.out.1 (by have := HWr.out.2; omega) (by omega) (by have := HWr.out.2; omega)).mono ?_
            have hkeep := rWrong_keeps lines roots i f tab' (numAt of' k) HWr.out.1 (by have := HWr.out.2; omega)
            have HKP := hide hkeep
            generalize hrr : rWrong lines roots i f tab' (numAt of' k) = r at *
            have HRQ := hide hrr
            clear hrr hkeep
            rintro e w5 ⟨rfl, hF5, hS5⟩
            have HF5 := hide (hFj.trans hF5)
            have HS5 := hide hS5
            clear hF5 hS5 hFj hFj0
            rcases hr1 : r.1 with _ | pl
            · have HTT : Hid (rWrong lines roots i (f + 1) tab x = rLoopW (rWrong lines roots i f) (rowAt tab x) (of'.length - (k + 1)) (k + 1) r.2) := HTOT.out.trans (by
                rw [show of'.length - k = (of'.length - (k + 1)) + 1 by omega]
                simp only [rLoopW]
                rw [HNE.out, HOE.out, if_neg (by rw [HDUP.out]; simp), HRQ.out, hr1])
              clear hr1
              simp only [intOr]
              go_wp2_with fail
              go_roundw
              case rel => exact ⟨k + 1, r.2, by omega, by go_num, HTT, HS5, ⟨HKP.out.1, HKP.out.2.trans HWr.out.2⟩, HF5⟩
              case measure => simp [intOf]; omega
            · have HTT : Hid (rWrong lines roots i (f + 1) tab x = r) := HTOT.out.trans (by
                rw [show of'.length - k = (of'.length - (k + 1)) + 1 by omega]
                simp only [rLoopW]
                rw [HNE.out, HOE.out, if_neg (by rw [HDUP.out]; simp), HRQ.out, hr1]
                show (some pl, r.2) = r
                rw [← hr1])
              have hpl : (0 : Int) ≤ (pl : Int) := by omega
              have HR1 := hide hr1
              clear hr1
              simp only [intOr]
              go_wp2_with fail
              go_ret
              rw [HTT.out]
              exact ⟨by rw [HR1.out]; rfl, (Fr.alloc _ _ _).trans HF5.out, HS5⟩
        · obtain ⟨gn, cn, en, hnx, hgnl, hcn⟩ := HSN.out.open (by rw [texts_length]; omega)
          obtain ⟨ga, ca, ea, hax, hgal, hca⟩ := HSA.out.open (by rw [ints_length]; omega)
          rw [texts_length] at en
          rw [ints_length] at ea
          cases en
          cases ea
          have HCN : Hid (∀ j, j < nms.length → w3.cell? ⟨gn, j, none⟩ = some (.string (textAt nms j))) := fun j hj => (HF.out.cell (a := ⟨gn, j, none⟩) (by simp; omega) (fun e => hnx (.inr e))).trans ((World.cell?_alloc_lt _ _ ⟨gn, j, none⟩ hgnl).trans ((hcn j (by rw [texts_length]; omega)).trans (textsI _ j hj)))
          have HAK : Hid (w3.cell? ⟨ga, k, none⟩ = some (.int .i64 (numAt ats' k : Nat))) := (HF.out.cell (a := ⟨ga, k, none⟩) (by simp; omega) (fun e => hax (.inr e))).trans ((World.cell?_alloc_lt _ _ ⟨ga, k, none⟩ hgal).trans ((hca k (by rw [ints_length]; omega)).trans (numsI _ k (by omega))))
          have hnl0 : (0 : Int) < ((nms.length : Nat) : Int) := by omega
          have hknI : ((k : Nat) : Int) < ((nms.length : Nat) : Int) := by omega
          have hkaI : ((k : Nat) : Int) < ((ats'.length : Nat) : Int) := by omega
          have hnm0 : Hid (nms.isEmpty = false) := by
            show _ = _
            cases hh : nms with
            | nil => rw [hh] at hnl0; simp at hnl0
            | cons _ _ => rfl
          have HB1 := hide b1
          have HB2 := hide b2
          have HB3 := hide b3
          have HOK := hide hok'
          have HL1 := hide hl1
          have HL2 := hide hl2
          have hg3 : Hid (gn < w3.heap.size ∧ ga < w3.heap.size ∧ go < w3.heap.size ∧ w.heap.size < w3.heap.size) := by
            have := HF.out.size
            simp at this
            show _ ∧ _
            omega
          clear hcn hca hnx hax hl1 hl2 hok' 
          go_wp2_with fail
          clear b1 b2 b3
          go_loopw [10] (fun jv wj => ∃ j : Nat, j ≤ k ∧ jv = .int .i64 j ∧ Hid (dupFrom nms k k 0 = dupFrom nms k (k - j) j) ∧ Hid (Fr Zero w3 wj)) (fun jv _ => k - (intOf jv).toNat)
          case atStart => exact ⟨0, by omega, rfl, rfl, Fr.refl _ _⟩
          case round =>
            obtain ⟨j, hjk, rfl, HDJ, hz4'⟩ := hrel
            have hz4 := hz4'.out
            have b1 : wr.cell? ⟨w.heap.size, 1, none⟩ = some (.slice (some ⟨go, 0, none⟩) of'.length oc) := (hz4.cell (a := ⟨w.heap.size, 1, none⟩) hg3.out.2.2.2 (fun h => h)).trans HB1.out
            have b2 : wr.cell? ⟨w.heap.size, 2, none⟩ = some (.slice (some ⟨gn, 0, none⟩) nms.length nc) := (hz4.cell (a := ⟨w.heap.size, 2, none⟩) hg3.out.2.2.2 (fun h => h)).trans HB2.out
            have b3 : wr.cell? ⟨w.heap.size, 3, none⟩ = some (.slice (some ⟨ga, 0, none⟩) ats'.length ac) := (hz4.cell (a := ⟨w.heap.size, 3, none⟩) hg3.out.2.2.2 (fun h => h)).trans HB3.out
            have hnk : wr.cell? ⟨gn, k, none⟩ = some (.string (textAt nms k)) := (hz4.cell (a := ⟨gn, k, none⟩) hg3.out.1 (fun h => h)).trans (HCN.out k (by omega))
            have hak : wr.cell? ⟨ga, k, none⟩ = some (.int .i64 (numAt ats' k : Nat)) := (hz4.cell (a := ⟨ga, k, none⟩) hg3.out.2.1 (fun h => h)).trans HAK.out
            have hok' : wr.cell? ⟨go, k, none⟩ = some (.int .i64 (numAt of' k : Nat)) := (hz4.cell (a := ⟨go, k, none⟩) hg3.out.2.2.1 (fun h => h)).trans HOK.out
            have HZ4 := hide hz4
            clear hz4 hz4'
            by_cases hj : j < k
            · have hnj : wr.cell? ⟨gn, j, none⟩ = some (.string (textAt nms j)) := (HZ4.out.cell (a := ⟨gn, j, none⟩) hg3.out.1 (fun h => h)).trans (HCN.out j (by omega))
              have hjI : ((j : Nat) : Int) < ((k : Nat) : Int) := by omega
              have hjnI : ((j : Nat) : Int) < ((nms.length : Nat) : Int) := by omega
              by_cases hq : textAt nms j = textAt nms k
              · have hb : ((textAt nms j).toList == (textAt nms k).toList) = true := by rw [strEq]; simp [hq]
                have HTT : Hid (rWrong lines roots i (f + 1) tab x = (some (numAt ats' k), tab')) := HTOT.out.trans (by
                  rw [show of'.length - k = (of'.length - (k + 1)) + 1 by omega]
                  simp only [rLoopW]
                  have hdt : dup nms k = true := by
                    unfold dup
                    rw [hnm0.out, HDJ.out, show k - j = (k - j - 1) + 1 by omega]
                    simp [dupFrom, hq]
                  rw [HNE.out, HAE.out, if_pos hdt])
                clear hq
                generalize textAt nms j = q1 at *
                generalize textAt nms k = q2 at *
                go_wp2_with fail
                go_quiet (fail)
                go_wp2_with fail
                go_ret
                rw [HTT.out]
                exact ⟨rfl, ((Fr.alloc _ _ _).trans (HF.out.trans HZ4.out.of0)).trans (Fr.drewN _ _ _), (HSr.out.keep0 HZ4).keep0 (Fr.drewN _ _ _)⟩
              · have hb : ((textAt nms j).toList == (textAt nms k).toList) = false := by rw [strEq]; simp [hq]
                have HQ := hide hq
                have HQD : Hid (dupFrom nms k (k - j) j = dupFrom nms k (k - (j + 1)) (j + 1)) := by
                  show _ = _
                  rw [show k - j = (k - (j + 1)) + 1 by omega]
                  simp [dupFrom, hq]
                clear hq
                generalize textAt nms j = q1 at *
                generalize textAt nms k = q2 at *
                go_wp2_with fail
                go_quiet (fail)
                go_wp2_with fail
                go_roundw
                case rel => exact ⟨j + 1, by omega, by go_num, HDJ.out.trans HQD.out, HZ4.out.trans (Fr.drewN _ _ _)⟩
                case measure => simp [intOf]; omega
            · have hjk' : j = k := by omega
              subst hjk'
              have HDUP : Hid (dup nms j = false) := by
                show _ = _
                unfold dup
                rw [HDJ.out, Nat.sub_self]
                simp [dupFrom]
              have hz4 := HZ4.out
              go_wp2_with fail
              have hFj := HF.out.trans (hz4.of0 (X := fun b => tv.ownBlock = some b))
              have hFj0 : Fr (fun b => tv.ownBlock = some b) w wr := (Fr.alloc _ _ _).trans hFj
              refine (HT.out wr X B db s n bad tv lv av rv tab' (numAt of' j) (HSr.out.keep0 hz4) hX (fun b hb => Nat.lt_of_lt_of_le (HX b hb) hFj0.size) (HL.out.keep hFj0 (fun g hg e => by
                rcases hg with h' | h' | h'
                · exact HS.out.tvne HL.out.sl (by decide) g h' e
                · exact HS.out.tvne HL.out.sa (by decide) g h' e
                · exact HS.out.tvne HL.out.sr (by decide) g h' e)) HWr.out.1 (by have := HWr.out.2; omega) (by omega) (by have := HWr.out.2; omega)).mono ?_
              have hkeep := rWrong_keeps lines roots i f tab' (numAt of' j) HWr.out.1 (by have := HWr.out.2; omega)
              have HKP := hide hkeep
              generalize hrr : rWrong lines roots i f tab' (numAt of' j) = r at *
              have HRQ := hide hrr
              clear hrr hkeep
              rintro e w5 ⟨rfl, hF5, hS5⟩
              have HF5 := hide (hFj.trans hF5)
              have HS5 := hide hS5
              clear hF5 hS5 hFj hFj0
              rcases hr1 : r.1 with _ | pl
              · have HTT : Hid (rWrong lines roots i (f + 1) tab x = rLoopW (rWrong lines roots i f) (rowAt tab x) (of'.length - (j + 1)) (j + 1) r.2) := HTOT.out.trans (by
                  rw [show of'.length - j = (of'.length - (j + 1)) + 1 by omega]
                  simp only [rLoopW]
                  rw [HNE.out, HOE.out, if_neg (by rw [HDUP.out]; simp), HRQ.out, hr1])
                clear hr1
                simp only [intOr]
                go_wp2_with fail
                go_roundw
                case rel => exact ⟨j + 1, r.2, by omega, by go_num, HTT, HS5, ⟨HKP.out.1, HKP.out.2.trans HWr.out.2⟩, HF5⟩
                case measure => simp [intOf]; omega
              · have HTT : Hid (rWrong lines roots i (f + 1) tab x = r) := HTOT.out.trans (by
                  rw [show of'.length - j = (of'.length - (j + 1)) + 1 by omega]
                  simp only [rLoopW]
                  rw [HNE.out, HOE.out, if_neg (by rw [HDUP.out]; simp), HRQ.out, hr1]
                  show (some pl, r.2) = r
                  rw [← hr1])
                have hpl : (0 : Int) ≤ (pl : Int) := by omega
                have HR1 := hide hr1
                clear hr1
                simp only [intOr]
                go_wp2_with fail
                go_ret
                rw [HTT.out]
                exact ⟨by rw [HR1.out]; rfl, (Fr.alloc _ _ _).trans HF5.out, HS5⟩
      · have hke : k = of'.length := by omega
        subst hke
        have HTT : Hid (rWrong lines roots i (f + 1) tab x = (none, tab')) := HTOT.out.trans (by rw [Nat.sub_self]; rfl)
        go_wp2_with fail
        go_ret
        rw [HTT.out]
        exact ⟨rfl, (Fr.alloc _ _ _).trans HF.out, HSr⟩

theorem wrong_all {lines : List ByteArray} {ats roots : List Nat} {i : Nat} (hr : roots.length = lines.length) (hl : lines.length ≤ 1000) (hi : i ≤ lines.length) : ∀ f, WSaid lines ats roots i f := by
  intro f
  induction f with
  | zero => intro w X B db s n bad tv lv av rv tab x h hX hXlt hL hW hx hxf htl; omega
  | succ f ih => exact wrong_step ih hr hl hi

end Go.Proofs.YtapblkmlhoalgaaDoor
