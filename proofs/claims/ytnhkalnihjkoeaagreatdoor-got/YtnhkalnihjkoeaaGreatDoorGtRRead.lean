/- The other reader's wrong, walked. The other reader's depths. What the other reader's Read tells of a text. What the readers must tell alike, and how an error's number is read. -/
import Derived.Test.YtnhkalnihjkoeaaGreatDoorGtCheck
import Derived.Test.YtnhkalnihjkoeaaGreatDoorGtRTyp
import Derived.Test.YtnhkalnihjkoeaaGreatDoorGtRParse
namespace Go.Proofs.YtnhkalnihjkoeaaGreatDoor
open Go.RowKit

def WPost (w : World) (X : Nat → Prop) (_B db : Nat) (s : ByteArray) (n : Nat) (bad : Bool) (tv lv av rv : Value) (r : Option Nat × List RT) (e : Ending) (w' : World) : Prop :=
  e = .returned (.int .i64 (intOr r.1)) ∧ Fr (fun k => tv.ownBlock = some k) w w' ∧ DS w' X db s n bad tv lv av rv r.2

def WrSaid (lines : List ByteArray) (ats roots : List Nat) (i f : Nat) : Prop :=
  ∀ (w : World) (X : Nat → Prop) (B db : Nat) (s : ByteArray) (n : Nat) (bad : Bool) (tv lv av rv : Value) (tab : List RT) (x : Nat), DS w X db s n bad tv lv av rv tab → X db → (∀ b, X b → b < w.heap.size) → LD w B lv av rv lines ats roots → W1 tab → x < tab.length → x < f → tab.length ≤ 1000 →
    Calls Tryz.prog 104 #[.pointer (some ⟨db, 0, none⟩), .int .i64 x, .int .i64 i] w fun e w' => WPost w X B db s n bad tv lv av rv (rWrong lines roots i f tab x) e w'

theorem numsI (l : List Nat) (k : Nat) (hk : k < l.length) : (ints l)[k]? = some (.int .i64 (numAt l k : Nat)) := by simp [ints, numAt, hk]
theorem textsI (l : List ByteArray) (k : Nat) (hk : k < l.length) : (texts l)[k]? = some (.string (textAt l k)) := by simp [texts, textAt, hk]

/-- A slice that is not empty lies somewhere; its cells. -/
theorem SL.open {w : World} {X : Nat → Prop} {e : TypeId} {v : Value} {xs : List Value} (h : SL w X e v xs) (hp : 0 < xs.length) : ∃ g cap, v = .slice (some ⟨g, 0, none⟩) xs.length cap ∧ ¬ X g ∧ g < w.heap.size ∧ ∀ k, k < xs.length → w.cell? ⟨g, k, none⟩ = xs[k]? := by
  rcases h.1.2 with ⟨_, e⟩ | ⟨g, cap, cur, rfl, _⟩
  · omega
  · exact ⟨g, cap, rfl, h.2 g rfl, (h.1.lt g rfl).2, fun k hk => h.1.cellAt k (by omega)⟩

theorem SL.len {w : World} {X : Nat → Prop} {e : TypeId} {a : Option Addr} {n c : Nat} {xs : List Value} (h : SL w X e (.slice a n c) xs) : n = xs.length := by
  rcases h.1.2 with ⟨q, e⟩ | ⟨g, cap, cur, q, _⟩
  · cases q; omega
  · cases q; rfl

theorem SL.le {w : World} {X : Nat → Prop} {e : TypeId} {v : Value} {xs : List Value} (h : SL w X e v xs) : xs.length ≤ maxLen := by
  rcases h.1.2 with ⟨q, e⟩ | ⟨g, cap, cur, q, _, _, h1, h2, _⟩
  · omega
  · omega

set_option maxRecDepth 100000 in
set_option maxHeartbeats 16000000 in
theorem wrong_step {lines : List ByteArray} {ats roots : List Nat} {i f : Nat} (hT : WrSaid lines ats roots i f) (hr : roots.length = lines.length) (hl : lines.length ≤ 1000) (hi : i ≤ lines.length) : WrSaid lines ats roots i (f + 1) := by
  intro w X B db s n bad tv lv av rv tab x h hX hXlt hL hW hx hxf htl
  have HT := hide hT
  have HX := hide hXlt
  have HL := hide hL
  have HW := hide hW
  have HS := hide h
  have hD := h.1
  have c2 := hD.at2
  have hdl := lt_of_heap hD
  have hg : tab[x]? = some (rowAt tab x) := by unfold rowAt; simp [hx]
  have hWx := hide (hW x _ hg)
  have hxI : ((x : Nat) : Int) < ((tab.length : Nat) : Int) := by omega
  obtain ⟨gt, capt, o, nv, a, htv, t0, t1, t2, t3, hR, hfz, hset⟩ := h.row hx
  have hgt : gt < w.heap.size := World.block_lt_of_cell? w _ t0
  have HR := hide hR
  have HSET := hide hset
  have HFZ := hide hfz
  have HTV := hide htv
  have HD := hide hD
  have c2' : w.cell? ⟨db, 2, none⟩ = some (.slice (some ⟨gt, 0, none⟩) tab.length capt) := by rw [← htv]; exact c2
  obtain ⟨oa, on, oc, ho⟩ := hR.shape o (.inl rfl)
  obtain ⟨na, nn, nc, hn⟩ := hR.shape nv (.inr (.inl rfl))
  obtain ⟨aa, an, ac, ha⟩ := hR.shape a (.inr (.inr rfl))
  subst ho hn ha
  have HG := hide hg
  have HRR := hide hr
  have hf1 := hfz (x * 4 + 1)
  clear hT hXlt hL hW h hR hset hfz htv hD hg c2 hr
  by_cases hk : (rowAt tab x).kind = 11
  · have hkI : (((rowAt tab x).kind : Int) == 11) = true := beq_iff_eq.2 (by omega)
    have hln := hWx.out.2 hk
    obtain ⟨gn, cn, en, hnx, hgnl, hcn⟩ := HR.out.2.2.1.open (by rw [texts_length]; omega)
    obtain ⟨ga, ca, ea, hax, hgal, hca⟩ := HR.out.2.2.2.open (by rw [ints_length]; omega)
    simp only at en ea
    have hn0 := (hcn 0 (by rw [texts_length]; omega)).trans (textsI _ 0 (by omega))
    have ha0 := (hca 0 (by rw [ints_length]; omega)).trans (numsI _ 0 (by omega))
    rw [texts_length, hln.1] at en
    rw [ints_length, hln.2] at ea
    cases en
    cases ea
    have HRW : Hid (rWrong lines roots i (f + 1) tab x = match rNamed lines roots (textAt (rowAt tab x).names 0) i with
        | none => (some (numAt (rowAt tab x).ats 0), tab)
        | some to => (none, tab.set x ⟨11, [to], (rowAt tab x).names, (rowAt tab x).ats⟩)) := by
      show _ = _
      simp only [rWrong]
      rw [if_pos hk]
      rfl
    have HK := hide hk
    generalize textAt (rowAt tab x).names 0 = nm0 at *
    generalize numAt (rowAt tab x).ats 0 = at0 at *
    clear hcn hca hnx hax hln
    generalize hkd : (rowAt tab x).kind = kd at *
    have HKD := hide hkd
    clear hkd hk
    go_enter Tryz.func104, Tryz.ntmps104
    go_wp2_with fail
    have hFa : Fr Zero w (w.alloc (.cells #[.int .i64 (kd : Int), .slice oa on oc, .slice (some ⟨gn, 0, none⟩) 1 nc, .slice (some ⟨ga, 0, none⟩) 1 ac] 293)) := Fr.alloc _ _ _
    refine (named_any (hFa.keep HD.out (fun h => h)) (HL.out.keep hFa (fun _ _ h => h)) HRR.out hl nm0 i hi).mono ?_
    rintro e w1 ⟨rfl, e1⟩
    obtain rfl := e1.symm
    rcases hnd : rNamed lines roots nm0 i with _ | to
    · have HR2 : Hid (rWrong lines roots i (f + 1) tab x = (some at0, tab)) := HRW.out.trans (by rw [hnd])
      clear hnd HRW
      simp only [intOr]
      go_wp2_with fail
      go_ret
      rw [HR2.out]
      exact ⟨rfl, hFa.of0, HS.out.keep0 hFa⟩
    · have HR2 : Hid (rWrong lines roots i (f + 1) tab x = (none, tab.set x ⟨11, [to], (rowAt tab x).names, (rowAt tab x).ats⟩)) := HRW.out.trans (by rw [hnd])
      have hto0 : (0 : Int) ≤ (to : Int) := by omega
      clear hnd HRW
      simp only [intOr]
      go_wp2_with fail
      go_ret
      rw [HR2.out]
      have hFb : Fr Zero w ((w.alloc (.cells #[.int .i64 (kd : Int), .slice oa on oc, .slice (some ⟨gn, 0, none⟩) 1 nc, .slice (some ⟨ga, 0, none⟩) 1 ac] 293)).alloc (.cells #[.int .i64 (to : Int)] 3)) := hFa.trans (Fr.alloc _ _ _)
      have hnx : ¬ XO X tv (w.heap.size + 1) := fun hx' => by
        rcases hx' with h' | h'
        · have := HX.out _ h'; omega
        · have := HS.out.lt _ h'; omega
      have hK11 : kd = 11 := HK.out
      have eW : ((w.alloc (.cells #[.int .i64 (kd : Int), .slice oa on oc, .slice (some ⟨gn, 0, none⟩) 1 nc, .slice (some ⟨ga, 0, none⟩) 1 ac] 293)).alloc (.cells #[.int .i64 (to : Int)] 3)).setCell ⟨gt, x * 4 + 1, none⟩ (.slice (some ⟨w.heap.size + 1, 0, none⟩) 1 1) = ((w.setCell ⟨gt, x * 4 + 1, none⟩ (.slice (some ⟨w.heap.size + 1, 0, none⟩) 1 1)).alloc (.cells #[.int .i64 (kd : Int), .slice oa on oc, .slice (some ⟨gn, 0, none⟩) 1 nc, .slice (some ⟨ga, 0, none⟩) 1 ac] 293)).alloc (.cells #[.int .i64 (to : Int)] 3) := by
        rw [World.setCell_alloc_past _ _ _ _ (by simp; omega), World.setCell_alloc_past _ _ _ _ hgt]
      rw [← eW]
      refine ⟨rfl, hFb.of0.trans (Fr.setCell _ _ _ _ (show tv.ownBlock = some gt by rw [HTV.out]; rfl)), ?_⟩
      have hRn := HR.out.keep (hFb.of0 (X := XO X tv))
      exact HSET.out _ _ _ hFb ⟨hK11, SL.oneAt (w := w.alloc (.cells #[.int .i64 (kd : Int), .slice oa on oc, .slice (some ⟨gn, 0, none⟩) 1 nc, .slice (some ⟨ga, 0, none⟩) 1 ac] 293)) (by simp) _ _ hnx, hRn.2.2.1, hRn.2.2.2⟩
  · have hkI : (((rowAt tab x).kind : Int) == 11) = false := beq_eq_false_iff_ne.2 (by omega)
    obtain ⟨hof, hlens⟩ := hWx.out.1 hk
    have HRW : Hid (rWrong lines roots i (f + 1) tab x = rLoopW (rWrong lines roots i f) (rowAt tab x) (rowAt tab x).of.length 0 tab) := by
      show _ = _
      simp only [rWrong]
      rw [if_neg hk]
    have hon : on = (rowAt tab x).of.length := HR.out.2.1.len.trans (ints_length _)
    have hnn : nn = (rowAt tab x).names.length := HR.out.2.2.1.len.trans (texts_length _)
    have HSO := hide HR.out.2.1
    have HSN := hide HR.out.2.2.1
    have HSA := hide HR.out.2.2.2
    have HOF := hide hof
    have HLENS := hide hlens
    generalize hofe : (rowAt tab x).of = of' at *
    generalize hnme : (rowAt tab x).names = nms at *
    generalize hate : (rowAt tab x).ats = ats' at *
    have HOE := hide hofe
    have HNE := hide hnme
    have HAE := hide hate
    subst hon hnn
    generalize (rowAt tab x).kind = kd at *
    have hofl : of'.length ≤ 9223372036854775807 := by have := HSO.out.le; rw [ints_length] at this; unfold maxLen at this; omega
    clear hof hlens hofe hnme hate hk
    go_enter Tryz.func104, Tryz.ntmps104
    go_wp2_with fail
    go_loopw [9] (fun kv wr => ∃ (k : Nat) (tab' : List RT), k ≤ of'.length ∧ kv = .int .i64 k ∧ Hid (rWrong lines roots i (f + 1) tab x = rLoopW (rWrong lines roots i f) (rowAt tab x) (of'.length - k) k tab') ∧ Hid (DS wr X db s n bad tv lv av rv tab') ∧ Hid (W1 tab' ∧ tab'.length = tab.length) ∧ Hid (Fr (fun b => tv.ownBlock = some b) (w.alloc (.cells #[.int .i64 (kd : Int), .slice oa of'.length oc, .slice na nms.length nc, .slice aa an ac] 293)) wr)) (fun kv _ => of'.length - (intOf kv).toNat)
    case atStart => exact ⟨0, tab, by omega, rfl, HRW, HS.out.keep0 (Fr.alloc _ _ _), ⟨HW.out, rfl⟩, Fr.refl _ _⟩
    case round =>
      obtain ⟨k, tab', hkl, rfl, HTOT, HSr, HWr, HF⟩ := hrel
      obtain ⟨w3, rfl⟩ : ∃ z, z = wr := ⟨wr, rfl⟩
      have hbx : w3.heap[w.heap.size]? = some (.cells #[.int .i64 (kd : Int), .slice oa of'.length oc, .slice na nms.length nc, .slice aa an ac] 293 (0, 0)) := HF.out.keep (heap_new_at rfl _) (fun e => by have := HS.out.lt _ e; omega)
      have b1 : w3.cell? ⟨w.heap.size, 1, none⟩ = some (.slice oa of'.length oc) := by rw [cell_of_heap hbx]; rfl
      have b2 : w3.cell? ⟨w.heap.size, 2, none⟩ = some (.slice na nms.length nc) := by rw [cell_of_heap hbx]; rfl
      have b3 : w3.cell? ⟨w.heap.size, 3, none⟩ = some (.slice aa an ac) := by rw [cell_of_heap hbx]; rfl
      clear hbx
      by_cases hlt : k < of'.length
      · obtain ⟨go, co, eo, hox, hgol, hco⟩ := HSO.out.open (by rw [ints_length]; omega)
        have hok := (hco k (by rw [ints_length]; omega)).trans (numsI _ k hlt)
        rw [ints_length] at eo
        cases eo
        have hok' : w3.cell? ⟨go, k, none⟩ = some (.int .i64 (numAt of' k : Nat)) := (HF.out.cell (a := ⟨go, k, none⟩) (by simp; omega) (fun e => hox (.inr e))).trans ((World.cell?_alloc_lt _ _ ⟨go, k, none⟩ hgol).trans hok)
        have hyx : numAt of' k < x := HOF.out _ (by unfold numAt; simp [hlt])
        clear hco hox hok
        rcases HLENS.out with ⟨hne, _⟩ | ⟨hl1, hl2⟩
        · have HDUP : Hid (dup nms k = false) := by show _ = _; rw [hne]; rfl
          have hn0 : ¬ (0 : Int) < ((nms.length : Nat) : Int) := by rw [hne]; simp
          have HNN := hide hne
          clear hne
          go_wp2_with fail
          refine wp_loop_rounds 1 ?_
          rw [rounds_succ]
          have hz4 : Fr Zero w3 w3 := Fr.refl _ _
          by_cases hk0 : k = 0
          · have hk1 : ¬ ((0 : Int) < (k : Int)) := by omega
            clear hk0
            go_wp2_with fail
            have hFj := HF.out.trans (hz4.of0 (X := fun b => tv.ownBlock = some b))
            have hFj0 : Fr (fun b => tv.ownBlock = some b) w w3 := (Fr.alloc _ _ _).trans hFj
            refine (HT.out w3 X B db s n bad tv lv av rv tab' (numAt of' k) (HSr.out.keep0 hz4) hX (fun b hb => Nat.lt_of_lt_of_le (HX b hb) hFj0.size) (HL.out.keep hFj0 (fun g hg e => by
              rcases hg with h' | h' | h'
              · exact HS.out.tvne HL.out.sl (by decide) g h' e
              · exact HS.out.tvne HL.out.sa (by decide) g h' e
              · exact HS.out.tvne HL.out.sr (by decide) g h' e)) HWr.out.1 (by have := HWr.out.2; omega) (by omega) (by have := HWr.out.2; omega)).mono ?_
            have hkeep := rWrong_keeps lines roots i f tab' (numAt of' k) HWr.out.1 (by have := HWr.out.2; omega)
            have HKP := hide hkeep
            generalize hrr : rWrong lines roots i f tab' (numAt of' k) = r at *
            have HRQ := hide hrr
            clear hrr hkeep
            rintro e w5 ⟨rfl, hF5, hS5⟩
            have HF5 := hide (hFj.trans hF5)
            have HS5 := hide hS5
            clear hF5 hS5 hFj hFj0
            rcases hr1 : r.1 with _ | pl
            · have HTT : Hid (rWrong lines roots i (f + 1) tab x = rLoopW (rWrong lines roots i f) (rowAt tab x) (of'.length - (k + 1)) (k + 1) r.2) := HTOT.out.trans (by
                rw [show of'.length - k = (of'.length - (k + 1)) + 1 by omega]
                simp only [rLoopW]
                rw [HNE.out, HOE.out, if_neg (by rw [HDUP.out]; simp), HRQ.out, hr1])
              clear hr1
              simp only [intOr]
              go_wp2_with fail
              go_roundw
              case rel => exact ⟨k + 1, r.2, by omega, by go_num, HTT, HS5, ⟨HKP.out.1, HKP.out.2.trans HWr.out.2⟩, HF5⟩
              case measure => simp [intOf]; omega
            · have HTT : Hid (rWrong lines roots i (f + 1) tab x = r) := HTOT.out.trans (by
                rw [show of'.length - k = (of'.length - (k + 1)) + 1 by omega]
                simp only [rLoopW]
                rw [HNE.out, HOE.out, if_neg (by rw [HDUP.out]; simp), HRQ.out, hr1]
                show (some pl, r.2) = r
                rw [← hr1])
              have hpl : (0 : Int) ≤ (pl : Int) := by omega
              have HR1 := hide hr1
              clear hr1
              simp only [intOr]
              go_wp2_with fail
              go_ret
              rw [HTT.out]
              exact ⟨by rw [HR1.out]; rfl, (Fr.alloc _ _ _).trans HF5.out, HS5⟩
          · have hk1 : (0 : Int) < (k : Int) := by omega
            clear hk0
            go_wp2_with fail
            have hFj := HF.out.trans (hz4.of0 (X := fun b => tv.ownBlock = some b))
            have hFj0 : Fr (fun b => tv.ownBlock = some b) w w3 := (Fr.alloc _ _ _).trans hFj
            refine (HT.out w3 X B db s n bad tv lv av rv tab' (numAt of' k) (HSr.out.keep0 hz4) hX (fun b hb => Nat.lt_of_lt_of_le (HX b hb) hFj0.size) (HL.out.keep hFj0 (fun g hg e => by
              rcases hg with h' | h' | h'
              · exact HS.out.tvne HL.out.sl (by decide) g h' e
              · exact HS.out.tvne HL.out.sa (by decide) g h' e
              · exact HS.out.tvne HL.out.sr (by decide) g h' e)) HWr.out.1 (by have := HWr.out.2; omega) (by omega) (by have := HWr.out.2; omega)).mono ?_
            have hkeep := rWrong_keeps lines roots i f tab' (numAt of' k) HWr.out.1 (by have := HWr.out.2; omega)
            have HKP := hide hkeep
            generalize hrr : rWrong lines roots i f tab' (numAt of' k) = r at *
            have HRQ := hide hrr
            clear hrr hkeep
            rintro e w5 ⟨rfl, hF5, hS5⟩
            have HF5 := hide (hFj.trans hF5)
            have HS5 := hide hS5
            clear hF5 hS5 hFj hFj0
            rcases hr1 : r.1 with _ | pl
            · have HTT : Hid (rWrong lines roots i (f + 1) tab x = rLoopW (rWrong lines roots i f) (rowAt tab x) (of'.length - (k + 1)) (k + 1) r.2) := HTOT.out.trans (by
                rw [show of'.length - k = (of'.length - (k + 1)) + 1 by omega]
                simp only [rLoopW]
                rw [HNE.out, HOE.out, if_neg (by rw [HDUP.out]; simp), HRQ.out, hr1])
              clear hr1
              simp only [intOr]
              go_wp2_with fail
              go_roundw
              case rel => exact ⟨k + 1, r.2, by omega, by go_num, HTT, HS5, ⟨HKP.out.1, HKP.out.2.trans HWr.out.2⟩, HF5⟩
              case measure => simp [intOf]; omega
            · have HTT : Hid (rWrong lines roots i (f + 1) tab x = r) := HTOT.out.trans (by
                rw [show of'.length - k = (of'.length - (k + 1)) + 1 by omega]
                simp only [rLoopW]
                rw [HNE.out, HOE.out, if_neg (by rw [HDUP.out]; simp), HRQ.out, hr1]
                show (some pl, r.2) = r
                rw [← hr1])
              have hpl : (0 : Int) ≤ (pl : Int) := by omega
              have HR1 := hide hr1
              clear hr1
              simp only [intOr]
              go_wp2_with fail
              go_ret
              rw [HTT.out]
              exact ⟨by rw [HR1.out]; rfl, (Fr.alloc _ _ _).trans HF5.out, HS5⟩
        · obtain ⟨gn, cn, en, hnx, hgnl, hcn⟩ := HSN.out.open (by rw [texts_length]; omega)
          obtain ⟨ga, ca, ea, hax, hgal, hca⟩ := HSA.out.open (by rw [ints_length]; omega)
          rw [texts_length] at en
          rw [ints_length] at ea
          cases en
          cases ea
          have HCN : Hid (∀ j, j < nms.length → w3.cell? ⟨gn, j, none⟩ = some (.string (textAt nms j))) := fun j hj => (HF.out.cell (a := ⟨gn, j, none⟩) (by simp; omega) (fun e => hnx (.inr e))).trans ((World.cell?_alloc_lt _ _ ⟨gn, j, none⟩ hgnl).trans ((hcn j (by rw [texts_length]; omega)).trans (textsI _ j hj)))
          have HAK : Hid (w3.cell? ⟨ga, k, none⟩ = some (.int .i64 (numAt ats' k : Nat))) := (HF.out.cell (a := ⟨ga, k, none⟩) (by simp; omega) (fun e => hax (.inr e))).trans ((World.cell?_alloc_lt _ _ ⟨ga, k, none⟩ hgal).trans ((hca k (by rw [ints_length]; omega)).trans (numsI _ k (by omega))))
          have hnl0 : (0 : Int) < ((nms.length : Nat) : Int) := by omega
          have hknI : ((k : Nat) : Int) < ((nms.length : Nat) : Int) := by omega
          have hkaI : ((k : Nat) : Int) < ((ats'.length : Nat) : Int) := by omega
          have hnm0 : Hid (nms.isEmpty = false) := by
            show _ = _
            cases hh : nms with
            | nil => rw [hh] at hnl0; simp at hnl0
            | cons _ _ => rfl
          have HB1 := hide b1
          have HB2 := hide b2
          have HB3 := hide b3
          have HOK := hide hok'
          have HL1 := hide hl1
          have HL2 := hide hl2
          have hg3 : Hid (gn < w3.heap.size ∧ ga < w3.heap.size ∧ go < w3.heap.size ∧ w.heap.size < w3.heap.size) := by
            have := HF.out.size
            simp at this
            show _ ∧ _
            omega
          clear hcn hca hnx hax hl1 hl2 hok' 
          go_wp2_with fail
          clear b1 b2 b3
          go_loopw [10] (fun jv wj => ∃ j : Nat, j ≤ k ∧ jv = .int .i64 j ∧ Hid (dupFrom nms k k 0 = dupFrom nms k (k - j) j) ∧ Hid (Fr Zero w3 wj)) (fun jv _ => k - (intOf jv).toNat)
          case atStart => exact ⟨0, by omega, rfl, rfl, Fr.refl _ _⟩
          case round =>
            obtain ⟨j, hjk, rfl, HDJ, hz4'⟩ := hrel
            have hz4 := hz4'.out
            have b1 : wr.cell? ⟨w.heap.size, 1, none⟩ = some (.slice (some ⟨go, 0, none⟩) of'.length oc) := (hz4.cell (a := ⟨w.heap.size, 1, none⟩) hg3.out.2.2.2 (fun h => h)).trans HB1.out
            have b2 : wr.cell? ⟨w.heap.size, 2, none⟩ = some (.slice (some ⟨gn, 0, none⟩) nms.length nc) := (hz4.cell (a := ⟨w.heap.size, 2, none⟩) hg3.out.2.2.2 (fun h => h)).trans HB2.out
            have b3 : wr.cell? ⟨w.heap.size, 3, none⟩ = some (.slice (some ⟨ga, 0, none⟩) ats'.length ac) := (hz4.cell (a := ⟨w.heap.size, 3, none⟩) hg3.out.2.2.2 (fun h => h)).trans HB3.out
            have hnk : wr.cell? ⟨gn, k, none⟩ = some (.string (textAt nms k)) := (hz4.cell (a := ⟨gn, k, none⟩) hg3.out.1 (fun h => h)).trans (HCN.out k (by omega))
            have hak : wr.cell? ⟨ga, k, none⟩ = some (.int .i64 (numAt ats' k : Nat)) := (hz4.cell (a := ⟨ga, k, none⟩) hg3.out.2.1 (fun h => h)).trans HAK.out
            have hok' : wr.cell? ⟨go, k, none⟩ = some (.int .i64 (numAt of' k : Nat)) := (hz4.cell (a := ⟨go, k, none⟩) hg3.out.2.2.1 (fun h => h)).trans HOK.out
            have HZ4 := hide hz4
            clear hz4 hz4'
            by_cases hj : j < k
            · have hnj : wr.cell? ⟨gn, j, none⟩ = some (.string (textAt nms j)) := (HZ4.out.cell (a := ⟨gn, j, none⟩) hg3.out.1 (fun h => h)).trans (HCN.out j (by omega))
              have hjI : ((j : Nat) : Int) < ((k : Nat) : Int) := by omega
              have hjnI : ((j : Nat) : Int) < ((nms.length : Nat) : Int) := by omega
              by_cases hq : textAt nms j = textAt nms k
              · have hb : ((textAt nms j).toList == (textAt nms k).toList) = true := by rw [strEq]; simp [hq]
                have HTT : Hid (rWrong lines roots i (f + 1) tab x = (some (numAt ats' k), tab')) := HTOT.out.trans (by
                  rw [show of'.length - k = (of'.length - (k + 1)) + 1 by omega]
                  simp only [rLoopW]
                  have hdt : dup nms k = true := by
                    unfold dup
                    rw [hnm0.out, HDJ.out, show k - j = (k - j - 1) + 1 by omega]
                    simp [dupFrom, hq]
                  rw [HNE.out, HAE.out, if_pos hdt])
                clear hq
                generalize textAt nms j = q1 at *
                generalize textAt nms k = q2 at *
                go_wp2_with fail
                go_quiet (fail)
                go_wp2_with fail
                go_ret
                rw [HTT.out]
                exact ⟨rfl, ((Fr.alloc _ _ _).trans (HF.out.trans HZ4.out.of0)).trans (Fr.drewN _ _ _), (HSr.out.keep0 HZ4).keep0 (Fr.drewN _ _ _)⟩
              · have hb : ((textAt nms j).toList == (textAt nms k).toList) = false := by rw [strEq]; simp [hq]
                have HQ := hide hq
                have HQD : Hid (dupFrom nms k (k - j) j = dupFrom nms k (k - (j + 1)) (j + 1)) := by
                  show _ = _
                  rw [show k - j = (k - (j + 1)) + 1 by omega]
                  simp [dupFrom, hq]
                clear hq
                generalize textAt nms j = q1 at *
                generalize textAt nms k = q2 at *
                go_wp2_with fail
                go_quiet (fail)
                go_wp2_with fail
                go_roundw
                case rel => exact ⟨j + 1, by omega, by go_num, HDJ.out.trans HQD.out, HZ4.out.trans (Fr.drewN _ _ _)⟩
                case measure => simp [intOf]; omega
            · have hjk' : j = k := by omega
              subst hjk'
              have HDUP : Hid (dup nms j = false) := by
                show _ = _
                unfold dup
                rw [HDJ.out, Nat.sub_self]
                simp [dupFrom]
              have hz4 := HZ4.out
              go_wp2_with fail
              have hFj := HF.out.trans (hz4.of0 (X := fun b => tv.ownBlock = some b))
              have hFj0 : Fr (fun b => tv.ownBlock = some b) w wr := (Fr.alloc _ _ _).trans hFj
              refine (HT.out wr X B db s n bad tv lv av rv tab' (numAt of' j) (HSr.out.keep0 hz4) hX (fun b hb => Nat.lt_of_lt_of_le (HX b hb) hFj0.size) (HL.out.keep hFj0 (fun g hg e => by
                rcases hg with h' | h' | h'
                · exact HS.out.tvne HL.out.sl (by decide) g h' e
                · exact HS.out.tvne HL.out.sa (by decide) g h' e
                · exact HS.out.tvne HL.out.sr (by decide) g h' e)) HWr.out.1 (by have := HWr.out.2; omega) (by omega) (by have := HWr.out.2; omega)).mono ?_
              have hkeep := rWrong_keeps lines roots i f tab' (numAt of' j) HWr.out.1 (by have := HWr.out.2; omega)
              have HKP := hide hkeep
              generalize hrr : rWrong lines roots i f tab' (numAt of' j) = r at *
              have HRQ := hide hrr
              clear hrr hkeep
              rintro e w5 ⟨rfl, hF5, hS5⟩
              have HF5 := hide (hFj.trans hF5)
              have HS5 := hide hS5
              clear hF5 hS5 hFj hFj0
              rcases hr1 : r.1 with _ | pl
              · have HTT : Hid (rWrong lines roots i (f + 1) tab x = rLoopW (rWrong lines roots i f) (rowAt tab x) (of'.length - (j + 1)) (j + 1) r.2) := HTOT.out.trans (by
                  rw [show of'.length - j = (of'.length - (j + 1)) + 1 by omega]
                  simp only [rLoopW]
                  rw [HNE.out, HOE.out, if_neg (by rw [HDUP.out]; simp), HRQ.out, hr1])
                clear hr1
                simp only [intOr]
                go_wp2_with fail
                go_roundw
                case rel => exact ⟨j + 1, r.2, by omega, by go_num, HTT, HS5, ⟨HKP.out.1, HKP.out.2.trans HWr.out.2⟩, HF5⟩
                case measure => simp [intOf]; omega
              · have HTT : Hid (rWrong lines roots i (f + 1) tab x = r) := HTOT.out.trans (by
                  rw [show of'.length - j = (of'.length - (j + 1)) + 1 by omega]
                  simp only [rLoopW]
                  rw [HNE.out, HOE.out, if_neg (by rw [HDUP.out]; simp), HRQ.out, hr1]
                  show (some pl, r.2) = r
                  rw [← hr1])
                have hpl : (0 : Int) ≤ (pl : Int) := by omega
                have HR1 := hide hr1
                clear hr1
                simp only [intOr]
                go_wp2_with fail
                go_ret
                rw [HTT.out]
                exact ⟨by rw [HR1.out]; rfl, (Fr.alloc _ _ _).trans HF5.out, HS5⟩
      · have hke : k = of'.length := by omega
        subst hke
        have HTT : Hid (rWrong lines roots i (f + 1) tab x = (none, tab')) := HTOT.out.trans (by rw [Nat.sub_self]; rfl)
        go_wp2_with fail
        go_ret
        rw [HTT.out]
        exact ⟨rfl, (Fr.alloc _ _ _).trans HF.out, HSr⟩

theorem wrong_all {lines : List ByteArray} {ats roots : List Nat} {i : Nat} (hr : roots.length = lines.length) (hl : lines.length ≤ 1000) (hi : i ≤ lines.length) : ∀ f, WrSaid lines ats roots i f := by
  intro f
  induction f with
  | zero => intro w X B db s n bad tv lv av rv tab x h hX hXlt hL hW hx hxf htl; omega
  | succ f ih => exact wrong_step ih hr hl hi

end Go.Proofs.YtnhkalnihjkoeaaGreatDoor

namespace Go.Proofs.YtnhkalnihjkoeaaGreatDoor
open Go.RowKit

def maxOf (ds : List Nat) (l : List Nat) (c : Nat) : Nat := l.foldl (fun c y => max c (numAt ds y)) c
def depthOf (ds : List Nat) (t : RT) : Nat := maxOf ds t.of 0 + (if t.kind = 11 then 0 else 1)
def rDepths (tab : List RT) : Nat → List Nat
  | 0 => []
  | k + 1 => rDepths tab k ++ [depthOf (rDepths tab k) (rowAt tab k)]

theorem rDepths_length (tab : List RT) (k : Nat) : (rDepths tab k).length = k := by
  induction k with
  | zero => rfl
  | succ k ih => simp [rDepths, ih]

theorem maxOf_le (ds l : List Nat) (D : Nat) (h : ∀ y, numAt ds y ≤ D) : ∀ c, c ≤ D → maxOf ds l c ≤ D := by
  induction l with
  | nil => intro c hc; exact hc
  | cons y l ih => intro c hc; exact ih (max c (numAt ds y)) (by have := h y; omega)
theorem rDepths_le (tab : List RT) : ∀ k y, numAt (rDepths tab k) y ≤ k := by
  intro k
  induction k with
  | zero => intro y; simp [rDepths, numAt]
  | succ k ih =>
    intro y
    have hl := rDepths_length tab k
    simp only [rDepths, numAt]
    by_cases hy : y < k
    · rw [List.getElem?_append_left (by omega)]
      have := ih y
      unfold numAt at this
      omega
    · by_cases e : y = k
      · subst e
        rw [List.getElem?_append_right (by omega), hl, Nat.sub_self]
        simp
        unfold depthOf
        have := maxOf_le (rDepths tab y) (rowAt tab y).of y ih 0 (by omega)
        split <;> omega
      · rw [List.getElem?_eq_none (by simp; omega)]
        simp
theorem maxOf_take (ds l : List Nat) (k : Nat) (hk : k < l.length) : maxOf ds (l.take (k + 1)) 0 = max (maxOf ds (l.take k) 0) (numAt ds (numAt l k)) := by
  rw [List.take_succ_eq_append_getElem hk]
  unfold maxOf
  rw [List.foldl_append]
  simp [numAt, hk]

/-- The depths while the x-th is reckoned: those ahead, c, noughts. -/
def outL (ds : List Nat) (c m : Nat) : List Nat := ds ++ c :: List.replicate m 0
theorem outL_get (ds : List Nat) (c m y : Nat) (hy : y < ds.length) : (ints (outL ds c m))[y]? = some (.int .i64 (numAt ds y : Nat)) := by
  rw [numsI _ _ (by simp [outL]; omega)]
  simp [outL, numAt, List.getElem?_append_left hy]
theorem outL_at (ds : List Nat) (c m : Nat) : (ints (outL ds c m))[ds.length]? = some (.int .i64 (c : Nat)) := by
  rw [numsI _ _ (by simp [outL])]
  simp [outL, numAt]
theorem outL_set (ds : List Nat) (c m d : Nat) : (ints (outL ds c m)).set ds.length (.int .i64 (d : Int)) = ints (outL ds d m) := by
  simp [ints, outL]
theorem outL_next (ds : List Nat) (c m : Nat) : outL ds c (m + 1) = outL (ds ++ [c]) 0 m := by
  simp [outL, List.replicate_succ]

def W2 (tab : List RT) : Prop := ∀ (x : Nat), x < tab.length → ∀ y ∈ (rowAt tab x).of, y < x

set_option maxRecDepth 100000 in
set_option maxHeartbeats 16000000 in
theorem depths_any {w : World} {X : Nat → Prop} {db : Nat} {s : ByteArray} {n : Nat} {bad : Bool} {tv lv av rv : Value} {tab : List RT} (h : DS w X db s n bad tv lv av rv tab) (hW : W2 tab) (hl : tab.length ≤ 1000) (hp : 0 < tab.length) :
    Calls Tryz.prog 105 #[.pointer (some ⟨db, 0, none⟩)] w fun e w' => Fr Zero w w' ∧ ∃ g, e = .returned (.slice (some ⟨g, 0, none⟩) tab.length tab.length) ∧ ∀ y, y < tab.length → w'.cell? ⟨g, y, none⟩ = some (.int .i64 (numAt (rDepths tab tab.length) y : Nat)) := by
  have hD := h.1
  have c2 := hD.at2
  have hdl := lt_of_heap hD
  obtain ⟨gt, capt, o0, nv0, a0, htv, _⟩ := h.row hp
  have c2' : w.cell? ⟨db, 2, none⟩ = some (.slice (some ⟨gt, 0, none⟩) tab.length capt) := by rw [← htv]; exact c2
  have HTV := hide htv
  have HS := hide h
  have HW := hide hW
  have hlI : ((tab.length : Nat) : Int) ≤ 1000 := by omega
  clear h hW hD c2 htv
  obtain ⟨i3, hi, hz0, hz1, hz2⟩ := info_parts Tryz.info3
  have m1 : Hid (i3.bytes * tab.length ≤ 281474976710656) := by show _ ≤ _; rw [hz2]; omega
  have m2 : Hid (tab.length ≤ maxLen) := by show _ ≤ _; unfold maxLen; omega
  go_enter Tryz.func105, Tryz.ntmps105
  go_wp2_with (at_make; refine wpList_make_full _ rfl _ _ 38 rfl 0 3 i3 (.int .i64 0) 1 Tryz.underlying38 hi hz0 hz1 .i64 .i64 _ _ tab.length rfl rfl rfl rfl m1.out m2.out (Nat.zero_le _) ?_; intro w1 hO1 hg1)
  have hO2 : w1.ownsRow 0 3 1 (.slice (some ⟨w.heap.size, 0, none⟩) tab.length tab.length) tab.length (ints (outL [] 0 (tab.length - 1))) := by
    have e : (madeCells (Value.int .i64 0).cells (tab.length * 1)).toList = ints (outL [] 0 (tab.length - 1)) := by
      rw [show (Value.int .i64 0).cells = #[.int .i64 0] from rfl, toList_madeCells_one]
      simp only [outL, ints, List.nil_append, List.map_cons, List.map_replicate, Nat.mul_one]
      rw [← List.replicate_succ]
      congr 1
      omega
    rw [← e]
    exact hO1
  have hF1 : Fr Zero w w1 := Fr.grown hg1 (fun k e => by cases e)
  have HO := hide hO2
  have HF1 := hide hF1
  clear hO1 hO2 hg1 hF1 m1 m2 hi hz0 hz1 hz2
  go_loopw [4] (fun xv wr => ∃ x : Nat, x ≤ tab.length ∧ xv = .int .i64 x ∧ Hid (x < tab.length → wr.ownsRow 0 3 1 (.slice (some ⟨w.heap.size, 0, none⟩) tab.length tab.length) tab.length (ints (outL (rDepths tab x) 0 (tab.length - x - 1)))) ∧ Hid (x = tab.length → wr.ownsRow 0 3 1 (.slice (some ⟨w.heap.size, 0, none⟩) tab.length tab.length) tab.length (ints (rDepths tab tab.length))) ∧ Hid (Fr Zero w wr)) (fun xv _ => tab.length - (intOf xv).toNat)
  case atStart => exact ⟨0, by omega, rfl, (fun _ => HO), (fun h => by omega), HF1⟩
  case round =>
    obtain ⟨x, hxl, rfl, HOx, HOe, HF⟩ := hrel
    obtain ⟨w3, rfl⟩ : ∃ z, z = wr := ⟨wr, rfl⟩
    have hwl : w.heap.size < w3.heap.size := by
      by_cases hx : x < tab.length
      · exact ((HOx.out hx).lt _ rfl).2
      · exact ((HOe.out (by omega)).lt _ rfl).2
    have d2 : w3.cell? ⟨db, 2, none⟩ = some (.slice (some ⟨gt, 0, none⟩) tab.length capt) := (HF.out.cell (a := ⟨db, 2, none⟩) hdl (fun h => h)).trans c2'
    by_cases hx : x < tab.length
    · have hxI : ((x : Nat) : Int) < ((tab.length : Nat) : Int) := by omega
      obtain ⟨gt', capt', o, nv, a, htv', t0, t1, t2, t3, hR, _, _⟩ := HS.out.row hx
      rw [HTV.out] at htv'
      cases htv'
      have hgt : gt < w.heap.size := World.block_lt_of_cell? w _ t0
      have s0 := (HF.out.cell (a := ⟨gt, x * 4, none⟩) hgt (fun h => h)).trans t0
      have s1 := (HF.out.cell (a := ⟨gt, x * 4 + 1, none⟩) hgt (fun h => h)).trans t1
      have s2 := (HF.out.cell (a := ⟨gt, x * 4 + 2, none⟩) hgt (fun h => h)).trans t2
      have s3 := (HF.out.cell (a := ⟨gt, x * 4 + 3, none⟩) hgt (fun h => h)).trans t3
      obtain ⟨oa, on, oc, ho⟩ := hR.shape o (.inl rfl)
      obtain ⟨na, nn, nc, hn⟩ := hR.shape nv (.inr (.inl rfl))
      obtain ⟨aa, an, ac, ha⟩ := hR.shape a (.inr (.inr rfl))
      subst ho hn ha
      have HSO := hide hR.2.1
      have hon : on = (rowAt tab x).of.length := hR.2.1.len.trans (ints_length _)
      have HOF := hide (HW.out x hx)
      have HOX := hide (HOx.out hx)
      have HDO : Hid (rDepths tab (x + 1) = rDepths tab x ++ [depthOf (rDepths tab x) (rowAt tab x)]) := rfl
      have HDE : Hid (depthOf (rDepths tab x) (rowAt tab x) = maxOf (rDepths tab x) (rowAt tab x).of 0 + (if (rowAt tab x).kind = 11 then 0 else 1)) := rfl
      have hdl1 := rDepths_length tab x
      have HDB := hide (rDepths_le tab x)
      have hofl : (rowAt tab x).of.length ≤ 9223372036854775807 := by have := hR.2.1.le; rw [ints_length] at this; unfold maxLen at this; omega
      generalize (rowAt tab x).of = of' at *
      generalize (rowAt tab x).kind = kd at *
      generalize rDepths tab x = ds at *
      subst hon
      have HDL := hide hdl1
      have HMX : Hid (∀ k, maxOf ds (of'.take k) 0 ≤ x) := fun k => maxOf_le ds _ x HDB.out 0 (by omega)
      clear hR HOx HOe hdl1 t0 t1 t2 t3
      go_wp2_with fail
      clear s0 s1 s2 s3
      have HB0 : Hid ((w3.alloc (.cells #[.int .i64 (kd : Int), .slice oa of'.length oc, .slice na nn nc, .slice aa an ac] 293)).heap[w3.heap.size]? = some (.cells #[.int .i64 (kd : Int), .slice oa of'.length oc, .slice na nn nc, .slice aa an ac] 293 (0, 0))) := heap_new_at rfl _
      have HF4 : Hid (Fr Zero w (w3.alloc (.cells #[.int .i64 (kd : Int), .slice oa of'.length oc, .slice na nn nc, .slice aa an ac] 293))) := HF.out.trans (Fr.alloc _ _ _)
      have HO4 : Hid ((w3.alloc (.cells #[.int .i64 (kd : Int), .slice oa of'.length oc, .slice na nn nc, .slice aa an ac] 293)).ownsRow 0 3 1 (.slice (some ⟨w.heap.size, 0, none⟩) tab.length tab.length) tab.length (ints (outL ds 0 (tab.length - x - 1)))) := HOX.out.alloc _
      have hw4 : w3.heap.size + 1 = (w3.alloc (.cells #[.int .i64 (kd : Int), .slice oa of'.length oc, .slice na nn nc, .slice aa an ac] 293)).heap.size := by simp
      have HW4 := hide hw4
      clear hw4
      generalize w3.alloc (.cells #[.int .i64 (kd : Int), .slice oa of'.length oc, .slice na nn nc, .slice aa an ac] 293) = w4 at *
      go_loopw [6] (fun kv wr => ∃ k : Nat, k ≤ of'.length ∧ kv = .int .i64 k ∧ Hid (wr.ownsRow 0 3 1 (.slice (some ⟨w.heap.size, 0, none⟩) tab.length tab.length) tab.length (ints (outL ds (maxOf ds (of'.take k) 0) (tab.length - x - 1)))) ∧ Hid (Fr (One w.heap.size) w4 wr)) (fun kv _ => of'.length - (intOf kv).toNat)
      case atStart => exact ⟨0, by omega, rfl, HO4, Fr.refl _ _⟩
      case round =>
        obtain ⟨k, hkl, rfl, HOk, HFk⟩ := hrel
        have hbx := HFk.out.keep HB0.out (fun e => by have e' : w3.heap.size = w.heap.size := e; omega)
        have b0 : wr.cell? ⟨w3.heap.size, 0, none⟩ = some (.int .i64 (kd : Int)) := by rw [cell_of_heap hbx]; rfl
        have b1 : wr.cell? ⟨w3.heap.size, 1, none⟩ = some (.slice oa of'.length oc) := by rw [cell_of_heap hbx]; rfl
        have HDX : Hid (wr.cell? ⟨w.heap.size, x, none⟩ = some (.int .i64 (maxOf ds (of'.take k) 0 : Nat))) := by
          show _ = _
          rw [sl_cell HOk.out hx]
          have := outL_at ds (maxOf ds (of'.take k) 0) (tab.length - x - 1)
          rw [HDL.out] at this
          exact this
        have dx := HDX.out
        have fx : wr.frozen? ⟨w.heap.size, x, none⟩ = false := HOk.out.frozenAt x
        have hmx := HMX.out k
        have HFF : Hid (Fr Zero w wr) := HF4.out.past (HFk.out.mono (fun b _ e => by have e' : b = w.heap.size := e; omega))
        clear hbx
        by_cases hlt : k < of'.length
        · obtain ⟨go, co, eo, hox, hgol, hco⟩ := HSO.out.open (by rw [ints_length]; omega)
          have hok := (hco k (by rw [ints_length]; omega)).trans (numsI _ k hlt)
          rw [ints_length] at eo
          cases eo
          have hyx : numAt of' k < x := HOF.out _ (by unfold numAt; simp [hlt])
          have hok' : wr.cell? ⟨go, k, none⟩ = some (.int .i64 (numAt of' k : Nat)) := (HFF.out.cell (a := ⟨go, k, none⟩) hgol (fun h => h)).trans hok
          have dy : wr.cell? ⟨w.heap.size, numAt of' k, none⟩ = some (.int .i64 (numAt ds (numAt of' k) : Nat)) := by
            rw [sl_cell HOk.out (by omega)]
            exact outL_get ds _ _ _ (by rw [HDL.out]; exact hyx)
          have hyI : ((numAt of' k : Nat) : Int) < ((tab.length : Nat) : Int) := by omega
          have HMT := hide (maxOf_take ds of' k hlt)
          have hyd := HDB.out (numAt of' k)
          have HSTO := hide (fun (d : Nat) => (HOk.out.stored x (.int .i64 (d : Int))).1)
          clear hco hox hok
          generalize numAt of' k = y at *
          generalize numAt ds y = dy' at *
          generalize maxOf ds (of'.take k) 0 = c at *
          by_cases hgt : c < dy'
          · have hgI : (c : Int) < (dy' : Int) := by omega
            have HGT := hide hgt
            clear hgt
            go_wp2_with fail
            go_quiet (fail)
            go_wp2_with fail
            go_roundw
            case rel =>
              refine ⟨k + 1, by omega, by go_num, ?_, ?_⟩
              · rw [HMT.out, show max c dy' = dy' by have := HGT.out; omega]
                have e1 := HSTO.out dy'
                have e2 := outL_set ds c (tab.length - x - 1) dy'
                rw [HDL.out] at e2
                rw [e2] at e1
                exact e1
              · exact HFk.out.trans ((Fr.drewN _ _ _).trans (Fr.setCell _ _ _ _ (show One w.heap.size w.heap.size from rfl)))
            case measure => simp [intOf]; omega
          · have hgI : ¬ (c : Int) < (dy' : Int) := by omega
            have HGT := hide hgt
            clear hgt
            go_wp2_with fail
            go_quiet (fail)
            go_wp2_with fail
            go_roundw
            case rel =>
              refine ⟨k + 1, by omega, by go_num, ?_, ?_⟩
              · rw [HMT.out, show max c dy' = c by have := HGT.out; omega]
                exact ownsRow_keep HOk.out (Fr.drewN Zero _ _) (fun _ _ h => h)
              · exact HFk.out.trans (Fr.drewN _ _ _)
            case measure => simp [intOf]; omega
        · have hke : k = of'.length := by omega
          subst hke
          rw [List.take_length] at HOk dx HDX hmx
          generalize hmo : maxOf ds of' 0 = c at *
          have HMO := hide hmo
          clear hmo HDX
          by_cases hk11 : kd = 11
          · have hkI : ((kd : Int) != 11) = false := by simp; omega
            have HFIN : Hid (wr.ownsRow 0 3 1 (.slice (some ⟨w.heap.size, 0, none⟩) tab.length tab.length) tab.length (ints (outL ds (c + 0) (tab.length - x - 1)))) := HOk.out
            have HK := hide hk11
            rw [if_pos hk11] at HDE
            clear hk11
            go_wp2_with fail
            go_roundw
            case rel =>
              refine ⟨x + 1, by omega, by go_num, (fun hx1 => ?_), (fun hx1 => ?_), HFF.out⟩
              · rw [HDO.out, HDE.out, ← outL_next, show tab.length - (x + 1) - 1 + 1 = tab.length - x - 1 by omega]
                exact HFIN.out
              · rw [← hx1, HDO.out, HDE.out]
                have := HFIN.out
                rw [show tab.length - x - 1 = 0 by omega] at this
                rw [← hx1] at this
                exact this
            case measure => simp [intOf]; omega
          · have hkI : ((kd : Int) != 11) = true := by simp; omega
            have HFIN : Hid ((wr.setCell ⟨w.heap.size, x, none⟩ (.int .i64 ((c + 1 : Nat) : Int))).ownsRow 0 3 1 (.slice (some ⟨w.heap.size, 0, none⟩) tab.length tab.length) tab.length (ints (outL ds (c + 1) (tab.length - x - 1)))) := by
              have e1 := (HOk.out.stored x (.int .i64 ((c + 1 : Nat) : Int))).1
              have e2 := outL_set ds c (tab.length - x - 1) (c + 1)
              rw [HDL.out] at e2
              rw [e2] at e1
              exact e1
            have HFF2 : Hid (Fr Zero w (wr.setCell ⟨w.heap.size, x, none⟩ (.int .i64 ((c + 1 : Nat) : Int)))) := HFF.out.past (Fr.setCell _ _ _ _ (Nat.le_refl _))
            rw [if_neg hk11] at HDE
            clear hk11
            go_wp2_with fail
            go_roundw
            case rel =>
              refine ⟨x + 1, by omega, by go_num, (fun hx1 => ?_), (fun hx1 => ?_), HFF2.out⟩
              · rw [HDO.out, HDE.out, ← outL_next, show tab.length - (x + 1) - 1 + 1 = tab.length - x - 1 by omega]
                exact HFIN.out
              · rw [← hx1, HDO.out, HDE.out]
                have := HFIN.out
                rw [show tab.length - x - 1 = 0 by omega] at this
                rw [← hx1] at this
                exact this
            case measure => simp [intOf]; omega
    · have hxe : x = tab.length := by omega
      have HO9 := hide (HOe.out hxe)
      subst hxe
      clear HOx HOe
      go_wp2_with fail
      go_ret
      refine ⟨HF, w.heap.size, rfl, fun y hy => ?_⟩
      rw [sl_cell HO9.out hy]
      exact numsI _ y (by rw [rDepths_length]; exact hy)

end Go.Proofs.YtnhkalnihjkoeaaGreatDoor

namespace Go.Proofs.YtnhkalnihjkoeaaGreatDoor
open Go.RowKit

def rNames (d : RD) (N : Nat) : Nat → Nat → List RT → Option Nat × List RT
  | 0, _, tab => (none, tab)
  | m + 1, i, tab =>
    if (rNamed d.lines d.roots (textAt d.lines i) i).isSome = true then (some (numAt d.ats i), tab) else
    match (rWrong d.lines d.roots i N tab (numAt d.roots i)).1 with
    | some a => (some a, (rWrong d.lines d.roots i N tab (numAt d.roots i)).2)
    | none => rNames d N m (i + 1) (rWrong d.lines d.roots i N tab (numAt d.roots i)).2

def rDeep (d : RD) (ds : List Nat) : Nat → Nat → Option Nat
  | 0, _ => none
  | m + 1, i => if 12 < numAt ds (numAt d.roots i) then some (numAt d.ats i) else rDeep d ds m (i + 1)

def rAll (s : ByteArray) : RD := rDesc s 10 ⟨0, false, [], [], [], []⟩
def rNamesAll (d : RD) : Option Nat × List RT := rNames d d.tab.length d.lines.length 0 d.tab

def checkD (d : RD) : Nat × Nat :=
  if d.bad = true then (2, d.n) else
  match (rNamesAll d).1 with
  | some a => (3, a)
  | none => match rDeep d (rDepths (rNamesAll d).2 d.tab.length) d.lines.length 0 with
    | some a => (4, a)
    | none => (0, 0)
def checkR (s : ByteArray) : Nat × Nat := if 400 < s.size then (1, 0) else checkD (rAll s)

/-- What a description's table must be. -/
def Fine (d : RD) : Prop := d.bad = false → W1 d.tab ∧ (∀ y ∈ d.roots, y < d.tab.length) ∧ 0 < d.lines.length ∧ ((rNamesAll d).1 = none → W2 (rNamesAll d).2)

/-- The description that is handed on. -/
def RGive (w' : World) (s : ByteArray) (a : Option Addr) : Prop :=
  ∃ (db : Nat) (X : Nat → Prop) (n : Nat) (tv lv av rv : Value) (lines : List ByteArray) (ats : List Nat) (B0 : Nat), a = some ⟨db, 0, none⟩ ∧ DS w' X db s n false tv lv av rv (rNamesAll (rAll s)).2 ∧ LD w' B0 lv av rv lines ats (rAll s).roots ∧ (rNamesAll (rAll s)).2.length ≤ 1000 ∧ (rAll s).roots.length ≤ 1000
def RPost (w : World) (s : ByteArray) (e : Ending) (w' : World) : Prop := Fr Zero w w' ∧ ∃ a : Option Addr, e = .returned (.tuple #[.pointer a, .int .i64 (checkR s).1, .int .i64 (checkR s).2]) ∧ (checkR s = (0, 0) → RGive w' s a)

theorem read_long (s : ByteArray) (w : World) (hl : 400 < s.size) (hs : s.size ≤ maxLen) :
    Calls Tryz.prog 51 #[.string s] w fun e w' => RPost w s e w' := by
  unfold maxLen at hs
  have hC : Hid (checkR s = (1, 0)) := by show checkR s = _; unfold checkR; rw [if_pos hl]
  go_enter Tryz.func51, Tryz.ntmps51
  go_wp2_with fail
  go_ret3
  unfold RPost
  rw [hC.out]
  exact ⟨Fr.refl _ _, none, rfl, fun h => by simp at h⟩

set_option maxRecDepth 100000 in
set_option maxHeartbeats 16000000 in
theorem read_short (s : ByteArray) (w : World) (hl : s.size ≤ 400) (hfine : Fine (rAll s)) :
    Calls Tryz.prog 51 #[.string s] w fun e w' => RPost w s e w' := by
  have hni : ¬ ((400 : Int) < (s.size : Int)) := by omega
  have HC : Hid (checkR s = checkD (rAll s)) := by show checkR s = _; unfold checkR; rw [if_neg (by omega)]
  have HP := hide (rparse_any s w hl)
  have HFI := hide hfine
  clear hfine
  go_enter Tryz.func51, Tryz.ntmps51
  go_wp2_with fail
  refine HP.out.mono ?_
  rw [show rDesc s 10 ⟨0, false, [], [], [], []⟩ = rAll s from rfl]
  generalize hdd : rAll s = d at *
  have HDD := hide hdd
  clear hdd
  rintro e w1 ⟨rfl, hF1, hdn, tv, lv, av, rv, hS1, hL1, htv1, hll, hla, hlr, htl⟩
  have hD1 := hS1.1
  have c1 := hD1.at1
  have c6 := hD1.at6
  have HF1 := hide hF1
  have HS1 := hide hS1
  have HL1 := hide hL1
  have HTV := hide htv1
  clear hF1 hS1 hL1 htv1 hD1
  rcases hb : d.bad with _ | _
  · obtain ⟨hW1, hrt, hpos, hW2⟩ := HFI.out hb
    rw [hb] at c6 HS1
    have HCD : Hid (checkR s = match (rNamesAll d).1 with
        | some a => (3, a)
        | none => match rDeep d (rDepths (rNamesAll d).2 d.tab.length) d.lines.length 0 with
          | some a => (4, a)
          | none => (0, 0)) := HC.out.trans (by unfold checkD; rw [hb]; rfl)
    have HBD := hide hb
    have HW1 := hide hW1
    have HRT := hide hrt
    have HW2 := hide hW2
    have HLA := hide hla
    have HLR := hide hlr
    rcases HL1.out.sl.2 with ⟨_, e⟩ | ⟨gl, cl, curl, el, _⟩
    · omega
    rcases HL1.out.sr.2 with ⟨_, e⟩ | ⟨gr, cr, curr, er, _⟩
    · omega
    rcases HL1.out.sa.2 with ⟨_, e⟩ | ⟨ga, ca, cura, ea, _⟩
    · omega
    subst el er ea
    clear hb hW1 hrt hW2 hla hlr HC HFI HP c1
    go_wp2_with fail
    go_loopw [6] (fun iv wr => ∃ (i : Nat) (tab : List RT), i ≤ d.lines.length ∧ iv = .int .i64 i ∧ Hid (rNamesAll d = rNames d d.tab.length (d.lines.length - i) i tab) ∧ Hid (DS wr (XL w.heap.size (.slice (some ⟨gl, 0, none⟩) d.lines.length cl) (.slice (some ⟨ga, 0, none⟩) d.ats.length ca) (.slice (some ⟨gr, 0, none⟩) d.roots.length cr)) w.heap.size s d.n false tv (.slice (some ⟨gl, 0, none⟩) d.lines.length cl) (.slice (some ⟨ga, 0, none⟩) d.ats.length ca) (.slice (some ⟨gr, 0, none⟩) d.roots.length cr) tab) ∧ Hid (LD wr w.heap.size (.slice (some ⟨gl, 0, none⟩) d.lines.length cl) (.slice (some ⟨ga, 0, none⟩) d.ats.length ca) (.slice (some ⟨gr, 0, none⟩) d.roots.length cr) d.lines d.ats d.roots) ∧ Hid (W1 tab ∧ tab.length = d.tab.length) ∧ Hid (Fr Zero w wr)) (fun iv _ => d.lines.length - (intOf iv).toNat)
    case atStart => exact ⟨0, d.tab, by omega, rfl, rfl, HS1, HL1, ⟨HW1.out, rfl⟩, HF1⟩
    case round =>
      obtain ⟨i, tab, hil, rfl, HN, HS, HL, HW, HF⟩ := hrel
      obtain ⟨w3, rfl⟩ : ∃ z, z = wr := ⟨wr, rfl⟩
      have hD := HS.out.1
      have d3 := hD.at3
      have d4 := hD.at4
      have d5 := hD.at5
      clear hD
      by_cases hlt : i < d.lines.length
      · have hlc : w3.cell? ⟨gl, i, none⟩ = some (.string (textAt d.lines i)) := (sl_cell HL.out.sl hlt).trans (textsI _ i hlt)
        have hrc : w3.cell? ⟨gr, i, none⟩ = some (.int .i64 (numAt d.roots i : Nat)) := (sl_cell HL.out.sr (by have := HLR.out; omega)).trans (numsI _ i (by have := HLR.out; omega))
        have hac : w3.cell? ⟨ga, i, none⟩ = some (.int .i64 (numAt d.ats i : Nat)) := (sl_cell HL.out.sa (by have := HLA.out; omega)).trans (numsI _ i (by have := HLA.out; omega))
        have hlI : ((i : Nat) : Int) < ((d.lines.length : Nat) : Int) := by omega
        have hrI : ((i : Nat) : Int) < ((d.roots.length : Nat) : Int) := by have := HLR.out; omega
        have haI : ((i : Nat) : Int) < ((d.ats.length : Nat) : Int) := by have := HLA.out; omega
        have HST : Hid (rNames d d.tab.length (d.lines.length - i) i tab = if (rNamed d.lines d.roots (textAt d.lines i) i).isSome = true then (some (numAt d.ats i), tab) else
            match (rWrong d.lines d.roots i d.tab.length tab (numAt d.roots i)).1 with
            | some a => (some a, (rWrong d.lines d.roots i d.tab.length tab (numAt d.roots i)).2)
            | none => rNames d d.tab.length (d.lines.length - (i + 1)) (i + 1) (rWrong d.lines d.roots i d.tab.length tab (numAt d.roots i)).2) := by
          show _ = _
          rw [show d.lines.length - i = (d.lines.length - (i + 1)) + 1 by omega]
          rfl
        go_wp2_with fail
        refine (named_any HS.out.1 HL.out HLR.out (by omega) (textAt d.lines i) i hil).mono ?_
        rintro e w4 ⟨rfl, e4⟩
        obtain rfl := e4.symm
        rcases hnd : rNamed d.lines d.roots (textAt d.lines i) i with _ | to
        · have HST2 : Hid (rNamesAll d = match (rWrong d.lines d.roots i d.tab.length tab (numAt d.roots i)).1 with
              | some a => (some a, (rWrong d.lines d.roots i d.tab.length tab (numAt d.roots i)).2)
              | none => rNames d d.tab.length (d.lines.length - (i + 1)) (i + 1) (rWrong d.lines d.roots i d.tab.length tab (numAt d.roots i)).2) := HN.out.trans (HST.out.trans (by rw [hnd]; rfl))
          clear hnd HST
          simp only [intOr]
          have hrb : numAt d.roots i < tab.length := by
            rw [HW.out.2]
            exact HRT.out _ (by unfold numAt; simp [show i < d.roots.length by have := HLR.out; omega])
          have HKP := hide (rWrong_keeps d.lines d.roots i d.tab.length tab (numAt d.roots i) HW.out.1 hrb)
          have HX3 : Hid (∀ b, XL w.heap.size (.slice (some ⟨gl, 0, none⟩) d.lines.length cl) (.slice (some ⟨ga, 0, none⟩) d.ats.length ca) (.slice (some ⟨gr, 0, none⟩) d.roots.length cr) b → b < w3.heap.size) := fun b hb => by
            rcases hb with h | h
            · have := lt_of_heap HS.out.1; omega
            · exact HL.out.lt b h
          go_wp2_with fail
          refine (wrong_all HLR.out (by omega) hil d.tab.length w3 _ w.heap.size w.heap.size s d.n false tv _ _ _ tab (numAt d.roots i) HS (.inl rfl) HX3 HL HW.out.1 hrb (by have := HW.out.2; omega) (by have := HW.out.2; omega)).mono ?_
          generalize rWrong d.lines d.roots i d.tab.length tab (numAt d.roots i) = r at *
          rintro e w5 ⟨rfl, hF5, hS5⟩
          have HL5 := hide (HL.out.keep hF5 (fun g hg e => by
            rcases hg with h' | h' | h'
            · exact HS.out.tvne HL.out.sl (by decide) g h' e
            · exact HS.out.tvne HL.out.sa (by decide) g h' e
            · exact HS.out.tvne HL.out.sr (by decide) g h' e))
          have HF5 := hide (HF.out.past (hF5.mono (fun k _ e => HTV.out k e)))
          have HS5 := hide hS5
          clear hF5 hS5
          rcases hr1 : r.1 with _ | pl
          · have HT2 : Hid (rNamesAll d = rNames d d.tab.length (d.lines.length - (i + 1)) (i + 1) r.2) := HST2.out.trans (by rw [hr1])
            clear hr1 HST2
            simp only [intOr]
            go_wp2_with fail
            go_roundw
            case rel => exact ⟨i + 1, r.2, by omega, by go_num, HT2, HS5, HL5, ⟨HKP.out.1, HKP.out.2.trans HW.out.2⟩, HF5⟩
            case measure => simp [intOf]; omega
          · have HT2 : Hid (checkR s = (3, pl)) := HCD.out.trans (by rw [HST2.out, hr1])
            have hpl : (0 : Int) ≤ (pl : Int) := by omega
            clear hr1 HST2 HCD
            simp only [intOr]
            go_wp2_with fail
            go_ret3
            unfold RPost
            rw [HT2.out]
            exact ⟨HF5, none, rfl, fun h => by simp at h⟩
        · have HT2 : Hid (checkR s = (3, numAt d.ats i)) := HCD.out.trans (by rw [HN.out, HST.out, hnd]; rfl)
          have hto : (0 : Int) ≤ (to : Int) := by omega
          clear hnd HST HCD
          simp only [intOr]
          go_wp2_with fail
          go_quiet (fail)
          go_wp2_with fail
          go_ret3
          unfold RPost
          rw [HT2.out]
          exact ⟨HF.out.trans (Fr.drewN _ _ _), none, rfl, fun h => by simp at h⟩
      · have hie : i = d.lines.length := by omega
        subst hie
        have HNE : Hid (rNamesAll d = (none, tab)) := HN.out.trans (by rw [Nat.sub_self]; rfl)
        have hW2 := HW2.out (by rw [HNE.out])
        rw [HNE.out] at hW2
        have HCE : Hid (checkR s = match rDeep d (rDepths tab tab.length) d.lines.length 0 with
            | some a => (4, a)
            | none => (0, 0)) := HCD.out.trans (by rw [HNE.out, HW.out.2])
        have HWW := hide hW2
        clear hW2 HCD HN
        go_wp2_with fail
        refine (depths_any HS HWW.out (by have := HW.out.2; omega) ?_).mono ?_
        · have h1 := HRT.out (numAt d.roots 0) (by unfold numAt; simp [show 0 < d.roots.length by have := HLR.out; omega])
          have := HW.out.2
          omega
        rintro e w4 ⟨hF4, g4, rfl, hc4⟩
        have HF4 := hide (HF.out.trans hF4)
        have HL4 := hide (HL.out.keep hF4 (fun _ _ h => h))
        have HD4 := hide (hF4.keep HS.out.1 (fun h => h))
        have HC4 := hide hc4
        generalize rDepths tab tab.length = ds at *
        have HFq := hide hF4
        clear hF4 hc4 d3 d4 d5
        go_wp2_with fail
        go_loopw [10] (fun iv wr => ∃ i : Nat, i ≤ d.lines.length ∧ iv = .int .i64 i ∧ Hid (rDeep d ds d.lines.length 0 = rDeep d ds (d.lines.length - i) i) ∧ Hid (Fr Zero w4 wr)) (fun iv _ => d.lines.length - (intOf iv).toNat)
        case atStart => exact ⟨0, by omega, rfl, rfl, Fr.refl _ _⟩
        case round =>
          obtain ⟨i, hil2, rfl, HDP, HZ⟩ := hrel
          have hD5 : DB wr w.heap.size s d.n false tv (.slice (some ⟨gl, 0, none⟩) d.lines.length cl) (.slice (some ⟨ga, 0, none⟩) d.ats.length ca) (.slice (some ⟨gr, 0, none⟩) d.roots.length cr) := HZ.out.keep HD4.out (fun h => h)
          have HL5 := hide (HL4.out.keep HZ.out (fun _ _ h => h))
          have d3 := hD5.at3
          have d4 := hD5.at4
          have d5 := hD5.at5
          clear hD5
          by_cases hlt2 : i < d.lines.length
          · have hrc : wr.cell? ⟨gr, i, none⟩ = some (.int .i64 (numAt d.roots i : Nat)) := (sl_cell HL5.out.sr (by have := HLR.out; omega)).trans (numsI _ i (by have := HLR.out; omega))
            have hac : wr.cell? ⟨ga, i, none⟩ = some (.int .i64 (numAt d.ats i : Nat)) := (sl_cell HL5.out.sa (by have := HLA.out; omega)).trans (numsI _ i (by have := HLA.out; omega))
            have hrb : numAt d.roots i < tab.length := by
              rw [HW.out.2]
              exact HRT.out _ (by unfold numAt; simp [show i < d.roots.length by have := HLR.out; omega])
            have hgc : wr.cell? ⟨g4, numAt d.roots i, none⟩ = some (.int .i64 (numAt ds (numAt d.roots i) : Nat)) := (HZ.out.cell (a := ⟨g4, numAt d.roots i, none⟩) (World.block_lt_of_cell? w4 _ (HC4.out _ hrb)) (fun h => h)).trans (HC4.out _ hrb)
            have hlI : ((i : Nat) : Int) < ((d.lines.length : Nat) : Int) := by omega
            have hrI : ((i : Nat) : Int) < ((d.roots.length : Nat) : Int) := by have := HLR.out; omega
            have haI : ((i : Nat) : Int) < ((d.ats.length : Nat) : Int) := by have := HLA.out; omega
            have htI : ((numAt d.roots i : Nat) : Int) < ((tab.length : Nat) : Int) := by omega
            have HST : Hid (rDeep d ds (d.lines.length - i) i = if 12 < numAt ds (numAt d.roots i) then some (numAt d.ats i) else rDeep d ds (d.lines.length - (i + 1)) (i + 1)) := by
              show _ = _
              rw [show d.lines.length - i = (d.lines.length - (i + 1)) + 1 by omega]
              rfl
            generalize numAt ds (numAt d.roots i) = dd at *
            generalize numAt d.roots i = ri at *
            generalize numAt d.ats i = ai at *
            by_cases h12 : 12 < dd
            · have h12I : (12 : Int) < (dd : Int) := by omega
              have HT2 : Hid (checkR s = (4, ai)) := HCE.out.trans (by rw [HDP.out, HST.out, if_pos h12])
              clear h12 HST HDP
              go_wp2_with fail
              go_quiet (fail)
              go_wp2_with fail
              go_ret3
              unfold RPost
              rw [HT2.out]
              exact ⟨HF4.out.trans (HZ.out.trans (Fr.drewN _ _ _)), none, rfl, fun h => by simp at h⟩
            · have h12I : ¬ (12 : Int) < (dd : Int) := by omega
              have HT2 : Hid (rDeep d ds d.lines.length 0 = rDeep d ds (d.lines.length - (i + 1)) (i + 1)) := HDP.out.trans (HST.out.trans (by rw [if_neg h12]))
              clear h12 HST HDP
              go_wp2_with fail
              go_roundw
              case rel => exact ⟨i + 1, by omega, by go_num, HT2, HZ⟩
              case measure => simp [intOf]; omega
          · have hie2 : i = d.lines.length := by omega
            subst hie2
            have HT2 : Hid (checkR s = (0, 0)) := HCE.out.trans (by rw [HDP.out, Nat.sub_self]; rfl)
            clear HDP
            go_wp2_with fail
            go_ret3
            unfold RPost
            rw [HT2.out]
            refine ⟨HF4.out.trans HZ.out, _, rfl, fun _ => ?_⟩
            have hq := HFq.out.trans HZ.out
            obtain ⟨hD, rows, hO, hT⟩ := HS.out
            unfold RGive
            rw [HDD.out, HNE.out]
            exact ⟨_, _, _, _, _, _, _, _, _, _, rfl, ⟨hq.keep hD (fun h => h), rows, ownsRow_keep hO hq (fun _ _ h => h), hT.keep hq.of0⟩, HL.out.keep hq (fun _ _ h => h), by have := HW.out.2; simp only; omega, by have := HLR.out; omega⟩
  · rw [hb] at c6
    have HT2 : Hid (checkR s = (2, d.n)) := HC.out.trans (by unfold checkD; rw [hb]; rfl)
    clear hb HC HP HFI HS1
    go_wp2_with fail
    go_quiet (fail)
    go_wp2_with fail
    go_ret3
    unfold RPost
    rw [HT2.out]
    exact ⟨HF1.out.trans (Fr.drewN _ _ _), none, rfl, fun h => by simp at h⟩

theorem read_any (s : ByteArray) (w : World) (hs : s.size ≤ maxLen) (hfine : s.size ≤ 400 → Fine (rAll s)) :
    Calls Tryz.prog 51 #[.string s] w fun e w' => RPost w s e w' := by
  by_cases h : 400 < s.size
  · exact read_long s w h hs
  · exact read_short s w (by omega) (hfine (by omega))

end Go.Proofs.YtnhkalnihjkoeaaGreatDoor

namespace Go.Proofs.YtnhkalnihjkoeaaGreatDoor
open Go.RowKit

/-- Both readers tell the same of every text. -/
def Agree : Prop := ∀ s : ByteArray, s.size ≤ 400 → Fine (rAll s) ∧ checkP s = checkR s
theorem Agree.all (h : Agree) (s : ByteArray) : (s.size ≤ 400 → Fine (rAll s)) ∧ checkP s = checkR s := by
  refine ⟨fun hs => (h s hs).1, ?_⟩
  by_cases hs : 400 < s.size
  · unfold checkP checkR; rw [if_pos hs, if_pos hs]
  · exact (h s (by omega)).2

theorem num_any (e : Int) (w : World) (_h0 : 0 ≤ e) (_h1 : e ≤ 1000) :
    Calls Tryz.prog 30 #[.int .i64 e] w fun ev w' => ev = .returned (.int .i64 e) ∧ w' = w := by
  go_enter Tryz.func30, Tryz.ntmps30
  go_wp2_with fail
  go_ret
  exact ⟨rfl, rfl⟩

theorem checkP_le (s : ByteArray) : (checkP s).1 ≤ 4 := by
  unfold checkP
  split
  · simp
  · split
    · simp
    · split
      · simp
      · split <;> simp

end Go.Proofs.YtnhkalnihjkoeaaGreatDoor
