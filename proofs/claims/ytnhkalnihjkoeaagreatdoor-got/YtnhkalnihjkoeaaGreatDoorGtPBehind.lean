/- The part behind a step. -/
import Derived.Test.YtnhkalnihjkoeaaGreatDoorGtDPure
import Derived.Test.YtnhkalnihjkoeaaGreatDoorGtPStep
namespace Go.Proofs.YtnhkalnihjkoeaaGreatDoor
open Go.RowKit

def behindI (v : PV) (st : Bs) : Nat → List PV → Option PV
  | _, [] => none
  | i, u :: l => if stepOf v.of v.num i = st then some u else behindI v st (i + 1) l
/-- The part that a step leads to. -/
def behindP (v : PV) (st : Bs) : Option PV := behindI v st 0 v.parts
def StepOk (v : PV) : Prop := ∀ i, i < v.parts.length → v.of.kind = 7 ∨ v.of.kind = 8 ∨ (v.of.kind = 9 ∧ i < v.of.subs.length) ∨ (v.of.kind = 10 ∧ ∃ j : Nat, v.num = j ∧ j < v.of.subs.length)
def zeroV : Value := .agg #[.pointer none, .int .i64 0, .string ⟨#[]⟩, .slice none 0 0]

def BehindPost (w0 w : World) (v : PV) (st : Bs) (e : Ending) (w' : World) : Prop :=
  Fr Zero w w' ∧ ((behindP v st = none ∧ e = .returned (.tuple #[zeroV, .bool false])) ∨ ∃ (u : PV) (c : VC), behindP v st = some u ∧ u ∈ v.parts ∧ e = .returned (.tuple #[c.val, .bool true]) ∧ VR w0 Zero c u ∧ ∃ o n j, c.sv = .slice o n j)

theorem results_ct {fn : Func} {p q : Tmp} {t1 : TypeId} (h : fn.results = #[.cell p t1, .tmp q]) (tmps : Array Value) (P : Program) (w : World) :
    (results fn tmps).run P w = ((asAddr (tmps.getD p undef)).run P w).andThen fun a w₁ => ((loadVar t1 a).run P w₁).andThen fun v w₂ => .ok (.tuple #[v, tmps.getD q undef]) w₂ := by
  simp only [results, h]
  simp [Sem.run_bind, Result.andThen]

set_option maxHeartbeats 16000000 in
set_option maxRecDepth 100000 in
theorem behind_any (w0 w : World) (hF0 : Fr Zero w0 w) (c : VC) (v : PV) (hV : VR w0 Zero c v) (hP : PowT w0) (hk : StepOk v) (hl : v.parts.length ≤ 1000) (st : ByteArray) :
    Calls Tryz.prog 124 #[c.val, .string st] w fun e w' => BehindPost w0 w v st.data.toList e w' := by
  have HV := hide hV
  have HF0 := hide hF0
  have HP := hide hP
  have HK := hide hk
  obtain ⟨htr, hn, hb, rows, hO, hx, hL⟩ := hV.open
  obtain ⟨ca, cn, cb, csv⟩ := c
  simp only at htr hn hb hO hx
  have HRL := hide hL.1
  have hrl9 : rows.length ≤ 1000 := by rw [hL.1]; exact hl
  obtain ⟨ea, ecap, hsl⟩ := own_slice hO
  subst hsl
  have HO := hide hO
  have HL := hide hL
  have HA1 : Hid (Fr Zero w ((w.alloc (.cells #[.pointer (some ca), .int .i64 cn, .string (ba cb), .slice ea rows.length ecap] 135)).alloc (.cells #[.pointer none, .int .i64 0, .string ⟨#[]⟩, .slice none 0 0] 135))) := (Fr.alloc _ _ _).trans (Fr.alloc _ _ _)
  have HB1 : Hid (((w.alloc (.cells #[.pointer (some ca), .int .i64 cn, .string (ba cb), .slice ea rows.length ecap] 135)).alloc (.cells #[.pointer none, .int .i64 0, .string ⟨#[]⟩, .slice none 0 0] 135)).heap[w.heap.size]? = some (.cells #[.pointer (some ca), .int .i64 cn, .string (ba cb), .slice ea rows.length ecap] 135 (0, 0))) := by
    show _ = _
    rw [Below.heap_alloc _ _ _ (by simp)]
    exact heap_new_at rfl _
  have HR1 : Hid (((w.alloc (.cells #[.pointer (some ca), .int .i64 cn, .string (ba cb), .slice ea rows.length ecap] 135)).alloc (.cells #[.pointer none, .int .i64 0, .string ⟨#[]⟩, .slice none 0 0] 135)).heap[w.heap.size + 1]? = some (.cells #[.pointer none, .int .i64 0, .string ⟨#[]⟩, .slice none 0 0] 135 (0, 0))) := heap_new_at (by simp) _
  clear hV hP hk htr hn hb hO hx hL hF0
  simp only [VC.val]
  go_enter Tryz.func124, Tryz.ntmps124
  go_wp2_with fail
  go_loopw [11] (fun iv wr => ∃ i : Nat, i ≤ rows.length ∧ iv = .int .i64 i ∧ Hid (wr.heap[w.heap.size]? = some (.cells #[.pointer (some ca), .int .i64 cn, .string (ba cb), .slice ea rows.length ecap] 135 (0, 0))) ∧ Hid (wr.heap[w.heap.size + 1]? = some (.cells #[.pointer none, .int .i64 0, .string ⟨#[]⟩, .slice none 0 0] 135 (0, 0))) ∧ Hid (Fr Zero w wr) ∧ Hid (behindP v st.data.toList = behindI v st.data.toList i (v.parts.drop i))) (fun iv _ => rows.length - (intOf iv).toNat)
  case atStart => exact ⟨0, by omega, rfl, HB1, HR1, HA1, by show _ = _; unfold behindP; rw [List.drop_zero]⟩
  case round =>
    clear HB1 HR1 HA1
    obtain ⟨i, hi, rfl, HB, HR, HF, HE⟩ := hrel
    have b0 : wr.cell? ⟨w.heap.size, 0, none⟩ = some (.pointer (some ca)) := by rw [cell_of_heap HB.out]; rfl
    have b1 : wr.cell? ⟨w.heap.size, 1, none⟩ = some (.int .i64 cn) := by rw [cell_of_heap HB.out]; rfl
    have b2 : wr.cell? ⟨w.heap.size, 2, none⟩ = some (.string (ba cb)) := by rw [cell_of_heap HB.out]; rfl
    have b3 : wr.cell? ⟨w.heap.size, 3, none⟩ = some (.slice ea rows.length ecap) := by rw [cell_of_heap HB.out]; rfl
    have hbl := lt_of_heap HB.out
    have hrl2 := lt_of_heap HR.out
    by_cases hlt : i < rows.length
    · have hI : (i : Int) < (rows.length : Int) := by omega
      obtain ⟨⟨ra, rn, rbs, rsv⟩, hr⟩ : ∃ r, rows[i]? = some r := ⟨rows[i], by simp⟩
      obtain ⟨u, hu⟩ : ∃ u, v.parts[i]? = some u := ⟨v.parts[i]'(by have := HRL.out; omega), by simp⟩
      have hvr := HL.out.2 i _ u hr hu
      obtain ⟨o2, n2, j2, hs2⟩ := hvr.sliced
      simp only at hs2
      subst hs2
      obtain ⟨g, cap, hv⟩ := own_some HO.out (by omega)
      simp at hv
      obtain ⟨rfl, rfl⟩ := hv
      obtain ⟨c0, c1, c2, c3⟩ := vCell HO.out rfl hr
      have hgl : g < w0.heap.size := (HO.out.lt g rfl).2
      have d0 : wr.cell? ⟨g, i * 4, none⟩ = some (.pointer (some ra)) := ((HF0.out.trans HF.out).cell (a := ⟨g, i * 4, none⟩) hgl (fun h => h)).trans c0
      have d1 : wr.cell? ⟨g, i * 4 + 1, none⟩ = some (.int .i64 rn) := ((HF0.out.trans HF.out).cell (a := ⟨g, i * 4 + 1, none⟩) hgl (fun h => h)).trans c1
      have d2 : wr.cell? ⟨g, i * 4 + 2, none⟩ = some (.string (ba rbs)) := ((HF0.out.trans HF.out).cell (a := ⟨g, i * 4 + 2, none⟩) hgl (fun h => h)).trans c2
      have d3 : wr.cell? ⟨g, i * 4 + 3, none⟩ = some (.slice o2 n2 j2) := ((HF0.out.trans HF.out).cell (a := ⟨g, i * 4 + 3, none⟩) hgl (fun h => h)).trans c3
      have HVR := hide hvr
      have HU : Hid (v.parts.drop i = u :: v.parts.drop (i + 1)) := by
        obtain ⟨h1, h2⟩ := List.getElem?_eq_some_iff.1 hu
        show _ = _
        rw [List.drop_eq_getElem_cons h1, h2]
      have HUM : Hid (u ∈ v.parts) := List.mem_of_getElem? hu
      have HKi := hide (HK.out i (by have := HRL.out; omega))
      have HF2 : Hid (Fr Zero wr (wr.alloc (.cells #[.pointer (some ra), .int .i64 rn, .string (ba rbs), .slice o2 n2 j2] 135))) := Fr.alloc _ _ _
      have HB2 := hide (HF2.out.keep HB.out (fun h => h))
      have HR2 := hide (HF2.out.keep HR.out (fun h => h))
      have HN2 : Hid ((wr.alloc (.cells #[.pointer (some ra), .int .i64 rn, .string (ba rbs), .slice o2 n2 j2] 135)).heap[wr.heap.size]? = some (.cells #[.pointer (some ra), .int .i64 rn, .string (ba rbs), .slice o2 n2 j2] 135 (0, 0))) := heap_new_at rfl _
      have HFw := hide (HF.out.trans HF2.out)
      clear hr hu hvr c0 c1 c2 c3
      go_wp2_with fail
      generalize wr.alloc (.cells #[.pointer (some ra), .int .i64 rn, .string (ba rbs), .slice o2 n2 j2] 135) = w2 at *
      refine (pstep_any w2 ⟨ca, cn, cb, .slice (some ⟨g, 0, none⟩) rows.length ecap⟩ v (HV.out.keep (HF0.out.trans HFw.out)) ⟨_, _, _, rfl⟩ i (HP.out.drawn (HF0.out.trans HFw.out)) (by omega) HKi.out).mono ?_
      rintro e w3 ⟨hF3, rfl⟩
      have HF3 := hide (HFw.out.trans hF3)
      have HB3 := hide (hF3.keep HB2.out (fun h => h))
      have HR3 := hide (hF3.keep HR2.out (fun h => h))
      have HN3 := hide (hF3.keep HN2.out (fun h => h))
      clear hF3
      generalize hSS : stepOf v.of v.num i = S at *
      have HSS := hide hSS
      clear hSS
      by_cases hq : S = st.data.toList
      · have hs : ((ba S).toList == st.toList) = true := by rw [strEq]; exact decide_eq_true (by rw [hq, ba_data])
        have HU2 : Hid (behindP v st.data.toList = some u) := by
          show _ = _
          rw [HE.out, HU.out]
          unfold behindI
          rw [HSS.out, if_pos hq]
        have n0 : w3.cell? ⟨wr.heap.size, 0, none⟩ = some (.pointer (some ra)) := by rw [cell_of_heap HN3.out]; rfl
        have n1 : w3.cell? ⟨wr.heap.size, 1, none⟩ = some (.int .i64 rn) := by rw [cell_of_heap HN3.out]; rfl
        have n2' : w3.cell? ⟨wr.heap.size, 2, none⟩ = some (.string (ba rbs)) := by rw [cell_of_heap HN3.out]; rfl
        have n3 : w3.cell? ⟨wr.heap.size, 3, none⟩ = some (.slice o2 n2 j2) := by rw [cell_of_heap HN3.out]; rfl
        have r0 : w3.cell? ⟨w.heap.size + 1, 0, none⟩ = some (.pointer none) := by rw [cell_of_heap HR3.out]; rfl
        have r1 : w3.cell? ⟨w.heap.size + 1, 1, none⟩ = some (.int .i64 0) := by rw [cell_of_heap HR3.out]; rfl
        have r2 : w3.cell? ⟨w.heap.size + 1, 2, none⟩ = some (.string ⟨#[]⟩) := by rw [cell_of_heap HR3.out]; rfl
        have r3 : w3.cell? ⟨w.heap.size + 1, 3, none⟩ = some (.slice none 0 0) := by rw [cell_of_heap HR3.out]; rfl
        have rf : ∀ o, w3.frozen? ⟨w.heap.size + 1, o, none⟩ = false := fun o => free_of_heap HR3.out
        have rf0 := rf 0
        have rf1 := rf 1
        have rf2 := rf 2
        have rf3 := rf 3
        clear b0 b1 b2 b3 d0 d1 d2 d3 rf hq
        go_wp2_with fail
        have HFE : Hid (Fr Zero w ((((w3.setCell ⟨w.heap.size + 1, 0, none⟩ (.pointer (some ra))).setCell ⟨w.heap.size + 1, 1, none⟩ (.int .i64 rn)).setCell ⟨w.heap.size + 1, 2, none⟩ (.string (ba rbs))).setCell ⟨w.heap.size + 1, 3, none⟩ (.slice o2 n2 j2))) := HF3.out.past (Fr.four (fun b => w.heap.size ≤ b) w3 (w.heap.size + 1) _ _ _ _ (Nat.le_succ _))
        refine bodyPost_ret (v := .tuple #[.agg #[.pointer (some ra), .int .i64 rn, .string (ba rbs), .slice o2 n2 j2], .bool true]) ?_ rfl ⟨HFE.out, .inr ⟨u, ⟨ra, rn, rbs, .slice o2 n2 j2⟩, HU2.out, HUM.out, rfl, HVR.out, _, _, _, rfl⟩⟩
        rw [results_ct rfl]
        have e := heap_four HR3.out (.pointer (some ra)) (.int .i64 rn) (.string (ba rbs)) (.slice o2 n2 j2)
        have d0 := cell_of_heap (o := 0) e
        have d1 := cell_of_heap (o := 1) e
        have d2 := cell_of_heap (o := 2) e
        have d3 := cell_of_heap (o := 3) e
        go_simp
        try rfl
      · have hs : ((ba S).toList == st.toList) = false := by rw [strEq]; exact decide_eq_false (fun e => hq (by rw [← e, ba_list]))
        have HU2 : Hid (behindP v st.data.toList = behindI v st.data.toList (i + 1) (v.parts.drop (i + 1))) := by
          show _ = _
          rw [HE.out, HU.out]
          unfold behindI
          rw [HSS.out, if_neg hq]
          rcases hz : v.parts.drop (i + 1) with _ | ⟨x, l⟩ <;> rfl
        clear b0 b1 b2 b3 d0 d1 d2 d3 hq
        go_wp2_with fail
        exact ⟨⟨i + 1, by omega, by go_num, HB3, HR3, HF3, HU2⟩, by simp [intOf]; omega⟩
    · have hi' : i = rows.length := by omega
      subst hi'
      have hI : ¬ (rows.length : Int) < (rows.length : Int) := by omega
      have HU2 : Hid (behindP v st.data.toList = none) := by
        show _ = _
        rw [HE.out, List.drop_of_length_le (by have := HRL.out; omega)]
        rfl
      have r0 : wr.cell? ⟨w.heap.size + 1, 0, none⟩ = some (.pointer none) := by rw [cell_of_heap HR.out]; rfl
      have r1 : wr.cell? ⟨w.heap.size + 1, 1, none⟩ = some (.int .i64 0) := by rw [cell_of_heap HR.out]; rfl
      have r2 : wr.cell? ⟨w.heap.size + 1, 2, none⟩ = some (.string ⟨#[]⟩) := by rw [cell_of_heap HR.out]; rfl
      have r3 : wr.cell? ⟨w.heap.size + 1, 3, none⟩ = some (.slice none 0 0) := by rw [cell_of_heap HR.out]; rfl
      have rf : ∀ o, wr.frozen? ⟨w.heap.size + 1, o, none⟩ = false := fun o => free_of_heap HR.out
      have rf0 := rf 0
      have rf1 := rf 1
      have rf2 := rf 2
      have rf3 := rf 3
      clear b0 b1 b2 b3 rf
      go_wp2_with fail
      refine bodyPost_ret (v := .tuple #[zeroV, .bool false]) ?_ rfl ⟨?_, .inl ⟨HU2.out, rfl⟩⟩
      · rw [results_ct rfl]
        have e := heap_four HR.out (.pointer none) (.int .i64 0) (.string ⟨#[]⟩) (.slice none 0 0)
        have d0 := cell_of_heap (o := 0) e
        have d1 := cell_of_heap (o := 1) e
        have d2 := cell_of_heap (o := 2) e
        have d3 := cell_of_heap (o := 3) e
        unfold zeroV
        go_simp
        try rfl
      · exact HF.out.past (Fr.four (fun b => w.heap.size ≤ b) wr (w.heap.size + 1) _ _ _ _ (Nat.le_succ _))

theorem Valid.stepOk {k : Nat} {t : PT} {v : PV} (hW : WFT k t) (hV : Valid k t v) : StepOk v ∧ v.parts.length ≤ 300 ∧ ∀ u ∈ v.parts, ∃ t', WFT (k - 1) t' ∧ Valid (k - 1) t' u := by
  rcases k with _ | k
  · exact hV.elim
  obtain ⟨hof, h⟩ := hV
  have hk := hW.1
  unfold StepOk
  rw [hof]
  split at h
  · exact ⟨fun i hi => by rw [h.2.1] at hi; simp at hi, by rw [h.2.1]; simp, fun u hu => by rw [h.2.1] at hu; simp at hu⟩
  split at h
  · exact ⟨fun i hi => by rw [h.2.1] at hi; simp at hi, by rw [h.2.1]; simp, fun u hu => by rw [h.2.1] at hu; simp at hu⟩
  split at h
  · exact ⟨fun i hi => by rw [h.2.1] at hi; simp at hi, by rw [h.2.1]; simp, fun u hu => by rw [h.2.1] at hu; simp at hu⟩
  split at h
  · exact ⟨fun i hi => by rw [h.2.1] at hi; simp at hi, by rw [h.2.1]; simp, fun u hu => by rw [h.2.1] at hu; simp at hu⟩
  split at h
  · exact ⟨fun i hi => by rw [h.2.1] at hi; simp at hi, by rw [h.2.1]; simp, fun u hu => by rw [h.2.1] at hu; simp at hu⟩
  split at h
  · rename_i h7
    have hs := hW.2.2.2.2.1 (.inl h7)
    exact ⟨fun i hi => .inl h7, h.2.2.1, fun u hu => ⟨_, hW.sub (by omega), h.2.2.2 u hu⟩⟩
  split at h
  · rename_i h8
    have hs := hW.2.2.2.2.1 (.inr h8)
    exact ⟨fun i hi => .inr (.inl h8), by omega, fun u hu => ⟨_, hW.sub (by omega), h.2.2.2 u hu⟩⟩
  split at h
  · rename_i h9
    have h6 := hW.2.2.2.2.2.1.1
    refine ⟨fun i hi => .inr (.inr (.inl ⟨h9, by omega⟩)), by omega, fun u hu => ?_⟩
    obtain ⟨i, hi⟩ := List.mem_iff_getElem?.1 hu
    have hil := (List.getElem?_eq_some_iff.1 hi).1
    exact ⟨_, hW.sub (by omega), h.2.2.2 i u hi⟩
  · obtain ⟨_, j, x, hj, hjl, hpp, hx⟩ := h
    refine ⟨fun i _ => .inr (.inr (.inr ⟨by omega, j, hj, hjl⟩)), by rw [hpp]; simp, fun u hu => ?_⟩
    rw [hpp] at hu
    simp at hu
    subst hu
    exact ⟨_, hW.sub hjl, hx⟩

end Go.Proofs.YtnhkalnihjkoeaaGreatDoor
