/- A path's steps. -/
import Derived.RangeFuncNested
import Derived.RangeFuncBound
import Derived.RangeFuncCalls
import Derived.RangeFuncLeaves
import Derived.Shelf.Abstract
import Derived.Shelf.RegionOpen
import Derived.WalkKit
import Derived.OwnWalkIn
import Derived.TacticsInMore
import Derived.LoopNIn
import Derived.LoopIn
import Derived.Test.YtdcjogpkogidaaaGreatDoorMdDPure
import Derived.Test.YtdcjogpkogidaaaGreatDoorMdPStep
section
namespace Go.Proofs.YtdcjogpkogidaaaGreatDoor
open Go.RowKit

def behindI (v : PV) (st : Bs) : Nat → List PV → Option PV
  | _, [] => none
  | i, u :: l => if stepOf v.of v.num i = st then some u else behindI v st (i + 1) l
/-- The part that a step leads to. -/
def behindP (v : PV) (st : Bs) : Option PV := behindI v st 0 v.parts
def StepOk (v : PV) : Prop := ∀ i, i < v.parts.length → v.of.kind = 7 ∨ v.of.kind = 8 ∨ (v.of.kind = 9 ∧ i < v.of.subs.length) ∨ (v.of.kind = 10 ∧ ∃ j : Nat, v.num = j ∧ j < v.of.subs.length)
def zeroV : Value := .agg #[.pointer none, .int .i64 0, .string ⟨#[]⟩, .slice none 0 0]

def BehindPost (w0 w : World) (v : PV) (st : Bs) (e : Ending) (w' : World) : Prop :=
  Fr Zero w w' ∧ ((behindP v st = none ∧ e = .returned (.tuple #[zeroV, .bool false])) ∨ ∃ (u : PV) (c : VC), behindP v st = some u ∧ u ∈ v.parts ∧ e = .returned (.tuple #[c.val, .bool true]) ∧ VR w0 Zero c u ∧ ∃ o n j, c.sv = .slice o n j)

theorem results_ct {fn : Func} {p q : Tmp} {t1 : TypeId} (h : fn.results = #[.cell p t1, .tmp q]) (tmps : Array Value) (P : Program) (w : World) :
    (results fn tmps).run P w = ((asAddr (tmps.getD p undef)).run P w).andThen fun a w₁ => ((loadVar t1 a).run P w₁).andThen fun v w₂ => .ok (.tuple #[v, tmps.getD q undef]) w₂ := by
  simp only [results, h]
  simp [Sem.run_bind, Result.andThen]

set_option maxHeartbeats 16000000 in
set_option maxRecDepth 100000 in
theorem behind_any (w0 w : World) (hF0 : Fr Zero w0 w) (c : VC) (v : PV) (hV : VR w0 Zero c v) (hP : PowT w0) (hk : StepOk v) (hl : v.parts.length ≤ 1000) (st : ByteArray) :
    Calls Tryz.prog 89 #[c.val, .string st] w fun e w' => BehindPost w0 w v st.data.toList e w' := by
  have HV := hide hV
  have HF0 := hide hF0
  have HP := hide hP
  have HK := hide hk
  obtain ⟨htr, hn, hb, rows, hO, hx, hL⟩ := hV.open
  obtain ⟨ca, cn, cb, csv⟩ := c
  simp only at htr hn hb hO hx
  have HRL := hide hL.1
  have hrl9 : rows.length ≤ 1000 := by rw [hL.1]; exact hl
  obtain ⟨ea, ecap, hsl⟩ := own_slice hO
  subst hsl
  have HO := hide hO
  have HL := hide hL
  have HA1 : Hid (Fr Zero w ((w.alloc (.cells #[.pointer (some ca), .int .i64 cn, .string (ba cb), .slice ea rows.length ecap] 96)).alloc (.cells #[.pointer none, .int .i64 0, .string ⟨#[]⟩, .slice none 0 0] 96))) := (Fr.alloc _ _ _).trans (Fr.alloc _ _ _)
  have HB1 : Hid (((w.alloc (.cells #[.pointer (some ca), .int .i64 cn, .string (ba cb), .slice ea rows.length ecap] 96)).alloc (.cells #[.pointer none, .int .i64 0, .string ⟨#[]⟩, .slice none 0 0] 96)).heap[w.heap.size]? = some (.cells #[.pointer (some ca), .int .i64 cn, .string (ba cb), .slice ea rows.length ecap] 96 (0, 0))) := by
    show _ = _
    rw [Below.heap_alloc _ _ _ (by simp)]
    exact heap_new_at rfl _
  have HR1 : Hid (((w.alloc (.cells #[.pointer (some ca), .int .i64 cn, .string (ba cb), .slice ea rows.length ecap] 96)).alloc (.cells #[.pointer none, .int .i64 0, .string ⟨#[]⟩, .slice none 0 0] 96)).heap[w.heap.size + 1]? = some (.cells #[.pointer none, .int .i64 0, .string ⟨#[]⟩, .slice none 0 0] 96 (0, 0))) := heap_new_at (by simp) _
  clear hV hP hk htr hn hb hO hx hL hF0
  simp only [VC.val]
  go_enter Tryz.func89, Tryz.ntmps89
  go_wp2_with fail
  go_loopw [11] (fun iv wr => ∃ i : Nat, i ≤ rows.length ∧ iv = .int .i64 i ∧ Hid (wr.heap[w.heap.size]? = some (.cells #[.pointer (some ca), .int .i64 cn, .string (ba cb), .slice ea rows.length ecap] 96 (0, 0))) ∧ Hid (wr.heap[w.heap.size + 1]? = some (.cells #[.pointer none, .int .i64 0, .string ⟨#[]⟩, .slice none 0 0] 96 (0, 0))) ∧ Hid (Fr Zero w wr) ∧ Hid (behindP v st.data.toList = behindI v st.data.toList i (v.parts.drop i))) (fun iv _ => rows.length - (intOf iv).toNat)
  case atStart => exact ⟨0, by omega, rfl, HB1, HR1, HA1, by show _ = _; unfold behindP; rw [List.drop_zero]⟩
  case round =>
    clear HB1 HR1 HA1
    obtain ⟨i, hi, rfl, HB, HR, HF, HE⟩ := hrel
    have b0 : wr.cell? ⟨w.heap.size, 0, none⟩ = some (.pointer (some ca)) := by rw [cell_of_heap HB.out]; rfl
    have b1 : wr.cell? ⟨w.heap.size, 1, none⟩ = some (.int .i64 cn) := by rw [cell_of_heap HB.out]; rfl
    have b2 : wr.cell? ⟨w.heap.size, 2, none⟩ = some (.string (ba cb)) := by rw [cell_of_heap HB.out]; rfl
    have b3 : wr.cell? ⟨w.heap.size, 3, none⟩ = some (.slice ea rows.length ecap) := by rw [cell_of_heap HB.out]; rfl
    have hbl := lt_of_heap HB.out
    have hrl2 := lt_of_heap HR.out
    by_cases hlt : i < rows.length
    · have hI : (i : Int) < (rows.length : Int) := by omega
      obtain ⟨⟨ra, rn, rbs, rsv⟩, hr⟩ : ∃ r, rows[i]? = some r := ⟨rows[i], by simp⟩
      obtain ⟨u, hu⟩ : ∃ u, v.parts[i]? = some u := ⟨v.parts[i]'(by have := HRL.out; omega), by simp⟩
      have hvr := HL.out.2 i _ u hr hu
      obtain ⟨o2, n2, j2, hs2⟩ := hvr.sliced
      simp only at hs2
      subst hs2
      obtain ⟨g, cap, hv⟩ := own_some HO.out (by omega)
      simp at hv
      obtain ⟨rfl, rfl⟩ := hv
      obtain ⟨c0, c1, c2, c3⟩ := vCell HO.out rfl hr
      have hgl : g < w0.heap.size := (HO.out.lt g rfl).2
      have d0 : wr.cell? ⟨g, i * 4, none⟩ = some (.pointer (some ra)) := ((HF0.out.trans HF.out).cell (a := ⟨g, i * 4, none⟩) hgl (fun h => h)).trans c0
      have d1 : wr.cell? ⟨g, i * 4 + 1, none⟩ = some (.int .i64 rn) := ((HF0.out.trans HF.out).cell (a := ⟨g, i * 4 + 1, none⟩) hgl (fun h => h)).trans c1
      have d2 : wr.cell? ⟨g, i * 4 + 2, none⟩ = some (.string (ba rbs)) := ((HF0.out.trans HF.out).cell (a := ⟨g, i * 4 + 2, none⟩) hgl (fun h => h)).trans c2
      have d3 : wr.cell? ⟨g, i * 4 + 3, none⟩ = some (.slice o2 n2 j2) := ((HF0.out.trans HF.out).cell (a := ⟨g, i * 4 + 3, none⟩) hgl (fun h => h)).trans c3
      have HVR := hide hvr
      have HU : Hid (v.parts.drop i = u :: v.parts.drop (i + 1)) := by
        obtain ⟨h1, h2⟩ := List.getElem?_eq_some_iff.1 hu
        show _ = _
        rw [List.drop_eq_getElem_cons h1, h2]
      have HUM : Hid (u ∈ v.parts) := List.mem_of_getElem? hu
      have HKi := hide (HK.out i (by have := HRL.out; omega))
      have HF2 : Hid (Fr Zero wr (wr.alloc (.cells #[.pointer (some ra), .int .i64 rn, .string (ba rbs), .slice o2 n2 j2] 96))) := Fr.alloc _ _ _
      have HB2 := hide (HF2.out.keep HB.out (fun h => h))
      have HR2 := hide (HF2.out.keep HR.out (fun h => h))
      have HN2 : Hid ((wr.alloc (.cells #[.pointer (some ra), .int .i64 rn, .string (ba rbs), .slice o2 n2 j2] 96)).heap[wr.heap.size]? = some (.cells #[.pointer (some ra), .int .i64 rn, .string (ba rbs), .slice o2 n2 j2] 96 (0, 0))) := heap_new_at rfl _
      have HFw := hide (HF.out.trans HF2.out)
      clear hr hu hvr c0 c1 c2 c3
      go_wp2_with fail
      generalize wr.alloc (.cells #[.pointer (some ra), .int .i64 rn, .string (ba rbs), .slice o2 n2 j2] 96) = w2 at *
      refine (pstep_any w2 ⟨ca, cn, cb, .slice (some ⟨g, 0, none⟩) rows.length ecap⟩ v (HV.out.keep (HF0.out.trans HFw.out)) ⟨_, _, _, rfl⟩ i (HP.out.drawn (HF0.out.trans HFw.out)) (by omega) HKi.out).mono ?_
      rintro e w3 ⟨hF3, rfl⟩
      have HF3 := hide (HFw.out.trans hF3)
      have HB3 := hide (hF3.keep HB2.out (fun h => h))
      have HR3 := hide (hF3.keep HR2.out (fun h => h))
      have HN3 := hide (hF3.keep HN2.out (fun h => h))
      clear hF3
      generalize hSS : stepOf v.of v.num i = S at *
      have HSS := hide hSS
      clear hSS
      by_cases hq : S = st.data.toList
      · have hs : ((ba S).toList == st.toList) = true := by rw [strEq]; exact decide_eq_true (by rw [hq, ba_data])
        have HU2 : Hid (behindP v st.data.toList = some u) := by
          show _ = _
          rw [HE.out, HU.out]
          unfold behindI
          rw [HSS.out, if_pos hq]
        have n0 : w3.cell? ⟨wr.heap.size, 0, none⟩ = some (.pointer (some ra)) := by rw [cell_of_heap HN3.out]; rfl
        have n1 : w3.cell? ⟨wr.heap.size, 1, none⟩ = some (.int .i64 rn) := by rw [cell_of_heap HN3.out]; rfl
        have n2' : w3.cell? ⟨wr.heap.size, 2, none⟩ = some (.string (ba rbs)) := by rw [cell_of_heap HN3.out]; rfl
        have n3 : w3.cell? ⟨wr.heap.size, 3, none⟩ = some (.slice o2 n2 j2) := by rw [cell_of_heap HN3.out]; rfl
        have r0 : w3.cell? ⟨w.heap.size + 1, 0, none⟩ = some (.pointer none) := by rw [cell_of_heap HR3.out]; rfl
        have r1 : w3.cell? ⟨w.heap.size + 1, 1, none⟩ = some (.int .i64 0) := by rw [cell_of_heap HR3.out]; rfl
        have r2 : w3.cell? ⟨w.heap.size + 1, 2, none⟩ = some (.string ⟨#[]⟩) := by rw [cell_of_heap HR3.out]; rfl
        have r3 : w3.cell? ⟨w.heap.size + 1, 3, none⟩ = some (.slice none 0 0) := by rw [cell_of_heap HR3.out]; rfl
        have rf : ∀ o, w3.frozen? ⟨w.heap.size + 1, o, none⟩ = false := fun o => free_of_heap HR3.out
        have rf0 := rf 0
        have rf1 := rf 1
        have rf2 := rf 2
        have rf3 := rf 3
        clear b0 b1 b2 b3 d0 d1 d2 d3 rf hq
        go_wp2_with fail
        have HFE : Hid (Fr Zero w ((((w3.setCell ⟨w.heap.size + 1, 0, none⟩ (.pointer (some ra))).setCell ⟨w.heap.size + 1, 1, none⟩ (.int .i64 rn)).setCell ⟨w.heap.size + 1, 2, none⟩ (.string (ba rbs))).setCell ⟨w.heap.size + 1, 3, none⟩ (.slice o2 n2 j2))) := HF3.out.past (Fr.four (fun b => w.heap.size ≤ b) w3 (w.heap.size + 1) _ _ _ _ (Nat.le_succ _))
        refine bodyPost_ret (v := .tuple #[.agg #[.pointer (some ra), .int .i64 rn, .string (ba rbs), .slice o2 n2 j2], .bool true]) ?_ rfl ⟨HFE.out, .inr ⟨u, ⟨ra, rn, rbs, .slice o2 n2 j2⟩, HU2.out, HUM.out, rfl, HVR.out, _, _, _, rfl⟩⟩
        rw [results_ct rfl]
        have e := heap_four HR3.out (.pointer (some ra)) (.int .i64 rn) (.string (ba rbs)) (.slice o2 n2 j2)
        have d0 := cell_of_heap (o := 0) e
        have d1 := cell_of_heap (o := 1) e
        have d2 := cell_of_heap (o := 2) e
        have d3 := cell_of_heap (o := 3) e
        go_simp
        try rfl
      · have hs : ((ba S).toList == st.toList) = false := by rw [strEq]; exact decide_eq_false (fun e => hq (by rw [← e, ba_list]))
        have HU2 : Hid (behindP v st.data.toList = behindI v st.data.toList (i + 1) (v.parts.drop (i + 1))) := by
          show _ = _
          rw [HE.out, HU.out]
          unfold behindI
          rw [HSS.out, if_neg hq]
          rcases hz : v.parts.drop (i + 1) with _ | ⟨x, l⟩ <;> rfl
        clear b0 b1 b2 b3 d0 d1 d2 d3 hq
        go_wp2_with fail
        exact ⟨⟨i + 1, by omega, by go_num, HB3, HR3, HF3, HU2⟩, by simp [intOf]; omega⟩
    · have hi' : i = rows.length := by omega
      subst hi'
      have hI : ¬ (rows.length : Int) < (rows.length : Int) := by omega
      have HU2 : Hid (behindP v st.data.toList = none) := by
        show _ = _
        rw [HE.out, List.drop_of_length_le (by have := HRL.out; omega)]
        rfl
      have r0 : wr.cell? ⟨w.heap.size + 1, 0, none⟩ = some (.pointer none) := by rw [cell_of_heap HR.out]; rfl
      have r1 : wr.cell? ⟨w.heap.size + 1, 1, none⟩ = some (.int .i64 0) := by rw [cell_of_heap HR.out]; rfl
      have r2 : wr.cell? ⟨w.heap.size + 1, 2, none⟩ = some (.string ⟨#[]⟩) := by rw [cell_of_heap HR.out]; rfl
      have r3 : wr.cell? ⟨w.heap.size + 1, 3, none⟩ = some (.slice none 0 0) := by rw [cell_of_heap HR.out]; rfl
      have rf : ∀ o, wr.frozen? ⟨w.heap.size + 1, o, none⟩ = false := fun o => free_of_heap HR.out
      have rf0 := rf 0
      have rf1 := rf 1
      have rf2 := rf 2
      have rf3 := rf 3
      clear b0 b1 b2 b3 rf
      go_wp2_with fail
      refine bodyPost_ret (v := .tuple #[zeroV, .bool false]) ?_ rfl ⟨?_, .inl ⟨HU2.out, rfl⟩⟩
      · rw [results_ct rfl]
        have e := heap_four HR.out (.pointer none) (.int .i64 0) (.string ⟨#[]⟩) (.slice none 0 0)
        have d0 := cell_of_heap (o := 0) e
        have d1 := cell_of_heap (o := 1) e
        have d2 := cell_of_heap (o := 2) e
        have d3 := cell_of_heap (o := 3) e
        unfold zeroV
        go_simp
        try rfl
      · exact HF.out.past (Fr.four (fun b => w.heap.size ≤ b) wr (w.heap.size + 1) _ _ _ _ (Nat.le_succ _))

theorem Valid.stepOk {k : Nat} {t : PT} {v : PV} (hW : WFT k t) (hV : Valid k t v) : StepOk v ∧ v.parts.length ≤ 300 ∧ ∀ u ∈ v.parts, ∃ t', WFT (k - 1) t' ∧ Valid (k - 1) t' u := by
  rcases k with _ | k
  · exact hV.elim
  obtain ⟨hof, h⟩ := hV
  have hk := hW.1
  unfold StepOk
  rw [hof]
  split at h
  · exact ⟨fun i hi => by rw [h.2.1] at hi; simp at hi, by rw [h.2.1]; simp, fun u hu => by rw [h.2.1] at hu; simp at hu⟩
  split at h
  · exact ⟨fun i hi => by rw [h.2.1] at hi; simp at hi, by rw [h.2.1]; simp, fun u hu => by rw [h.2.1] at hu; simp at hu⟩
  split at h
  · exact ⟨fun i hi => by rw [h.2.1] at hi; simp at hi, by rw [h.2.1]; simp, fun u hu => by rw [h.2.1] at hu; simp at hu⟩
  split at h
  · exact ⟨fun i hi => by rw [h.2.1] at hi; simp at hi, by rw [h.2.1]; simp, fun u hu => by rw [h.2.1] at hu; simp at hu⟩
  split at h
  · exact ⟨fun i hi => by rw [h.2.1] at hi; simp at hi, by rw [h.2.1]; simp, fun u hu => by rw [h.2.1] at hu; simp at hu⟩
  split at h
  · rename_i h7
    have hs := hW.2.2.2.2.1 (.inl h7)
    exact ⟨fun i hi => .inl h7, h.2.2.1, fun u hu => ⟨_, hW.sub (by omega), h.2.2.2 u hu⟩⟩
  split at h
  · rename_i h8
    have hs := hW.2.2.2.2.1 (.inr h8)
    exact ⟨fun i hi => .inr (.inl h8), by omega, fun u hu => ⟨_, hW.sub (by omega), h.2.2.2 u hu⟩⟩
  split at h
  · rename_i h9
    have h6 := hW.2.2.2.2.2.1.1
    refine ⟨fun i hi => .inr (.inr (.inl ⟨h9, by omega⟩)), by omega, fun u hu => ?_⟩
    obtain ⟨i, hi⟩ := List.mem_iff_getElem?.1 hu
    have hil := (List.getElem?_eq_some_iff.1 hi).1
    exact ⟨_, hW.sub (by omega), h.2.2.2 i u hi⟩
  · obtain ⟨_, j, x, hj, hjl, hpp, hx⟩ := h
    refine ⟨fun i _ => .inr (.inr (.inr ⟨by omega, j, hj, hjl⟩)), by rw [hpp]; simp, fun u hu => ?_⟩
    rw [hpp] at hu
    simp at hu
    subst hu
    exact ⟨_, hW.sub hjl, hx⟩

end Go.Proofs.YtdcjogpkogidaaaGreatDoor
end
section
namespace Go.Proofs.YtdcjogpkogidaaaGreatDoor
open Go.RowKit Go.Shelf
attribute [local go_sem] Oper.semAt_some

/-- One round, from the loop's record. -/
theorem loop_round {F : Fence} {n : Nat} {P : Program} {l : Nat} {r : Loop} {args : Array Value} {W : World} {R : Ending → World → Prop} (hl : W.heap[l]? = some (.loop r)) (hs : args.size = r.params.size) (hfn : F.fn r.fn)
    (h : r.assign.wpIn (F.inRound l) n P (Exit.then (fun a₁ w₁ => ∃ w₂, (Instr.beginRound l).run P w₁ = .ok () w₂ ∧ r.body.wpIn (F.inRound l) n P (roundPost P l R) a₁ w₂) (fun _ _ _ => False)) { tmps := (r.params.zip args).foldl (fun t (p, v) => t.setIfInBounds p v) r.tmps, defers := [] } W) :
    YieldAt F n P l args W R := ⟨r.fn, _, r.assign, r.body, run_yield hl hs, roundIn_of_wpIn hfn h⟩

/-- The loop is begun: its record and the block of its deferred calls are laid, the iterator is called. -/
theorem loop_in {F : Fence} {n : Nat} {P : Program} {g : Operand} {ps : Array Tmp} {assign body : Code} {Q : Exit → Act → World → Prop} {a : Act} {w : World}
    (hro : F.round = none) (h1 : 1 ≤ n) {gf : Nat} {lb : Array Value} (hg : a.eval g = .func (.func gf) #[] lb) (hFg : F.fn gf) (eg : ∀ args w, (callFunc gf args).run P w = .ok (.enter gf args) w)
    (h : ∀ r : Loop, r.state = .ready → r.pending = none → r.tmps = a.tmps → r.params = ps → r.assign = assign → r.body = body → F.fn r.fn →
      CallsIn F (n - 1) P gf (#[.func (.yield (w.heap.size + 1)) #[] #[]] ++ lb) ((w.alloc (.deferred (some []))).alloc (.loop r)) (rangePost F n P (w.heap.size + 1) Q { a with defers := { target := .collected w.heap.size, args := #[] } :: a.defers })) :
    (Code.rangeFunc g ps assign body).wpIn F n P Q a w := by
  refine wpIn_rangeFunc fun fn hfn => ?_
  rw [hro]
  obtain ⟨r, hr⟩ : ∃ r : Loop, r = { state := .ready, pending := none, fn, tmps := a.tmps, params := ps, assign, body, defers := w.heap.size } := ⟨_, rfl⟩
  have hc := h r (by rw [hr]) (by rw [hr]) (by rw [hr]) (by rw [hr]) (by rw [hr]) (by rw [hr]) (by rw [hr]; exact hfn)
  have e1 : (Instr.enterLoop fn a.tmps ps assign body none).run P w = .ok (w.heap.size + 1, [{ target := .collected w.heap.size, args := #[] }]) ((w.alloc (.deferred (some []))).alloc (.loop r)) := by rw [hr]; exact run_enterLoop_outer fn a.tmps ps assign body
  generalize (w.alloc (.deferred (some []))).alloc (.loop r) = W1 at *
  have e2 : (resolve a.eval (rangeCall g (w.heap.size + 1)) 0).run P W1 = .ok { target := .fn (.func gf) lb, args := #[.func (.yield (w.heap.size + 1)) #[] #[]] } W1 := by
    simp only [resolve, hg]
    simp [go_sem]
  have e3 : ∀ f', Target.leads P W1 (Target.fn (.func gf) lb) #[.func (.yield (w.heap.size + 1)) #[] #[]] = some f' → F.fn f' := fun f' hf' => by
    simp [Target.leads] at hf'
    subst hf'
    exact hFg
  have e4 : (invoke (Target.fn (.func gf) lb) #[.func (.yield (w.heap.size + 1)) #[] #[]]).run P W1 = .ok (.enter gf (#[.func (.yield (w.heap.size + 1)) #[] #[]] ++ lb)) W1 := by simp [invoke, go_sem, eg]
  exact ⟨_, _, _, _, _, _, _, _, e1, e2, e3, e4, fun _ => h1, hc⟩

end Go.Proofs.YtdcjogpkogidaaaGreatDoor
end
section
namespace Go.Proofs.YtdcjogpkogidaaaGreatDoor
open Go.RowKit Go.Shelf
attribute [local go_sem] Oper.semAt_some

def splitP : Bs → List Bs
  | [] => [[]]
  | b :: l => if b = 47 then [] :: splitP l else match splitP l with
    | [] => [[b]]
    | x :: xs => (b :: x) :: xs
theorem splitP_one : ∀ (l : Bs), (47 : UInt8) ∉ l → splitP l = [l] := by
  intro l
  induction l with
  | nil => intro _; rfl
  | cons b l ih =>
    intro h
    have hb : b ≠ 47 := fun e => h (by simp [e])
    unfold splitP
    rw [if_neg hb, ih (fun e => h (by simp [e]))]
theorem splitP_more : ∀ (x y : Bs), (47 : UInt8) ∉ x → splitP (x ++ 47 :: y) = x :: splitP y := by
  intro x y
  induction x with
  | nil => intro _; simp [splitP]
  | cons b x ih =>
    intro h
    have hb : b ≠ 47 := fun e => h (by simp [e])
    have e : splitP (b :: (x ++ 47 :: y)) = if b = 47 then [] :: splitP (x ++ 47 :: y) else match splitP (x ++ 47 :: y) with
      | [] => [[b]]
      | x :: xs => (b :: x) :: xs := rfl
    rw [List.cons_append, e, if_neg hb, ih (fun e => h (by simp [e]))]

/-- Where the first slash lies. -/
theorem index_no {l : Bs} (h : Lib.indexByte l 47 = -1) : (47 : UInt8) ∉ l := fun hm => by
  obtain ⟨k, hk⟩ := List.mem_iff_getElem?.1 hm
  exact Lib.indexByte_none h k hk
theorem index_at {l : Bs} {o : Nat} (h : Lib.indexByte l 47 = o) : l = l.take o ++ 47 :: l.drop (o + 1) ∧ (47 : UInt8) ∉ l.take o ∧ o < l.length := by
  obtain ⟨h1, h2⟩ := Lib.indexByte_some h
  obtain ⟨h3, h4⟩ := List.getElem?_eq_some_iff.1 h1
  refine ⟨?_, fun hm => ?_, h3⟩
  · rw [← h4, ← List.drop_eq_getElem_cons h3, List.take_append_drop]
  · obtain ⟨k, hk⟩ := List.mem_iff_getElem?.1 hm
    have hko : k < o := by
      rcases Nat.lt_or_ge k o with q | q
      · exact q
      · rw [List.getElem?_eq_none (by rw [List.length_take]; omega)] at hk
        simp at hk
    rw [List.getElem?_take_of_lt hko] at hk
    exact h2 k hko hk
theorem index_cases (l : Bs) : Lib.indexByte l 47 = -1 ∨ ∃ o : Nat, Lib.indexByte l 47 = o := by
  have := Lib.indexByte_ge l 47
  by_cases h : Lib.indexByte l 47 = -1
  · exact .inl h
  · exact .inr ⟨(Lib.indexByte l 47).toNat, by omega⟩

/-- The three boxes of a splitting iterator. -/
structure Boxes (W : World) (sp sv ss : Nat) (rest : Bs) : Prop where
  p : W.heap[sp]? = some (.cells #[.string ⟨#[47]⟩] 9 (0, 0))
  v : W.heap[sv]? = some (.cells #[.string (ba rest)] 9 (0, 0))
  s : W.heap[ss]? = some (.cells #[.int .i64 0] 3 (0, 0))
def KeepB (sp sv ss : Nat) (W W' : World) : Prop := W'.heap[sp]? = W.heap[sp]? ∧ W'.heap[sv]? = W.heap[sv]? ∧ W'.heap[ss]? = W.heap[ss]?
theorem Boxes.keep {W W' : World} {sp sv ss : Nat} {rest : Bs} (h : Boxes W sp sv ss rest) (k : KeepB sp sv ss W W') : Boxes W' sp sv ss rest := ⟨k.1.trans h.p, k.2.1.trans h.v, k.2.2.trans h.s⟩

def restLen (sv : Nat) (w : World) : Nat := match w.cell? ⟨sv, 0, none⟩ with
  | some (.string s) => s.size
  | _ => 0
theorem Boxes.len {W : World} {sp sv ss : Nat} {rest : Bs} (h : Boxes W sp sv ss rest) : restLen sv W = rest.length := by
  unfold restLen
  rw [cell_of_heap h.v]
  exact ba_size rest

set_option maxHeartbeats 8000000 in
set_option maxRecDepth 100000 in
/-- The iterator of strings.SplitSeq, at a slash. -/
theorem split1_in (l sp sv ss : Nat) (hne1 : sp ≠ sv) (hne2 : ss ≠ sv) (path : Bs) (hpl : path.length ≤ 9223372036854775807) (J Jx : List Bs → World → Prop)
    (hY : ∀ pre x W, J pre W → YieldAt Fence.wide 0 Tryz.prog l #[.string (ba x)] W fun e W' => (e = .returned (.bool true) ∧ J (pre ++ [x]) W' ∧ KeepB sp sv ss W W') ∨ (e = .returned (.bool false) ∧ Jx (pre ++ [x]) W'))
    (hJ : ∀ pre W u, J pre W → J pre (W.setCell ⟨sv, 0, none⟩ u)) (W : World) (hB : Boxes W sp sv ss path) (h0 : J [] W) :
    CallsIn Fence.wide 1 Tryz.prog 179 #[.func (.yield l) #[] #[], .pointer (some ⟨sp, 0, none⟩), .pointer (some ⟨sv, 0, none⟩), .pointer (some ⟨ss, 0, none⟩)] W fun e W' => (∃ v, e = .returned v) ∧ (J (splitP path) W' ∨ ∃ pre, pre <+: splitP path ∧ Jx pre W') := by
  have HB := hide hB
  have p0 : W.cell? ⟨sp, 0, none⟩ = some (.string ⟨#[47]⟩) := by rw [cell_of_heap hB.p]; rfl
  refine callsIn_of_wp Tryz.func179 rfl trivial ?_ rfl
  simp only [Tryz.ntmps179, List.size_toArray, List.length_cons, List.length_nil, Nat.reduceAdd, Nat.reduceSub, Array.replicate_succ, Array.replicate_zero, List.push_toArray, List.append_toArray, List.nil_append, List.cons_append]
  gi_wp2
  gi_loopw [] (fun wr => ∃ (pre : List Bs) (rest : Bs), splitP path = pre ++ splitP rest ∧ Hid (Boxes wr sp sv ss rest) ∧ Hid (J pre wr) ∧ rest.length ≤ 9223372036854775807) (fun wr => restLen sv wr)
  case atStart => exact ⟨[], path, rfl, HB, h0, hpl⟩
  case round =>
    obtain ⟨pre, rest, hsp, HBr, HJr, hrl⟩ := hrel
    have q0 : wr.cell? ⟨sp, 0, none⟩ = some (.string ⟨#[47]⟩) := by rw [cell_of_heap HBr.out.p]; rfl
    have q1 : wr.cell? ⟨sv, 0, none⟩ = some (.string (ba rest)) := by rw [cell_of_heap HBr.out.v]; rfl
    have q2 : wr.cell? ⟨ss, 0, none⟩ = some (.int .i64 0) := by rw [cell_of_heap HBr.out.s]; rfl
    have qf : wr.frozen? ⟨sv, 0, none⟩ = false := free_of_heap HBr.out.v
    have HBL := hide (ba_list rest)
    have hbs := ba_size rest
    gi_wp2
    refine ⟨trivial, (callsIn_wide.2 (Any.strings_Index_one lays143 (ba rest) 47 wr)).mono ?_⟩
    rintro e w1 ⟨rfl, e1⟩
    obtain rfl := e1.symm
    rw [HBL.out]
    rcases index_cases rest with hi | ⟨o, ho⟩
    · rw [hi]
      obtain ⟨fn, tmps, assign, body, hy, hR⟩ := hY pre rest wr HJr.out
      have HE : Hid (pre ++ [rest] = splitP path) := by show _ = _; rw [hsp, splitP_one rest (index_no hi)]
      clear hi hsp
      gi_wp2
      refine hR.mono ?_
      rintro e W3 (⟨rfl, hJ3, hk3⟩ | ⟨rfl, hJx3⟩)
      · have HJ3 := hide hJ3
        clear hJ3 hk3 hR
        gi_wp2
        go_end0
        exact ⟨⟨_, rfl⟩, .inl (by rw [← HE.out]; exact HJ3.out)⟩
      · have HJ3 := hide hJx3
        clear hJx3 hR
        gi_wp2
        go_end0
        exact ⟨⟨_, rfl⟩, .inr ⟨_, by rw [HE.out]; exact List.prefix_refl _, HJ3.out⟩⟩
    · rw [ho]
      obtain ⟨hcut, hno, hol⟩ := index_at ho
      have hx1 : (ba rest).extract 0 o = ba (rest.take o) := by
        apply bytes_data
        rw [ByteArray.data_extract, Array.toList_extract, List.extract_eq_take_drop, ba_list, ba_list]
        simp
      have hx2 : (ba rest).extract (o + 1) (ba rest).size = ba (rest.drop (o + 1)) := by
        apply bytes_data
        rw [ByteArray.data_extract, Array.toList_extract, List.extract_eq_take_drop, ba_list, ba_list, ba_size, List.take_of_length_le (by rw [List.length_drop]; omega)]
      have HX2 := hide hx2
      obtain ⟨fn, tmps, assign, body, hy, hR⟩ := hY pre (rest.take o) wr HJr.out
      rw [← hx1] at hy
      have HE : Hid (splitP path = (pre ++ [rest.take o]) ++ splitP (rest.drop (o + 1))) := by
        show _ = _
        rw [hsp]
        conv => lhs; rw [hcut, splitP_more _ _ hno]
        simp
      have hoI : (o : Int) ≤ ((ba rest).size : Int) := by omega
      have hoN : o ≤ (ba rest).size := by omega
      have hoI2 : (o : Int) + 1 ≤ ((ba rest).size : Int) := by omega
      have hoN2 : o + 1 ≤ (ba rest).size := by omega
      have hoI0 : ¬ (o : Int) < 0 := by omega
      clear ho hsp hcut hno hx1 hx2
      gi_wp2
      refine hR.mono ?_
      rintro e W3 (⟨rfl, hJ3, hk3⟩ | ⟨rfl, hJx3⟩)
      · have HB3 := hide (HBr.out.keep hk3)
        have r0 : W3.cell? ⟨sp, 0, none⟩ = some (.string ⟨#[47]⟩) := by rw [cell_of_heap HB3.out.p]; rfl
        have r1 : W3.cell? ⟨sv, 0, none⟩ = some (.string (ba rest)) := by rw [cell_of_heap HB3.out.v]; rfl
        have rf : W3.frozen? ⟨sv, 0, none⟩ = false := free_of_heap HB3.out.v
        have HJ4 := hide (hJ _ W3 (.string ((ba rest).extract (o + 1) (ba rest).size)) hJ3)
        have HB4 : Hid (Boxes (W3.setCell ⟨sv, 0, none⟩ (.string ((ba rest).extract (o + 1) (ba rest).size))) sp sv ss (rest.drop (o + 1))) := by
          refine ⟨?_, ?_, ?_⟩
          · rw [Below.heap_setCell _ _ _ _ hne1]; exact HB3.out.p
          · rw [heap_setCell_same HB3.out.v, ← HX2.out]; rfl
          · rw [Below.heap_setCell _ _ _ _ hne2]; exact HB3.out.s
        clear hJ3 hk3 hR hy q0 q1 q2 qf
        rw [hbs] at HJ4 HB4
        gi_wp2
        refine ⟨⟨pre ++ [rest.take o], rest.drop (o + 1), HE.out, HB4, HJ4, by rw [List.length_drop]; omega⟩, ?_⟩
        rw [HB4.out.len, HBr.out.len, List.length_drop]
        omega

      · have HJ3 := hide hJx3
        have HPR : Hid (pre ++ [rest.take o] <+: splitP path) := ⟨_, HE.out.symm⟩
        clear hJx3 hR hy
        gi_wp2
        refine bodyPost_ret (results_none rfl _ _ _) rfl ?_
        exact ⟨⟨_, rfl⟩, .inr ⟨_, HPR.out, HJ3.out⟩⟩

set_option maxHeartbeats 4000000 in
theorem splitseq_any (s : ByteArray) (w : World) : Calls Tryz.prog 140 #[.string s, .string ⟨#[47]⟩, .int .i64 0] w fun e w' => e = .returned (.func (.func 179) #[] #[.pointer (some ⟨w.heap.size + 1, 0, none⟩), .pointer (some ⟨w.heap.size, 0, none⟩), .pointer (some ⟨w.heap.size + 2, 0, none⟩)]) ∧ Fr Zero w w' ∧ Boxes w' (w.heap.size + 1) w.heap.size (w.heap.size + 2) s.data.toList := by
  go_enter Tryz.func140, Tryz.ntmps140
  go_wp2_with fail
  go_ret
  refine ⟨rfl, ((Fr.alloc _ _ _).trans (Fr.alloc _ _ _)).trans (Fr.alloc _ _ _), ⟨?_, ?_, ?_⟩⟩
  · rw [Below.heap_alloc _ _ _ (by simp)]
    exact heap_new_at (by simp) _
  · rw [Below.heap_alloc _ _ _ (by simp; omega), Below.heap_alloc _ _ _ (by simp), ba_data]
    exact heap_new_at rfl _
  · exact heap_new_at (by simp) _
set_option maxHeartbeats 4000000 in
theorem SplitSeq_any (s : ByteArray) (w : World) : Calls Tryz.prog 88 #[.string s, .string ⟨#[47]⟩] w fun e w' => e = .returned (.func (.func 179) #[] #[.pointer (some ⟨w.heap.size + 1, 0, none⟩), .pointer (some ⟨w.heap.size, 0, none⟩), .pointer (some ⟨w.heap.size + 2, 0, none⟩)]) ∧ Fr Zero w w' ∧ Boxes w' (w.heap.size + 1) w.heap.size (w.heap.size + 2) s.data.toList := by
  go_enter Tryz.func88, Tryz.ntmps88
  go_wp2_with fail
  refine (splitseq_any s w).mono ?_
  rintro e w1 ⟨rfl, hF, hB⟩
  have HF := hide hF
  have HB := hide hB
  clear hF hB
  go_wp2_with fail
  go_ret
  exact ⟨rfl, HF, HB⟩

end Go.Proofs.YtdcjogpkogidaaaGreatDoor
end
