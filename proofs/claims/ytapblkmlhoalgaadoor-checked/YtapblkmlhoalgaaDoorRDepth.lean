/- The other reader's depths. -/
import Derived.Test.YtapblkmlhoalgaaDoorRWrongW
namespace Go.Proofs.YtapblkmlhoalgaaDoor
open Go.RowKit

def maxOf (ds : List Nat) (l : List Nat) (c : Nat) : Nat := l.foldl (fun c y => max c (numAt ds y)) c
def depthOf (ds : List Nat) (t : RT) : Nat := maxOf ds t.of 0 + (if t.kind = 11 then 0 else 1)
def rDepths (tab : List RT) : Nat → List Nat
  | 0 => []
  | k + 1 => rDepths tab k ++ [depthOf (rDepths tab k) (rowAt tab k)]

theorem rDepths_length (tab : List RT) (k : Nat) : (rDepths tab k).length = k := by
  induction k with
  | zero => rfl
  | succ k ih => simp [rDepths, ih]

theorem maxOf_le (ds l : List Nat) (D : Nat) (h : ∀ y, numAt ds y ≤ D) : ∀ c, c ≤ D → maxOf ds l c ≤ D := by
  induction l with
  | nil => intro c hc; exact hc
  | cons y l ih => intro c hc; exact ih (max c (numAt ds y)) (by have := h y; omega)
theorem rDepths_le (tab : List RT) : ∀ k y, numAt (rDepths tab k) y ≤ k := by
  intro k
  induction k with
  | zero => intro y; simp [rDepths, numAt]
  | succ k ih =>
    intro y
    have hl := rDepths_length tab k
    simp only [rDepths, numAt]
    by_cases hy : y < k
    · rw [List.getElem?_append_left (by omega)]
      have := ih y
      unfold numAt at this
      omega
    · by_cases e : y = k
      · subst e
        rw [List.getElem?_append_right (by omega), hl, Nat.sub_self]
        simp
        unfold depthOf
        have := maxOf_le (rDepths tab y) (rowAt tab y).of y ih 0 (by omega)
        split <;> omega
      · rw [List.getElem?_eq_none (by simp; omega)]
        simp
theorem maxOf_take (ds l : List Nat) (k : Nat) (hk : k < l.length) : maxOf ds (l.take (k + 1)) 0 = max (maxOf ds (l.take k) 0) (numAt ds (numAt l k)) := by
  rw [List.take_succ_eq_append_getElem hk]
  unfold maxOf
  rw [List.foldl_append]
  simp [numAt, hk]

/-- The depths while the x-th is reckoned: those ahead, c, noughts. -/
def outL (ds : List Nat) (c m : Nat) : List Nat := ds ++ c :: List.replicate m 0
theorem outL_get (ds : List Nat) (c m y : Nat) (hy : y < ds.length) : (ints (outL ds c m))[y]? = some (.int .i64 (numAt ds y : Nat)) := by
  rw [numsI _ _ (by simp [outL]; omega)]
  simp [outL, numAt, List.getElem?_append_left hy]
theorem outL_at (ds : List Nat) (c m : Nat) : (ints (outL ds c m))[ds.length]? = some (.int .i64 (c : Nat)) := by
  rw [numsI _ _ (by simp [outL])]
  simp [outL, numAt]
theorem outL_set (ds : List Nat) (c m d : Nat) : (ints (outL ds c m)).set ds.length (.int .i64 (d : Int)) = ints (outL ds d m) := by
  simp [ints, outL]
theorem outL_next (ds : List Nat) (c m : Nat) : outL ds c (m + 1) = outL (ds ++ [c]) 0 m := by
  simp [outL, List.replicate_succ]

def W2 (tab : List RT) : Prop := ∀ (x : Nat), x < tab.length → ∀ y ∈ (rowAt tab x).of, y < x

set_option maxRecDepth 100000 in
set_option maxHeartbeats 16000000 in
theorem depths_any {w : World} {X : Nat → Prop} {db : Nat} {s : ByteArray} {n : Nat} {bad : Bool} {tv lv av rv : Value} {tab : List RT} (h : DS w X db s n bad tv lv av rv tab) (hW : W2 tab) (hl : tab.length ≤ 1000) (hp : 0 < tab.length) :
    Calls Tryd.prog 12 #[.pointer (some ⟨db, 0, none⟩)] w fun e w' => Fr Zero w w' ∧ ∃ g, e = .returned (.slice (some ⟨g, 0, none⟩) tab.length tab.length) ∧ ∀ y, y < tab.length → w'.cell? ⟨g, y, none⟩ = some (.int .i64 (numAt (rDepths tab tab.length) y : Nat)) := by
  have hD := h.1
  have c2 := hD.at2
  have hdl := lt_of_heap hD
  obtain ⟨gt, capt, o0, nv0, a0, htv, _⟩ := h.row hp
  have c2' : w.cell? ⟨db, 2, none⟩ = some (.slice (some ⟨gt, 0, none⟩) tab.length capt) := by rw [← htv]; exact c2
  have HTV := hide htv
  have HS := hide h
  have HW := hide hW
  have hlI : ((tab.length : Nat) : Int) ≤ 1000 := by omega
  clear h hW hD c2 htv
  obtain ⟨i3, hi, hz0, hz1, hz2⟩ := info_parts Tryd.info3
  have m1 : Hid (i3.bytes * tab.length ≤ 281474976710656) := by show _ ≤ _; rw [hz2]; omega
  have m2 : Hid (tab.length ≤ maxLen) := by show _ ≤ _; unfold maxLen; omega
  go_enter Tryd.func12, Tryd.ntmps12
  go_wp2_with (at_make; refine wpList_make_full _ rfl _ _ 37 rfl 0 3 i3 (.int .i64 0) 1 Tryd.underlying37 hi hz0 hz1 .i64 .i64 _ _ tab.length rfl rfl rfl rfl m1.out m2.out (Nat.zero_le _) ?_; intro w1 hO1 hg1)
  have hO2 : w1.ownsRow 0 3 1 (.slice (some ⟨w.heap.size, 0, none⟩) tab.length tab.length) tab.length (ints (outL [] 0 (tab.length - 1))) := by
    have e : (madeCells (Value.int .i64 0).cells (tab.length * 1)).toList = ints (outL [] 0 (tab.length - 1)) := by
      rw [show (Value.int .i64 0).cells = #[.int .i64 0] from rfl, toList_madeCells_one]
      simp only [outL, ints, List.nil_append, List.map_cons, List.map_replicate, Nat.mul_one]
      rw [← List.replicate_succ]
      congr 1
      omega
    rw [← e]
    exact hO1
  have hF1 : Fr Zero w w1 := Fr.grown hg1 (fun k e => by cases e)
  have HO := hide hO2
  have HF1 := hide hF1
  clear hO1 hO2 hg1 hF1 m1 m2 hi hz0 hz1 hz2
  go_loopw [4] (fun xv wr => ∃ x : Nat, x ≤ tab.length ∧ xv = .int .i64 x ∧ Hid (x < tab.length → wr.ownsRow 0 3 1 (.slice (some ⟨w.heap.size, 0, none⟩) tab.length tab.length) tab.length (ints (outL (rDepths tab x) 0 (tab.length - x - 1)))) ∧ Hid (x = tab.length → wr.ownsRow 0 3 1 (.slice (some ⟨w.heap.size, 0, none⟩) tab.length tab.length) tab.length (ints (rDepths tab tab.length))) ∧ Hid (Fr Zero w wr)) (fun xv _ => tab.length - (intOf xv).toNat)
  case atStart => exact ⟨0, by omega, rfl, (fun _ => HO), (fun h => by omega), HF1⟩
  case round =>
    obtain ⟨x, hxl, rfl, HOx, HOe, HF⟩ := hrel
    obtain ⟨w3, rfl⟩ : ∃ z, z = wr := ⟨wr, rfl⟩
    have hwl : w.heap.size < w3.heap.size := by
      by_cases hx : x < tab.length
      · exact ((HOx.out hx).lt _ rfl).2
      · exact ((HOe.out (by omega)).lt _ rfl).2
    have d2 : w3.cell? ⟨db, 2, none⟩ = some (.slice (some ⟨gt, 0, none⟩) tab.length capt) := (HF.out.cell (a := ⟨db, 2, none⟩) hdl (fun h => h)).trans c2'
    by_cases hx : x < tab.length
    · have hxI : ((x : Nat) : Int) < ((tab.length : Nat) : Int) := by omega
      obtain ⟨gt', capt', o, nv, a, htv', t0, t1, t2, t3, hR, _, _⟩ := HS.out.row hx
      rw [HTV.out] at htv'
      cases htv'
      have hgt : gt < w.heap.size := World.block_lt_of_cell? w _ t0
      have s0 := (HF.out.cell (a := ⟨gt, x * 4, none⟩) hgt (fun h => h)).trans t0
      have s1 := (HF.out.cell (a := ⟨gt, x * 4 + 1, none⟩) hgt (fun h => h)).trans t1
      have s2 := (HF.out.cell (a := ⟨gt, x * 4 + 2, none⟩) hgt (fun h => h)).trans t2
      have s3 := (HF.out.cell (a := ⟨gt, x * 4 + 3, none⟩) hgt (fun h => h)).trans t3
      obtain ⟨oa, on, oc, ho⟩ := hR.shape o (.inl rfl)
      obtain ⟨na, nn, nc, hn⟩ := hR.shape nv (.inr (.inl rfl))
      obtain ⟨aa, an, ac, ha⟩ := hR.shape a (.inr (.inr rfl))
      subst ho hn ha
      have HSO := hide hR.2.1
      have hon : on = (rowAt tab x).of.length := hR.2.1.len.trans (ints_length _)
      have HOF := hide (HW.out x hx)
      have HOX := hide (HOx.out hx)
      have HDO : Hid (rDepths tab (x + 1) = rDepths tab x ++ [depthOf (rDepths tab x) (rowAt tab x)]) := rfl
      have HDE : Hid (depthOf (rDepths tab x) (rowAt tab x) = maxOf (rDepths tab x) (rowAt tab x).of 0 + (if (rowAt tab x).kind = 11 then 0 else 1)) := rfl
      have hdl1 := rDepths_length tab x
      have HDB := hide (rDepths_le tab x)
      have hofl : (rowAt tab x).of.length ≤ 9223372036854775807 := by have := hR.2.1.le; rw [ints_length] at this; unfold maxLen at this; omega
      generalize (rowAt tab x).of = of' at *
      generalize (rowAt tab x).kind = kd at *
      generalize rDepths tab x = ds at *
      subst hon
      have HDL := hide hdl1
      have HMX : Hid (∀ k, maxOf ds (of'.take k) 0 ≤ x) := fun k => maxOf_le ds _ x HDB.out 0 (by omega)
      clear hR HOx HOe hdl1 t0 t1 t2 t3
      go_wp2_with fail
      clear s0 s1 s2 s3
      have HB0 : Hid ((w3.alloc (.cells #[.int .i64 (kd : Int), .slice oa of'.length oc, .slice na nn nc, .slice aa an ac] 56)).heap[w3.heap.size]? = some (.cells #[.int .i64 (kd : Int), .slice oa of'.length oc, .slice na nn nc, .slice aa an ac] 56 (0, 0))) := heap_new_at rfl _
      have HF4 : Hid (Fr Zero w (w3.alloc (.cells #[.int .i64 (kd : Int), .slice oa of'.length oc, .slice na nn nc, .slice aa an ac] 56))) := HF.out.trans (Fr.alloc _ _ _)
      have HO4 : Hid ((w3.alloc (.cells #[.int .i64 (kd : Int), .slice oa of'.length oc, .slice na nn nc, .slice aa an ac] 56)).ownsRow 0 3 1 (.slice (some ⟨w.heap.size, 0, none⟩) tab.length tab.length) tab.length (ints (outL ds 0 (tab.length - x - 1)))) := HOX.out.alloc _
      have hw4 : w3.heap.size + 1 = (w3.alloc (.cells #[.int .i64 (kd : Int), .slice oa of'.length oc, .slice na nn nc, .slice aa an ac] 56)).heap.size := by simp
      have HW4 := hide hw4
      clear hw4
      generalize w3.alloc (.cells #[.int .i64 (kd : Int), .slice oa of'.length oc, .slice na nn nc, .slice aa an ac] 56) = w4 at *
      go_loopw [6] (fun kv wr => ∃ k : Nat, k ≤ of'.length ∧ kv = .int .i64 k ∧ Hid (wr.ownsRow 0 3 1 (.slice (some ⟨w.heap.size, 0, none⟩) tab.length tab.length) tab.length (ints (outL ds (maxOf ds (of'.take k) 0) (tab.length - x - 1)))) ∧ Hid (Fr (One w.heap.size) w4 wr)) (fun kv _ => of'.length - (intOf kv).toNat)
      case atStart => exact ⟨0, by omega, rfl, HO4, Fr.refl _ _⟩
      case round =>
        obtain ⟨k, hkl, rfl, HOk, HFk⟩ := hrel
        have hbx := HFk.out.keep HB0.out (fun e => by have e' : w3.heap.size = w.heap.size := e; omega)
        have b0 : wr.cell? ⟨w3.heap.size, 0, none⟩ = some (.int .i64 (kd : Int)) := by rw [cell_of_heap hbx]; rfl
        have b1 : wr.cell? ⟨w3.heap.size, 1, none⟩ = some (.slice oa of'.length oc) := by rw [cell_of_heap hbx]; rfl
        have HDX : Hid (wr.cell? ⟨w.heap.size, x, none⟩ = some (.int .i64 (maxOf ds (of'.take k) 0 : Nat))) := by
          show _ = _
          rw [sl_cell HOk.out hx]
          have := outL_at ds (maxOf ds (of'.take k) 0) (tab.length - x - 1)
          rw [HDL.out] at this
          exact this
        have dx := HDX.out
        have fx : wr.frozen? ⟨w.heap.size, x, none⟩ = false := HOk.out.frozenAt x
        have hmx := HMX.out k
        have HFF : Hid (Fr Zero w wr) := HF4.out.past (HFk.out.mono (fun b _ e => by have e' : b = w.heap.size := e; omega))
        clear hbx
        by_cases hlt : k < of'.length
        · obtain ⟨go, co, eo, hox, hgol, hco⟩ := HSO.out.open (by rw [ints_length]; omega)
          have hok := (hco k (by rw [ints_length]; omega)).trans (numsI _ k hlt)
          rw [ints_length] at eo
          cases eo
          have hyx : numAt of' k < x := HOF.out _ (by unfold numAt; simp [hlt])
          have hok' : wr.cell? ⟨go, k, none⟩ = some (.int .i64 (numAt of' k : Nat)) := (HFF.out.cell (a := ⟨go, k, none⟩) hgol (fun h => h)).trans hok
          have dy : wr.cell? ⟨w.heap.size, numAt of' k, none⟩ = some (.int .i64 (numAt ds (numAt of' k) : Nat)) := by
            rw [sl_cell HOk.out (by omega)]
            exact outL_get ds _ _ _ (by rw [HDL.out]; exact hyx)
          have hyI : ((numAt of' k : Nat) : Int) < ((tab.length : Nat) : Int) := by omega
          have HMT := hide (maxOf_take ds of' k hlt)
          have hyd := HDB.out (numAt of' k)
          have HSTO := hide (fun (d : Nat) => (HOk.out.stored x (.int .i64 (d : Int))).1)
          clear hco hox hok
          generalize numAt of' k = y at *
          generalize numAt ds y = dy' at *
          generalize maxOf ds (of'.take k) 0 = c at *
          by_cases hgt : c < dy'
          · have hgI : (c : Int) < (dy' : Int) := by omega
            have HGT := hide hgt
            clear hgt
            go_wp2_with fail
            go_quiet (fail)
            go_wp2_with fail
            go_roundw
            case rel =>
              refine ⟨k + 1, by omega, by go_num, ?_, ?_⟩
              · rw [HMT.out, show max c dy' = dy' by have := HGT.out; omega]
                have e1 := HSTO.out dy'
                have e2 := outL_set ds c (tab.length - x - 1) dy'
                rw [HDL.out] at e2
                rw [e2] at e1
                exact e1
              · exact HFk.out.trans ((Fr.drewN _ _ _).trans (Fr.setCell _ _ _ _ (show One w.heap.size w.heap.size from rfl)))
            case measure => simp [intOf]; omega
          · have hgI : ¬ (c : Int) < (dy' : Int) := by omega
            have HGT := hide hgt
            clear hgt
            go_wp2_with fail
            go_quiet (fail)
            go_wp2_with fail
            go_roundw
            case rel =>
              refine ⟨k + 1, by omega, by go_num, ?_, ?_⟩
              · rw [HMT.out, show max c dy' = c by have := HGT.out; omega]
                exact ownsRow_keep HOk.out (Fr.drewN Zero _ _) (fun _ _ h => h)
              · exact HFk.out.trans (Fr.drewN _ _ _)
            case measure => simp [intOf]; omega
        · have hke : k = of'.length := by omega
          subst hke
          rw [List.take_length] at HOk dx HDX hmx
          generalize hmo : maxOf ds of' 0 = c at *
          have HMO := hide hmo
          clear hmo HDX
          by_cases hk11 : kd = 11
          · have hkI : ((kd : Int) != 11) = false := by simp; omega
            have HFIN : Hid (wr.ownsRow 0 3 1 (.slice (some ⟨w.heap.size, 0, none⟩) tab.length tab.length) tab.length (ints (outL ds (c + 0) (tab.length - x - 1)))) := HOk.out
            have HK := hide hk11
            rw [if_pos hk11] at HDE
            clear hk11
            go_wp2_with fail
            go_roundw
            case rel =>
              refine ⟨x + 1, by omega, by go_num, (fun hx1 => ?_), (fun hx1 => ?_), HFF.out⟩
              · rw [HDO.out, HDE.out, ← outL_next, show tab.length - (x + 1) - 1 + 1 = tab.length - x - 1 by omega]
                exact HFIN.out
              · rw [← hx1, HDO.out, HDE.out]
                have := HFIN.out
                rw [show tab.length - x - 1 = 0 by omega] at this
                rw [← hx1] at this
                exact this
            case measure => simp [intOf]; omega
          · have hkI : ((kd : Int) != 11) = true := by simp; omega
            have HFIN : Hid ((wr.setCell ⟨w.heap.size, x, none⟩ (.int .i64 ((c + 1 : Nat) : Int))).ownsRow 0 3 1 (.slice (some ⟨w.heap.size, 0, none⟩) tab.length tab.length) tab.length (ints (outL ds (c + 1) (tab.length - x - 1)))) := by
              have e1 := (HOk.out.stored x (.int .i64 ((c + 1 : Nat) : Int))).1
              have e2 := outL_set ds c (tab.length - x - 1) (c + 1)
              rw [HDL.out] at e2
              rw [e2] at e1
              exact e1
            have HFF2 : Hid (Fr Zero w (wr.setCell ⟨w.heap.size, x, none⟩ (.int .i64 ((c + 1 : Nat) : Int)))) := HFF.out.past (Fr.setCell _ _ _ _ (Nat.le_refl _))
            rw [if_neg hk11] at HDE
            clear hk11
            go_wp2_with fail
            go_roundw
            case rel =>
              refine ⟨x + 1, by omega, by go_num, (fun hx1 => ?_), (fun hx1 => ?_), HFF2.out⟩
              · rw [HDO.out, HDE.out, ← outL_next, show tab.length - (x + 1) - 1 + 1 = tab.length - x - 1 by omega]
                exact HFIN.out
              · rw [← hx1, HDO.out, HDE.out]
                have := HFIN.out
                rw [show tab.length - x - 1 = 0 by omega] at this
                rw [← hx1] at this
                exact this
            case measure => simp [intOf]; omega
    · have hxe : x = tab.length := by omega
      have HO9 := hide (HOe.out hxe)
      subst hxe
      clear HOx HOe
      go_wp2_with fail
      go_ret
      refine ⟨HF, w.heap.size, rfl, fun y hy => ?_⟩
      rw [sl_cell HO9.out hy]
      exact numsI _ y (by rw [rDepths_length]; exact hy)

end Go.Proofs.YtapblkmlhoalgaaDoor
