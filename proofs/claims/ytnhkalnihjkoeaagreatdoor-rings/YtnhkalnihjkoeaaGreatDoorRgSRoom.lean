/- The document's ring: Room, NewRing. -/
import Derived.Test.YtnhkalnihjkoeaaGreatDoorRgSTake
namespace Go.Proofs.YtnhkalnihjkoeaaGreatDoor.Q
open Go.RowKit

def countR (x : Nat) (l : List RF) : Nat := (l.filter (fun f => decide (f.how = x))).length
theorem countR_snoc (x : Nat) (l : List RF) (f : RF) : countR x (l ++ [f]) = countR x l + (if f.how = x then 1 else 0) := by
  unfold countR
  rw [List.filter_append, List.length_append]
  by_cases h : f.how = x <;> simp [h]
theorem countR_le (x : Nat) (l : List RF) : countR x l ≤ l.length := List.length_filter_le _ _
theorem Same.count {R : PR} {Q : RR} (h : Same R Q) (x : Nat) (hx : x ≠ 2) : countR x Q.fs = countOf x R.fs := by
  obtain ⟨old, h1, _, h3⟩ := h.fs
  unfold countR countOf
  rw [h1, List.filter_append, List.length_append, List.filter_eq_nil_iff.2 (fun f hf => by simp; rw [h3 f hf]; omega), List.filter_map, List.length_map]
  simp [rf, Function.comp_def]
  rfl

set_option maxHeartbeats 16000000 in
set_option maxRecDepth 100000 in
theorem rroom_any {w : World} {qb : Nat} {Q : RR} {fv : Value} {R : PR} (h : RQ w qb Q fv) (hS : Same R Q) (hF : Fit R) (hl : Q.fs.length ≤ 3000000000000) :
    Calls Tryz.prog 90 #[.pointer (some ⟨qb, 0, none⟩)] w fun e w' => e = .returned (roomV R) ∧ Fr Zero w w' := by
  have H := hide h
  have HTK := hide (hS.taken hF)
  have htk : takenR Q.fs ≤ 64 := by rw [hS.taken hF]; have := hF.tidy.taken; have := hF.g64; omega
  have HC0 := hide (hS.count 0 (by omega))
  have HC1 := hide (hS.count 1 (by omega))
  have HSH := hide hS.shut
  have hqlt := h.lt
  obtain ⟨fa, fc, rfl⟩ := h.f.len
  have HF0 : Hid (Fr Zero w (w.alloc (.cells #[.int .i64 0, .int .i64 0, .int .i64 0, .bool false] 189)).drew) := (Fr.alloc _ _ _).trans (Fr.drew _ _)
  have HB0 : Hid ((w.alloc (.cells #[.int .i64 0, .int .i64 0, .int .i64 0, .bool false] 189)).drew.heap[w.heap.size]? = some (.cells #[.int .i64 0, .int .i64 0, .int .i64 0, .bool false] 189 (0, 0))) := heap_new_at rfl _
  have HM0 := hide (h.quiet HF0.out)
  have s0 := HM0.out.at3
  clear h hS hF
  go_enter Tryz.func90, Tryz.ntmps90
  go_wp2_with fail
  refine wp_region_held_drew (S := fun W => W.cell? ⟨qb, 3, none⟩ = some (.bool Q.shut)) (by kernel_rfl) s0 (fun hT => ?_)
  refine wtake0 (by kernel_rfl) (by kernel_rfl) (by kernel_rfl) (fun _ _ _ h => h) (Or.inl ⟨by rfl, fun W hW => by go_simp; try with_reducible rfl⟩) s0 ?_
  try simp only [Act.put, List.setIfInBounds_toArray, List.set_cons_zero, List.set_cons_succ]
  refine wtake2 (by kernel_rfl) (by kernel_rfl) (by kernel_rfl) (fun _ _ _ h => h) (Or.inl ⟨by rfl, fun W hW => by go_simp; try with_reducible rfl⟩) s0 ?_
  try simp only [Act.put, List.setIfInBounds_toArray, List.set_cons_zero, List.set_cons_succ]
  refine wtake3 (by kernel_rfl) (by kernel_rfl) (by kernel_rfl) (fun _ _ _ h => h) (Or.inl ⟨by rfl, fun W hW => by go_simp; try with_reducible rfl⟩) s0 ?_
  try simp only [Act.put, List.setIfInBounds_toArray, List.set_cons_zero, List.set_cons_succ]
  refine wtake4 (by kernel_rfl) (by kernel_rfl) (by kernel_rfl) (fun _ _ _ h => h) (Or.inl ⟨by rfl, fun W hW => by go_simp; try with_reducible rfl⟩) s0 ?_
  try simp only [Act.put, List.setIfInBounds_toArray, List.set_cons_zero, List.set_cons_succ]
  refine wtake5 (by kernel_rfl) (by kernel_rfl) (by kernel_rfl) (fun _ _ _ h => h) (Or.inl ⟨by rfl, fun W hW => by go_simp; try with_reducible rfl⟩) s0 ?_
  try simp only [Act.put, List.setIfInBounds_toArray, List.set_cons_zero, List.set_cons_succ]
  generalize (w.alloc (.cells #[.int .i64 0, .int .i64 0, .int .i64 0, .bool false] 189)).drew = w0 at *
  have HF1 : Hid (Fr Zero w0 (w0.alloc (.cells #[.int .i64 0, .int .i64 0, .int .i64 0, .bool false] 189))) := Fr.alloc _ _ _
  have HM1 := hide (HM0.out.quiet HF1.out)
  have s1 := HM1.out.at3
  have hlt0 := lt_of_heap HB0.out
  refine wpAnyH_ready (rs := [1, 7]) (by kernel_rfl) (by simp) ?_
  refine wcons1 (fun K hK => ?_) (wcons7 (fun K hK => ?_) AllReadyH.nil)
  focus
    go_simp
    refine (rtaken_any HM0.out (by omega) (by omega)).mono ?_
    rintro e w1 ⟨rfl, e1⟩
    obtain rfl := e1.symm
    go_wp2_with fail
    refine hK.out _ _ s0 (fun _ => ?_)
    clear hK K
    try simp only [Act.put, List.setIfInBounds_toArray, List.set_cons_zero, List.set_cons_succ]
    refine wtake6 (by kernel_rfl) (by kernel_rfl) (by kernel_rfl) (fun _ _ _ h => h) (Or.inl ⟨by rfl, fun W hW => by go_simp; try with_reducible rfl⟩) s0 ?_
    try simp only [Act.put, List.setIfInBounds_toArray, List.set_cons_zero, List.set_cons_succ]
    refine wpAnyH_ready (rs := [7]) (by kernel_rfl) (by simp) ?_
    refine wcons7 (fun K hK => ?_) AllReadyH.nil
    go_simp
    refine hK.out _ _ s1 (fun _ => ?_)
    clear hK K
    try simp only [Act.put, List.setIfInBounds_toArray, List.set_cons_zero, List.set_cons_succ]
    refine wpAnyH_ready (rs := [8]) (by kernel_rfl) (by simp) ?_
    refine wcons8 (fun K hK => ?_) AllReadyH.nil
    go_simp
  rotate_left
  focus
    go_simp
    refine hK.out _ _ s1 (fun _ => ?_)
    clear hK K
    try simp only [Act.put, List.setIfInBounds_toArray, List.set_cons_zero, List.set_cons_succ]
    refine wpAnyH_ready (rs := [1]) (by kernel_rfl) (by simp) ?_
    refine wcons1 (fun K hK => ?_) AllReadyH.nil
    go_simp
    refine (rtaken_any HM1.out (by omega) (by omega)).mono ?_
    rintro e w1 ⟨rfl, e1⟩
    obtain rfl := e1.symm
    go_wp2_with fail
    refine hK.out _ _ s1 (fun _ => ?_)
    clear hK K
    try simp only [Act.put, List.setIfInBounds_toArray, List.set_cons_zero, List.set_cons_succ]
    refine wtake6 (by kernel_rfl) (by kernel_rfl) (by kernel_rfl) (fun _ _ _ h => h) (Or.inl ⟨by rfl, fun W hW => by go_simp; try with_reducible rfl⟩) s1 ?_
    try simp only [Act.put, List.setIfInBounds_toArray, List.set_cons_zero, List.set_cons_succ]
    refine wpAnyH_ready (rs := [8]) (by kernel_rfl) (by simp) ?_
    refine wcons8 (fun K hK => ?_) AllReadyH.nil
    go_simp
  all_goals
    have HF2 : Hid (Fr Zero w0 (w0.alloc (.cells #[.int .i64 (takenR Q.fs), .int .i64 0, .int .i64 0, .bool Q.shut] 189))) := Fr.alloc _ _ _
    have HM2 := hide (HM0.out.quiet HF2.out)
    have s2 := HM2.out.at3
    refine hK.out _ _ s2 (fun _ => ?_)
    clear hK K
    try simp only [Act.put, List.setIfInBounds_toArray, List.set_cons_zero, List.set_cons_succ]
    refine wpAnyH_done (by kernel_rfl) ?_ _
    have HX2 : Hid ((w0.alloc (.cells #[.int .i64 (takenR Q.fs), .int .i64 0, .int .i64 0, .bool Q.shut] 189)).heap[w0.heap.size]? = some (.cells #[.int .i64 (takenR Q.fs), .int .i64 0, .int .i64 0, .bool Q.shut] 189 (0, 0))) := heap_new_at rfl _
    have HY2 := hide (HF2.out.keep HB0.out (fun h => h))
    have HFw := hide (HF0.out.trans HF2.out)
    have hle0 := HF0.out.size
    clear s0 s1 s2 HF1 HM1 HM0 HF0 HB0 HF2
    go_wp2_with fail
    go_loopw [4] (fun iv wr => ∃ i : Nat, i ≤ Q.fs.length ∧ iv = .int .i64 i ∧ Hid (wr.heap[w0.heap.size]? = some (.cells #[.int .i64 (takenR Q.fs), .int .i64 (countR 0 (Q.fs.take i)), .int .i64 (countR 1 (Q.fs.take i)), .bool Q.shut] 189 (0, 0))) ∧ Hid (wr.heap[w.heap.size]? = some (.cells #[.int .i64 0, .int .i64 0, .int .i64 0, .bool false] 189 (0, 0))) ∧ Hid (Fr Zero w wr) ∧ Hid (RQ wr qb Q (.slice fa Q.fs.length fc))) (fun iv _ => Q.fs.length - (intOf iv).toNat)
    · exact ⟨0, by omega, rfl, HX2, HY2, HFw, HM2⟩
    · clear HX2 HY2 HFw HM2
      obtain ⟨i, hi, rfl, HX, HY, HFr, HMr⟩ := hrel
      have k1 := HMr.out.at1
      have x1 : wr.cell? ⟨w0.heap.size, 1, none⟩ = some (.int .i64 (countR 0 (Q.fs.take i))) := by rw [cell_of_heap HX.out]; rfl
      have x2 : wr.cell? ⟨w0.heap.size, 2, none⟩ = some (.int .i64 (countR 1 (Q.fs.take i))) := by rw [cell_of_heap HX.out]; rfl
      have xf1 : wr.frozen? ⟨w0.heap.size, 1, none⟩ = false := free_of_heap HX.out
      have xf2 : wr.frozen? ⟨w0.heap.size, 2, none⟩ = false := free_of_heap HX.out
      have hc0 := countR_le 0 (Q.fs.take i)
      have hc1 := countR_le 1 (Q.fs.take i)
      rw [List.length_take] at hc0 hc1
      by_cases hlt : i < Q.fs.length
      · have hI : (i : Int) < (Q.fs.length : Int) := by omega
        have hf : Q.fs[i]? = some Q.fs[i] := List.getElem?_eq_getElem hlt
        obtain ⟨fb, off, cap, e1, c0, c1, c2, _⟩ := HMr.out.frame hf
        obtain ⟨rfl, _, rfl⟩ : fa = some ⟨fb, off, none⟩ ∧ True ∧ fc = cap := by simp at e1; exact ⟨e1.1, trivial, e1.2⟩
        have HT : Hid (Q.fs.take (i + 1) = Q.fs.take i ++ [Q.fs[i]]) := take_snoc hf
        have HS0 := hide (countR_snoc 0 (Q.fs.take i) Q.fs[i])
        have HS1 := hide (countR_snoc 1 (Q.fs.take i) Q.fs[i])
        rw [← HT.out] at HS0 HS1
        have HKP : ∀ (o : Nat) (v : Value), Hid (RQ (wr.setCell ⟨w0.heap.size, o, none⟩ v) qb Q (.slice (some ⟨fb, off, none⟩) Q.fs.length fc)) := fun o v => (HMr.out.keep (Fr.setCell (One w0.heap.size) wr ⟨w0.heap.size, o, none⟩ v rfl) (fun k hk e => by
          have e' : k = w0.heap.size := e
          rw [e'] at hk
          exact HMr.out.notX HX.out (by decide) (by decide) hk)).1
        have HFP : ∀ (o : Nat) (v : Value), Hid (Fr Zero w (wr.setCell ⟨w0.heap.size, o, none⟩ v)) := fun o v => HFr.out.past (Fr.setCell (fun b => w.heap.size ≤ b) _ _ _ (by show w.heap.size ≤ w0.heap.size; omega))
        have HYP : ∀ (o : Nat) (v : Value), Hid ((wr.setCell ⟨w0.heap.size, o, none⟩ v).heap[w.heap.size]? = some (.cells #[.int .i64 0, .int .i64 0, .int .i64 0, .bool false] 189 (0, 0))) := fun o v => by
          show _ = _
          rw [Below.heap_setCell _ _ _ _ (by show w.heap.size ≠ w0.heap.size; omega)]
          exact HY.out
        clear e1 hf
        generalize Q.fs[i] = f at *
        by_cases h0 : f.how = 0
        · rw [h0] at c2 HS0 HS1
          rw [if_pos rfl] at HS0
          rw [if_neg (by omega)] at HS1
          have HXP := hide (heap_setCell_same (o := 1) (v := .int .i64 ((countR 0 (Q.fs.take (i + 1)) : Nat) : Int)) HX.out)
          have hn : (((countR 0 (Q.fs.take (i + 1)) : Nat) : Int)) = (countR 0 (Q.fs.take i) : Int) + 1 := by rw [HS0.out]; omega
          rw [hn] at HXP
          clear hn
          go_wp2_with fail
          refine ⟨⟨i + 1, by omega, by go_num, ?_, HYP _ _, HFP _ _, HKP _ _⟩, by simp [intOf]; omega⟩
          rw [HS0.out, HS1.out]
          exact HXP
        · by_cases h1 : f.how = 1
          · have hb0 : ((f.how : Int) == 0) = false := beq_eq_false_iff_ne.2 (by omega)
            rw [h1] at c2 HS0 HS1
            rw [if_neg (by omega)] at HS0
            rw [if_pos rfl] at HS1
            have HXP := hide (heap_setCell_same (o := 2) (v := .int .i64 ((countR 1 (Q.fs.take (i + 1)) : Nat) : Int)) HX.out)
            have hn : (((countR 1 (Q.fs.take (i + 1)) : Nat) : Int)) = (countR 1 (Q.fs.take i) : Int) + 1 := by rw [HS1.out]; omega
            rw [hn] at HXP
            clear hn
            go_wp2_with fail
            refine ⟨⟨i + 1, by omega, by go_num, ?_, HYP _ _, HFP _ _, HKP _ _⟩, by simp [intOf]; omega⟩
            rw [HS0.out, HS1.out]
            exact HXP
          · have hb0 : ((f.how : Int) == 0) = false := beq_eq_false_iff_ne.2 (by omega)
            have hb1 : ((f.how : Int) == 1) = false := beq_eq_false_iff_ne.2 (by omega)
            rw [if_neg h0] at HS0
            rw [if_neg h1] at HS1
            go_wp2_with fail
            refine ⟨⟨i + 1, by omega, by go_num, ?_, HY, HFr, HMr⟩, by simp [intOf]; omega⟩
            rw [HS0.out, HS1.out]
            exact HX
      · have hi' : i = Q.fs.length := by omega
        subst hi'
        have hI : ¬ (Q.fs.length : Int) < (Q.fs.length : Int) := by omega
        rw [List.take_length, HTK.out, HC0.out, HC1.out, HSH.out] at HX
        rw [List.take_length] at x1 x2
        rw [HC0.out] at x1
        rw [HC1.out] at x2
        have x0 : wr.cell? ⟨w0.heap.size, 0, none⟩ = some (.int .i64 (taken R.fs)) := by rw [cell_of_heap HX.out]; rfl
        have x3 : wr.cell? ⟨w0.heap.size, 3, none⟩ = some (.bool R.shut) := by rw [cell_of_heap HX.out]; rfl
        have y0 : wr.cell? ⟨w.heap.size, 0, none⟩ = some (.int .i64 0) := by rw [cell_of_heap HY.out]; rfl
        have y1 : wr.cell? ⟨w.heap.size, 1, none⟩ = some (.int .i64 0) := by rw [cell_of_heap HY.out]; rfl
        have y2 : wr.cell? ⟨w.heap.size, 2, none⟩ = some (.int .i64 0) := by rw [cell_of_heap HY.out]; rfl
        have y3 : wr.cell? ⟨w.heap.size, 3, none⟩ = some (.bool false) := by rw [cell_of_heap HY.out]; rfl
        have yf : ∀ o, wr.frozen? ⟨w.heap.size, o, none⟩ = false := fun o => free_of_heap HY.out
        have yf0 := yf 0
        have yf1 := yf 1
        have yf2 := yf 2
        have yf3 := yf 3
        go_wp2_with fail
        refine bodyPost_ret (v := roomV R) ?_ rfl ⟨rfl, ?_⟩
        · rw [results_cell1 rfl]
          have e := heap_four HY.out (.int .i64 (taken R.fs)) (.int .i64 (countOf 0 R.fs)) (.int .i64 (countOf 1 R.fs)) (.bool R.shut)
          have d0 := cell_of_heap (o := 0) e
          have d1 := cell_of_heap (o := 1) e
          have d2 := cell_of_heap (o := 2) e
          have d3 := cell_of_heap (o := 3) e
          go_simp
          try rfl
        · exact HFr.out.past (Fr.four (fun b => w.heap.size ≤ b) wr w.heap.size _ _ _ _ (Nat.le_refl _))

set_option maxHeartbeats 4000000 in
theorem rnew_any (g : Nat) (h2 : 2 ≤ g) (h64 : g ≤ 64) (w : World) :
    Calls Tryz.prog 154 #[.int .i64 g] w fun e w' => e = .returned (.tuple #[.pointer (some ⟨w.heap.size, 0, none⟩), .int .i64 0]) ∧ Fr Zero w w' ∧ RQ w' w.heap.size ⟨g, [], 0, false⟩ (.slice none 0 0) := by
  have hI1 : ¬ (g : Int) < 2 := by omega
  have hI2 : ¬ (64 : Int) < (g : Int) := by omega
  go_enter Tryz.func154, Tryz.ntmps154
  go_wp2_with fail
  go_ret2
  exact ⟨rfl, Fr.alloc _ _ _, ⟨heap_new_at rfl _, PRow.nil _ _ _⟩⟩
set_option maxHeartbeats 4000000 in
theorem rnew_bad (g : Int) (h : g < 2 ∨ 64 < g) (w : World) :
    Calls Tryz.prog 154 #[.int .i64 g] w fun e w' => e = .returned (.tuple #[.pointer none, .int .i64 8]) ∧ w' = w := by
  by_cases h1 : g < 2
  · go_enter Tryz.func154, Tryz.ntmps154
    go_wp2_with fail
    go_ret2
    exact ⟨rfl, rfl⟩
  · have h1d : decide (g < 2) = false := decide_eq_false h1
    have h2 : 64 < g := by omega
    go_enter Tryz.func154, Tryz.ntmps154
    go_wp2_with fail
    go_ret2
    exact ⟨rfl, rfl⟩

end Go.Proofs.YtnhkalnihjkoeaaGreatDoor.Q
