/- A queue's step that looks at a frame, or releases it. -/
import Derived.Test.YtnhkalnihjkoeaaQReg2
import Derived.Test.YtnhkalnihjkoeaaQTake2
namespace Go.Proofs.Ytnhkalnihjkoeaa
open Go.RowKit

set_option maxHeartbeats 16000000 in
set_option maxRecDepth 100000 in
theorem one_idle {w : World} {B sb rb yb qb N : Nat} {R : PR} {waits : List Bs} (h : ST w B sb rb yb qb R N waits []) (k a : Int) (hk1 : -9223372036854775808 ≤ k) (hk2 : k ≤ 9223372036854775807) (hp : pickN k 7 = 5 ∨ pickN k 7 = 6) (g : Value) :
    Calls Try.prog 6 #[.pointer (some ⟨qb, 0, none⟩), .pointer (some ⟨sb, 0, none⟩), g, .agg #[.int .i64 k, .int .i64 a]] w fun e w' => OnePost w B sb rb yb qb R N (fun ws hs n => ws = waits ∧ hs = [] ∧ n = N) e w' := by
  have HF0 : Hid (Fr Zero w (w.alloc (.cells #[.int .i64 k, .int .i64 a] 35))) := Fr.alloc _ _ _
  have H0 := hide (h.quiet HF0.out)
  clear h
  go_enter Try.func6, Try.ntmps6
  go_wp2_with fail
  generalize w.alloc (.cells #[.int .i64 k, .int .i64 a] 35) = w0 at *
  refine (pick_any k hk1 hk2 7 (by omega) (by omega) _).mono ?_
  rintro e w1 ⟨rfl, e1⟩
  obtain rfl := e1.symm
  obtain ⟨wv, hv, nv, hq, hqb⟩ := H0.out.qm
  have k1 := hq.at1
  obtain ⟨ha, hc, rfl⟩ := hq.rh.len
  simp only [List.map_nil, List.length_nil] at k1
  clear hq
  generalize pickN k 7 = P at *
  obtain rfl | rfl := hp
  all_goals
    go_wp2_with fail
    go_ret
    exact ⟨rfl, HF0.out.of0, R, N, waits, [], H0.out, rfl, by omega, rfl, rfl, rfl⟩

set_option maxHeartbeats 16000000 in
set_option maxRecDepth 100000 in
theorem one_rel {w : World} {B sb rb yb qb N : Nat} {R : PR} {waits : List Bs} {held : List (Nat × Bs)} (h : ST w B sb rb yb qb R N waits held) (hh : 0 < held.length) (hN : N ≤ 100000) (k a : Int) (hk1 : -9223372036854775808 ≤ k) (hk2 : k ≤ 9223372036854775807) (ha1 : -9223372036854775808 ≤ a) (ha2 : a ≤ 9223372036854775807) (hp : pickN k 7 = 5 ∨ pickN k 7 = 6) (g : Value) :
    Calls Try.prog 6 #[.pointer (some ⟨qb, 0, none⟩), .pointer (some ⟨sb, 0, none⟩), g, .agg #[.int .i64 k, .int .i64 a]] w fun e w' => OnePost w B sb rb yb qb R N (fun ws hs n => ws = waits ∧ n = N ∧ (pickN k 7 = 5 → hs.length + 1 = held.length)) e w' := by
  have H := hide h
  have HF0 : Hid (Fr Zero w (w.alloc (.cells #[.int .i64 k, .int .i64 a] 35))) := Fr.alloc _ _ _
  have HB0 : Hid ((w.alloc (.cells #[.int .i64 k, .int .i64 a] 35)).heap[w.heap.size]? = some (.cells #[.int .i64 k, .int .i64 a] 35 (0, 0))) := heap_new_at rfl _
  have H0 := hide (h.quiet HF0.out)
  have hbn := h.bounds
  clear h
  go_enter Try.func6, Try.ntmps6
  go_wp2_with fail
  generalize w.alloc (.cells #[.int .i64 k, .int .i64 a] 35) = w0 at *
  refine (pick_any k hk1 hk2 7 (by omega) (by omega) _).mono ?_
  rintro e w1 ⟨rfl, e1⟩
  obtain rfl := e1.symm
  obtain ⟨wv, hv, nv, hq, hqb1, hqb2, hqb3⟩ := H0.out.qm
  have hl1 : (held.map (fun x => x.2)).length = held.length := by simp
  have hl2 : (held.map (fun x => x.1)).length = held.length := by simp
  have hil := pickN_lt a hh
  obtain ⟨i, hi⟩ : ∃ i, pickN a held.length = i := ⟨_, rfl⟩
  rw [hi] at hil
  have HI := hide hi
  obtain ⟨⟨m, d⟩, hmd⟩ : ∃ p, held[i]? = some p := ⟨held[i], by simp⟩
  have hd2 : (held.map (fun x => x.2))[i]? = some d := by rw [List.getElem?_map, hmd]; rfl
  have hm2 : (held.map (fun x => x.1))[i]? = some m := by rw [List.getElem?_map, hmd]; rfl
  have HQRR := hide (H0.out.rel.rel hmd)
  have HMD := hide hmd
  have hdl : d.length ≤ 1000 := by
    have h1 := hmd
    rw [H0.out.rel.held] at h1
    obtain ⟨j, f, _, a2, _, a4, _⟩ := heldF_at _ _ _ _ _ h1
    rw [← a4]
    exact (H0.out.fit.kept j f a2).2
  obtain ⟨hs2, hhs2⟩ : ∃ l, held.map (fun x => x.2) = l := ⟨_, rfl⟩
  obtain ⟨ns, hns⟩ : ∃ l, held.map (fun x => x.1) = l := ⟨_, rfl⟩
  rw [hhs2] at hl1 hd2 hq
  rw [hns] at hl2 hm2 hq
  have HH2 := hide hhs2
  have HNS := hide hns
  obtain ⟨hb, ho, hc, rfl, c1⟩ := hq.rh.at_ (j := i) (u := .string (ba d)) (by simp [strC, hd2])
  obtain ⟨nb, no, nc, rfl, c2⟩ := hq.rn.at_ (j := i) (u := .int .i64 (m : Nat)) (by simp [natC, hm2])
  have k1 := hq.at1
  have k2 := hq.at2
  have s0 : w0.cell? ⟨w.heap.size, 0, none⟩ = some (.int .i64 k) := by rw [cell_of_heap HB0.out]; rfl
  have s1 : w0.cell? ⟨w.heap.size, 1, none⟩ = some (.int .i64 a) := by rw [cell_of_heap HB0.out]; rfl
  have HQ := hide hq
  rw [hl1] at k1
  rw [hl2] at k2
  have HL1 := hide hl1
  have HL2 := hide hl2
  have HD2 := hide hd2
  have HM2 := hide hm2
  have hmN : m ≤ N := HQRR.out.2.2.2.2.2
  have hIh : (i : Int) < (held.length : Int) := by omega
  have hhI : ¬ ((held.length : Int) = 0) := by omega
  have hhb : (((held.length : Nat) : Int) == 0) = false := beq_eq_false_iff_ne.2 hhI
  clear hq hi hl1 hl2 hhs2 hns hd2 hm2 hmd
  have HPK : Hid (pickN k 7 = pickN k 7) := rfl
  obtain ⟨P, hP⟩ : ∃ P, pickN k 7 = P := ⟨_, rfl⟩
  rw [hP] at hp ⊢
  have HPP := hide hP
  clear hP
  obtain rfl | rfl := hp
  all_goals
    go_wp2_with fail
    refine wp_region_held_drew (S := fun W => W = w0.drew) (by kernel_rfl) rfl (fun hT => ?_)
    refine wtake0 (by kernel_rfl) (by kernel_rfl) (by kernel_rfl) (fun _ _ _ h => h) (Or.inl ⟨by rfl, fun W hW => by subst hW; go_simp; try with_reducible rfl⟩) rfl ?_
    try simp only [Act.put, List.setIfInBounds_toArray, List.set_cons_zero, List.set_cons_succ]
    refine wtake1 (by kernel_rfl) (by kernel_rfl) (by kernel_rfl) (fun _ _ _ h => h) (Or.inl ⟨by rfl, fun W hW => by subst hW; go_simp; try with_reducible rfl⟩) rfl ?_
    try simp only [Act.put, List.setIfInBounds_toArray, List.set_cons_zero, List.set_cons_succ]
    refine wtake2 (by kernel_rfl) (by kernel_rfl) (by kernel_rfl) (fun _ _ _ h => h) (Or.inl ⟨by rfl, fun W hW => by subst hW; go_simp; try with_reducible rfl⟩) rfl ?_
    try simp only [Act.put, List.setIfInBounds_toArray, List.set_cons_zero, List.set_cons_succ]
    refine wtake3 (by kernel_rfl) (by kernel_rfl) (by kernel_rfl) (fun _ _ _ h => h) (Or.inl ⟨by rfl, fun W hW => by subst hW; go_simp; try with_reducible rfl⟩) rfl ?_
    try simp only [Act.put, List.setIfInBounds_toArray, List.set_cons_zero, List.set_cons_succ]
    refine wtake4 (by kernel_rfl) (by kernel_rfl) (by kernel_rfl) (fun _ _ _ h => h) (Or.inl ⟨by rfl, fun W hW => by subst hW; go_simp; try with_reducible rfl⟩) rfl ?_
    try simp only [Act.put, List.setIfInBounds_toArray, List.set_cons_zero, List.set_cons_succ]
    refine wtake5 (by kernel_rfl) (by kernel_rfl) (by kernel_rfl) (fun _ _ _ h => h) (Or.inl ⟨by rfl, fun W hW => by subst hW; go_simp; try with_reducible rfl⟩) rfl ?_
    try simp only [Act.put, List.setIfInBounds_toArray, List.set_cons_zero, List.set_cons_succ]
    refine wtake6 (by kernel_rfl) (by kernel_rfl) (by kernel_rfl) (fun _ _ _ h => h) (Or.inl ⟨by rfl, fun W hW => by subst hW; go_simp; try with_reducible rfl⟩) rfl ?_
    try simp only [Act.put, List.setIfInBounds_toArray, List.set_cons_zero, List.set_cons_succ]
    refine wpAnyH_ready (rs := [7]) (by kernel_rfl) (by simp) ?_
    refine wcons7 (fun K hK => ?_) AllReadyH.nil
    go_simp
    refine (pick_any a ha1 ha2 held.length hh (by omega) _).mono ?_
    rintro e w1 ⟨rfl, e1⟩
    obtain rfl := e1.symm
    rw [HI.out]
    go_wp2_with fail
    refine hK.out _ _ rfl (fun _ => ?_)
    clear hK K
    try simp only [Act.put, List.setIfInBounds_toArray, List.set_cons_zero, List.set_cons_succ]
    refine wtake8 (by kernel_rfl) (by kernel_rfl) (by kernel_rfl) (fun _ _ _ h => h) (Or.inl ⟨by rfl, fun W hW => by subst hW; go_simp; try with_reducible rfl⟩) rfl ?_
    try simp only [Act.put, List.setIfInBounds_toArray, List.set_cons_zero, List.set_cons_succ]
    refine wpAnyH_done (by kernel_rfl) ?_ _
    have HFd : Hid (Fr Zero w0 w0.drew) := Fr.drew _ _
    have H1 := hide (H0.out.quiet HFd.out)
    have HQ1 := hide (HQ.out.quiet HFd.out)
    have hS1 : w0.drew.cell? ⟨qb, 2, none⟩ = some (.slice (some ⟨nb, no, none⟩) held.length nc) ∧ w0.drew.cell? ⟨nb, no + i, none⟩ = some (.int .i64 (m : Nat)) ∧ w0.drew.cell? ⟨qb, 1, none⟩ = some (.slice (some ⟨hb, ho, none⟩) held.length hc) ∧ w0.drew.cell? ⟨hb, ho + i, none⟩ = some (.string (ba d)) := ⟨k2, c2, k1, c1⟩
    have s0' : w0.drew.cell? ⟨w.heap.size, 0, none⟩ = some (.int .i64 k) := s0
    have HB1 := hide (HFd.out.keep HB0.out (fun h => h))
    clear s0 s1 k1 k2 c1 c2
    generalize w0.drew = w1 at *
    go_wp2_with fail
    refine wp_region_held_drew (S := fun W => W.cell? ⟨qb, 2, none⟩ = some (.slice (some ⟨nb, no, none⟩) held.length nc) ∧ W.cell? ⟨nb, no + i, none⟩ = some (.int .i64 (m : Nat)) ∧ W.cell? ⟨qb, 1, none⟩ = some (.slice (some ⟨hb, ho, none⟩) held.length hc) ∧ W.cell? ⟨hb, ho + i, none⟩ = some (.string (ba d))) (by kernel_rfl) hS1 (fun hT => ?_)
    refine wtake0 (by kernel_rfl) (by kernel_rfl) (by kernel_rfl) (fun _ _ _ h => h) (Or.inl ⟨by rfl, fun W hW => by obtain ⟨u1, u2, u3, u4⟩ := hW; go_simp; try with_reducible rfl⟩) hS1 ?_
    try simp only [Act.put, List.setIfInBounds_toArray, List.set_cons_zero, List.set_cons_succ]
    refine wtake1 (by kernel_rfl) (by kernel_rfl) (by kernel_rfl) (fun _ _ _ h => h) (Or.inl ⟨by rfl, fun W hW => by obtain ⟨u1, u2, u3, u4⟩ := hW; go_simp; try with_reducible rfl⟩) hS1 ?_
    try simp only [Act.put, List.setIfInBounds_toArray, List.set_cons_zero, List.set_cons_succ]
    refine wtake2 (by kernel_rfl) (by kernel_rfl) (by kernel_rfl) (fun _ _ _ h => h) (Or.inl ⟨by rfl, fun W hW => by obtain ⟨u1, u2, u3, u4⟩ := hW; go_simp; try with_reducible rfl⟩) hS1 ?_
    try simp only [Act.put, List.setIfInBounds_toArray, List.set_cons_zero, List.set_cons_succ]
    refine wtake3 (by kernel_rfl) (by kernel_rfl) (by kernel_rfl) (fun _ _ _ h => h) (Or.inl ⟨by rfl, fun W hW => by obtain ⟨u1, u2, u3, u4⟩ := hW; go_simp; try with_reducible rfl⟩) hS1 ?_
    try simp only [Act.put, List.setIfInBounds_toArray, List.set_cons_zero, List.set_cons_succ]
    refine wtake4 (by kernel_rfl) (by kernel_rfl) (by kernel_rfl) (fun _ _ _ h => h) (Or.inl ⟨by rfl, fun W hW => by obtain ⟨u1, u2, u3, u4⟩ := hW; go_simp; try with_reducible rfl⟩) hS1 ?_
    try simp only [Act.put, List.setIfInBounds_toArray, List.set_cons_zero, List.set_cons_succ]
    refine wtake5 (by kernel_rfl) (by kernel_rfl) (by kernel_rfl) (fun _ _ _ h => h) (Or.inl ⟨by rfl, fun W hW => by obtain ⟨u1, u2, u3, u4⟩ := hW; go_simp; try with_reducible rfl⟩) hS1 ?_
    try simp only [Act.put, List.setIfInBounds_toArray, List.set_cons_zero, List.set_cons_succ]
    refine wtake6 (by kernel_rfl) (by kernel_rfl) (by kernel_rfl) (fun _ _ _ h => h) (Or.inl ⟨by rfl, fun W hW => by obtain ⟨u1, u2, u3, u4⟩ := hW; go_simp; try with_reducible rfl⟩) hS1 ?_
    try simp only [Act.put, List.setIfInBounds_toArray, List.set_cons_zero, List.set_cons_succ]
    refine wtake7 (by kernel_rfl) (by kernel_rfl) (by kernel_rfl) (fun _ _ _ h => h) (Or.inl ⟨by rfl, fun W hW => by obtain ⟨u1, u2, u3, u4⟩ := hW; go_simp; try with_reducible rfl⟩) hS1 ?_
    try simp only [Act.put, List.setIfInBounds_toArray, List.set_cons_zero, List.set_cons_succ]
    refine wtake8 (by kernel_rfl) (by kernel_rfl) (by kernel_rfl) (fun _ _ _ h => h) (Or.inl ⟨by rfl, fun W hW => by obtain ⟨u1, u2, u3, u4⟩ := hW; go_simp; try with_reducible rfl⟩) hS1 ?_
    try simp only [Act.put, List.setIfInBounds_toArray, List.set_cons_zero, List.set_cons_succ]
    refine wtake9 (by kernel_rfl) (by kernel_rfl) (by kernel_rfl) (fun _ _ _ h => h) (Or.inl ⟨by rfl, fun W hW => by obtain ⟨u1, u2, u3, u4⟩ := hW; go_simp; try with_reducible rfl⟩) hS1 ?_
    try simp only [Act.put, List.setIfInBounds_toArray, List.set_cons_zero, List.set_cons_succ]
    refine wtake10 (by kernel_rfl) (by kernel_rfl) (by kernel_rfl) (fun _ _ _ h => h) (Or.inl ⟨by rfl, fun W hW => by obtain ⟨u1, u2, u3, u4⟩ := hW; go_simp; try with_reducible rfl⟩) hS1 ?_
    try simp only [Act.put, List.setIfInBounds_toArray, List.set_cons_zero, List.set_cons_succ]
    refine wtake11 (by kernel_rfl) (by kernel_rfl) (by kernel_rfl) (fun _ _ _ h => h) (Or.inl ⟨by rfl, fun W hW => by obtain ⟨u1, u2, u3, u4⟩ := hW; go_simp; try with_reducible rfl⟩) hS1 ?_
    try simp only [Act.put, List.setIfInBounds_toArray, List.set_cons_zero, List.set_cons_succ]
    refine wtake12 (by kernel_rfl) (by kernel_rfl) (by kernel_rfl) (fun _ _ _ h => h) (Or.inl ⟨by rfl, fun W hW => by obtain ⟨u1, u2, u3, u4⟩ := hW; go_simp; try with_reducible rfl⟩) hS1 ?_
    try simp only [Act.put, List.setIfInBounds_toArray, List.set_cons_zero, List.set_cons_succ]
    refine wtake13 (by kernel_rfl) (by kernel_rfl) (by kernel_rfl) (fun _ _ _ h => h) (Or.inl ⟨by rfl, fun W hW => by obtain ⟨u1, u2, u3, u4⟩ := hW; go_simp; try with_reducible rfl⟩) hS1 ?_
    try simp only [Act.put, List.setIfInBounds_toArray, List.set_cons_zero, List.set_cons_succ]
    refine wtake14 (by kernel_rfl) (by kernel_rfl) (by kernel_rfl) (fun _ _ _ h => h) (Or.inl ⟨by rfl, fun W hW => by obtain ⟨u1, u2, u3, u4⟩ := hW; go_simp; try with_reducible rfl⟩) hS1 ?_
    try simp only [Act.put, List.setIfInBounds_toArray, List.set_cons_zero, List.set_cons_succ]
    refine wtake15 (by kernel_rfl) (by kernel_rfl) (by kernel_rfl) (fun _ _ _ h => h) (Or.inl ⟨by rfl, fun W hW => by obtain ⟨u1, u2, u3, u4⟩ := hW; go_simp; try with_reducible rfl⟩) hS1 ?_
    try simp only [Act.put, List.setIfInBounds_toArray, List.set_cons_zero, List.set_cons_succ]
    refine wpAnyH_ready (rs := [16]) (by kernel_rfl) (by simp) ?_
    refine wcons16 (fun K hK => ?_) AllReadyH.nil
    go_simp
    have H1d := hide (H1.out.quiet (Fr.drew Zero w1))
    have hdz := ba_size d
    try rw [hdz]
    refine (sview_any H1d.out.sm H1d.out.fit.kept (by omega) hbn.2.1 (by omega) m 0 d.length (by omega) (by omega) (by omega) (by omega) (by omega) (by omega)).mono ?_
    rintro e w2 ⟨rfl, hF2⟩
    rw [HQRR.out.1]
    have HF2 : Hid (Fr Zero w1 w2) := (Fr.drew Zero w1).trans hF2
    have HQ2 := hide (HQ1.out.quiet HF2.out)
    have H2 := hide (H1.out.quiet HF2.out)
    have hS2 : w2.cell? ⟨qb, 2, none⟩ = some (.slice (some ⟨nb, no, none⟩) held.length nc) ∧ w2.cell? ⟨nb, no + i, none⟩ = some (.int .i64 (m : Nat)) ∧ w2.cell? ⟨qb, 1, none⟩ = some (.slice (some ⟨hb, ho, none⟩) held.length hc) ∧ w2.cell? ⟨hb, ho + i, none⟩ = some (.string (ba d)) := by
      obtain ⟨u1, u2, u3, u4⟩ := hS1
      exact ⟨by rw [HF2.out.cell (World.block_lt_of_cell? w1 _ u1) (fun h => h)]; exact u1, by rw [HF2.out.cell (World.block_lt_of_cell? w1 _ u2) (fun h => h)]; exact u2, by rw [HF2.out.cell (World.block_lt_of_cell? w1 _ u3) (fun h => h)]; exact u3, by rw [HF2.out.cell (World.block_lt_of_cell? w1 _ u4) (fun h => h)]; exact u4⟩
    clear hF2
    go_wp2_with fail
    refine hK.out _ _ hS2 (fun _ => ?_)
    clear hK K
    try simp only [Act.put, List.setIfInBounds_toArray, List.set_cons_zero, List.set_cons_succ]
    refine wtake17 (by kernel_rfl) (by kernel_rfl) (by kernel_rfl) (fun _ _ _ h => h) (Or.inl ⟨by rfl, fun W hW => by obtain ⟨u1, u2, u3, u4⟩ := hW; go_simp; try with_reducible rfl⟩) hS2 ?_
    try simp only [Act.put, List.setIfInBounds_toArray, List.set_cons_zero, List.set_cons_succ]
    refine wtake18 (by kernel_rfl) (by kernel_rfl) (by kernel_rfl) (fun _ _ _ h => h) (Or.inl ⟨by rfl, fun W hW => by obtain ⟨u1, u2, u3, u4⟩ := hW; go_simp; try with_reducible rfl⟩) hS2 ?_
    try simp only [Act.put, List.setIfInBounds_toArray, List.set_cons_zero, List.set_cons_succ]
    refine wtake19 (by kernel_rfl) (by kernel_rfl) (by kernel_rfl) (fun _ _ _ h => h) (Or.inl ⟨by rfl, fun W hW => by obtain ⟨u1, u2, u3, u4⟩ := hW; go_simp; try with_reducible rfl⟩) hS2 ?_
    try simp only [Act.put, List.setIfInBounds_toArray, List.set_cons_zero, List.set_cons_succ]
    refine wtake20 (by kernel_rfl) (by kernel_rfl) (by kernel_rfl) (fun _ _ _ h => h) (Or.inl ⟨by rfl, fun W hW => by obtain ⟨u1, u2, u3, u4⟩ := hW; go_simp; try with_reducible rfl⟩) hS2 ?_
    try simp only [Act.put, List.setIfInBounds_toArray, List.set_cons_zero, List.set_cons_succ]
    refine wtake21 (by kernel_rfl) (by kernel_rfl) (by kernel_rfl) (fun _ _ _ h => h) (Or.inl ⟨by rfl, fun W hW => by obtain ⟨u1, u2, u3, u4⟩ := hW; go_simp; try with_reducible rfl⟩) hS2 ?_
    try simp only [Act.put, List.setIfInBounds_toArray, List.set_cons_zero, List.set_cons_succ]
    refine wpAnyH_done (by kernel_rfl) ?_ _
    obtain ⟨k2, c2, k1, c1⟩ := hS2
    have s0 : w2.cell? ⟨w.heap.size, 0, none⟩ = some (.int .i64 k) := by rw [cell_of_heap (HF2.out.keep HB1.out (fun h => h))]; rfl
    have hbb : ((ba d).toList == (ba d).toList) = true := by simp
    clear hS1 s0'
    go_wp2_with fail
    refine (pick_any k hk1 hk2 7 (by omega) (by omega) _).mono ?_
    rintro e w3 ⟨rfl, e3⟩
    obtain rfl := e3.symm
    rw [HPP.out]
  rotate_left
  · go_wp2_with fail
    go_ret
    exact ⟨rfl, ((HF0.out.trans HFd.out).trans HF2.out).of0, R, N, waits, held, H2.out, rfl, by omega, rfl, rfl, fun h => by have := HPP.out; omega⟩
  · go_wp2_with fail
    refine (srelease_any H2.out.sm (by omega) hbn.2.1 (by omega) m (by omega) (by omega)).mono ?_
    rintro e w3 ⟨rfl, hF3, hM3⟩
    obtain ⟨v1, v2, v3, v4, v5, v6⟩ := HQRR.out
    rw [v2]
    have hFR := H2.out.fit.release m
    have hgg : (relP R m).2.g = R.g := by unfold relP; split <;> rfl
    obtain ⟨R', hR'⟩ : ∃ R', (relP R m).2 = R' := ⟨_, rfl⟩
    rw [hR'] at hM3 v3 v4 v5 hFR hgg
    have HRX := hide (H2.out.ring hF3)
    have HQ3 := hide (HQ2.out.ring H2.out.sm hF3)
    have HM3 := hide hM3
    have HV3 := hide v3
    have HV4 := hide v4
    have HFR := hide hFR
    have HGG := hide hgg
    have hfl := hFR.tidy.len
    have hf1 := hFR.first
    obtain ⟨nb', no', nc', en, d2⟩ := HQ3.out.rn.at_ (j := i) (u := .int .i64 (m : Nat)) (by simp [natC, HM2.out])
    simp at en
    obtain ⟨⟨rfl, rfl⟩, rfl⟩ := en
    have k2' : w3.cell? ⟨qb, 2, none⟩ = some (.slice (some ⟨nb, no, none⟩) held.length nc) := by rw [← HL2.out]; exact HQ3.out.at2
    clear hF3 hM3 v1 v2 v3 v4 v6 hFR hgg k2 c2 k1 c1 s0 hR'
    go_wp2_with fail
    refine (sview_any HM3.out HFR.out.kept (by omega) hf1 (by omega) m 0 0 (by omega) (by omega) (by omega) (by omega) (by omega) (by omega)).mono ?_
    rw [HV4.out]
    rintro e w4 ⟨rfl, hF4⟩
    have HF4 := hide hF4
    have HQ4 := hide (HQ3.out.quiet hF4)
    have HM4 := hide (HM3.out.keep hF4 (fun _ _ _ _ _ _ h => h))
    clear hF4 k2' d2
    obtain ⟨hb', ho', hc', eh, hnc, hdr1, hdr2⟩ := HQ4.out.rh.drop (m := i + 1) (by have := HL1.out; omega) (by have := HL1.out; omega)
    simp at eh
    obtain ⟨⟨rfl, rfl⟩, rfl⟩ := eh
    obtain ⟨ta, tc, et, htk⟩ := HQ4.out.rh.take (m := i) (by have := HL1.out; omega)
    simp at et
    obtain ⟨rfl, rfl⟩ := et
    have HTK := hide (htk (by have := HL1.out; omega)).2
    have HDR1 := hide hdr1
    have HDR2 := hide hdr2
    have k1 : w4.cell? ⟨qb, 1, none⟩ = some (.slice (some ⟨hb, ho, none⟩) held.length hc) := by rw [← HL1.out]; exact HQ4.out.at1
    have hIc : (i : Int) ≤ (hc : Int) := by have := HL1.out; omega
    have hIn : (i : Int) + 1 ≤ (held.length : Int) := by omega
    have hnI : i + 1 ≤ held.length := by omega
    have hlc : held.length ≤ hc := by have := HL1.out; omega
    have hwr : IntKind.i64.wrap ((i : Int) + 1) = ((i + 1 : Nat) : Int) := by rw [IntKind.wrap_i64]; omega
    have hwn : ((i + 1 : Nat) : Int) ≤ (held.length : Int) := by omega
    have h0i : (0 : Int) ≤ (i : Int) + 1 := by omega
    clear htk hdr1 hdr2 hnc
    go_wp2_with fail
    by_cases hx : i + 1 = hc
    · subst hx
      refine wp_region_held_drew (S := fun _ => True) (by kernel_rfl) trivial (fun hT => ?_)
      refine wtake0 (by kernel_rfl) (by kernel_rfl) (by kernel_rfl) (fun _ _ _ h => h) (Or.inl ⟨by rfl, fun W _ => by go_simp; try with_reducible rfl⟩) trivial ?_
      try simp only [Act.put, List.setIfInBounds_toArray, List.set_cons_zero, List.set_cons_succ]
      refine wtake1 (by kernel_rfl) (by kernel_rfl) (by kernel_rfl) (fun _ _ _ h => h) (Or.inl ⟨by rfl, fun W _ => by go_simp; try with_reducible rfl⟩) trivial ?_
      try simp only [Act.put, List.setIfInBounds_toArray, List.set_cons_zero, List.set_cons_succ]
      refine wtake2 (by kernel_rfl) (by kernel_rfl) (by kernel_rfl) (fun _ _ _ h => h) (Or.inl ⟨by rfl, fun W _ => by go_simp; try with_reducible rfl⟩) trivial ?_
      try simp only [Act.put, List.setIfInBounds_toArray, List.set_cons_zero, List.set_cons_succ]
      refine wtake3 (by kernel_rfl) (by kernel_rfl) (by kernel_rfl) (fun _ _ _ h => h) (Or.inl ⟨by rfl, fun W _ => by go_simp; try with_reducible rfl⟩) trivial ?_
      try simp only [Act.put, List.setIfInBounds_toArray, List.set_cons_zero, List.set_cons_succ]
      refine wtake5 (by kernel_rfl) (by kernel_rfl) (by kernel_rfl) (fun _ _ _ h => h) (Or.inl ⟨by rfl, fun W _ => by go_simp; try with_reducible rfl⟩) trivial ?_
      try simp only [Act.put, List.setIfInBounds_toArray, List.set_cons_zero, List.set_cons_succ]
      refine wtake7 (by kernel_rfl) (by kernel_rfl) (by kernel_rfl) (fun _ _ _ h => h) (Or.inl ⟨by rfl, fun W _ => by go_simp; try with_reducible rfl⟩) trivial ?_
      try simp only [Act.put, List.setIfInBounds_toArray, List.set_cons_zero, List.set_cons_succ]
      refine wtake8 (by kernel_rfl) (by kernel_rfl) (by kernel_rfl) (fun _ _ _ h => h) (Or.inl ⟨by rfl, fun W _ => by go_simp; try with_reducible rfl⟩) trivial ?_
      try simp only [Act.put, List.setIfInBounds_toArray, List.set_cons_zero, List.set_cons_succ]
      refine wtake9 (by kernel_rfl) (by kernel_rfl) (by kernel_rfl) (fun _ _ _ h => h) (Or.inl ⟨by rfl, fun W _ => by go_simp; try with_reducible rfl⟩) trivial ?_
      try simp only [Act.put, List.setIfInBounds_toArray, List.set_cons_zero, List.set_cons_succ]
      refine wtake11 (by kernel_rfl) (by kernel_rfl) (by kernel_rfl) (fun _ _ _ h => h) (Or.inl ⟨by rfl, fun W _ => by go_simp; try with_reducible rfl⟩) trivial ?_
      try simp only [Act.put, List.setIfInBounds_toArray, List.set_cons_zero, List.set_cons_succ]
      refine wtake12 (by kernel_rfl) (by kernel_rfl) (by kernel_rfl) (fun _ _ _ h => h) (Or.inl ⟨by rfl, fun W _ => by go_simp; try with_reducible rfl⟩) trivial ?_
      try simp only [Act.put, List.setIfInBounds_toArray, List.set_cons_zero, List.set_cons_succ]
      refine wpAnyH_ready (rs := [4, 10]) (by kernel_rfl) (by simp) ?_
      refine wcons4 (fun K hK => ?_) (wcons10 (fun K hK => ?_) AllReadyH.nil)
      focus
        go_simp
        refine hK.out _ _ trivial (fun _ => ?_)
        clear hK K
        try simp only [Act.put, List.setIfInBounds_toArray, List.set_cons_zero, List.set_cons_succ]
        refine wtake6 (by kernel_rfl) (by kernel_rfl) (by kernel_rfl) (fun _ _ _ h => h) (Or.inl ⟨by rfl, fun W _ => by have hIi : (i : Int) ≤ (i : Int) + 1 := (by omega); go_simp; try with_reducible rfl⟩) trivial ?_
        try simp only [Act.put, List.setIfInBounds_toArray, List.set_cons_zero, List.set_cons_succ]
        refine wpAnyH_ready (rs := [10]) (by kernel_rfl) (by simp) ?_
        refine wcons10 (fun K hK => ?_) AllReadyH.nil
        go_simp
        refine hK.out _ _ trivial (fun _ => ?_)
        clear hK K
        try simp only [Act.put, List.setIfInBounds_toArray, List.set_cons_zero, List.set_cons_succ]
        refine wtake13 (by kernel_rfl) (by kernel_rfl) (by kernel_rfl) (fun _ _ _ h => h) (Or.inl ⟨by rfl, fun W _ => by go_simp; try with_reducible rfl⟩) trivial ?_
        try simp only [Act.put, List.setIfInBounds_toArray, List.set_cons_zero, List.set_cons_succ]
      rotate_left
      focus
        go_simp
        refine hK.out _ _ trivial (fun _ => ?_)
        clear hK K
        try simp only [Act.put, List.setIfInBounds_toArray, List.set_cons_zero, List.set_cons_succ]
        refine wtake13 (by kernel_rfl) (by kernel_rfl) (by kernel_rfl) (fun _ _ _ h => h) (Or.inl ⟨by rfl, fun W _ => by go_simp; try with_reducible rfl⟩) trivial ?_
        try simp only [Act.put, List.setIfInBounds_toArray, List.set_cons_zero, List.set_cons_succ]
        refine wpAnyH_ready (rs := [4]) (by kernel_rfl) (by simp) ?_
        refine wcons4 (fun K hK => ?_) AllReadyH.nil
        go_simp
        refine hK.out _ _ trivial (fun _ => ?_)
        clear hK K
        try simp only [Act.put, List.setIfInBounds_toArray, List.set_cons_zero, List.set_cons_succ]
        refine wtake6 (by kernel_rfl) (by kernel_rfl) (by kernel_rfl) (fun _ _ _ h => h) (Or.inl ⟨by rfl, fun W _ => by have hIi : (i : Int) ≤ (i : Int) + 1 := (by omega); go_simp; try with_reducible rfl⟩) trivial ?_
        try simp only [Act.put, List.setIfInBounds_toArray, List.set_cons_zero, List.set_cons_succ]
      all_goals
        have e0 : held.length - (i + 1) = 0 := by omega
        have HSR : Hid (Src Try.prog 1 29 (.slice (some ⟨hb, ho, none⟩) (held.length - (i + 1)) 0) (held.length - (i + 1)) ((strC hs2).drop (i + 1)) w4.drew) := by
          have hd := (HDR2.out rfl).keep (Fr.drew Zero w4) (fun _ _ h => h)
          rw [Nat.mul_one] at hd
          rw [e0]
          exact hd.src Try.underlying29 (fun u hu => by have := List.mem_of_mem_drop hu; simp [strC] at this; obtain ⟨x, _, rfl⟩ := this; rfl)
        clear e0
        have HTd := hide (HTK.out.keep (Fr.drew Zero w4) (fun _ _ h => h))
        have HQd := hide (HQ4.out.quiet (Fr.drew Zero w4))
        refine wpAnyH_ready (rs := [14]) (by kernel_rfl) (by simp) ?_
        refine wcons14 (fun K hK => ?_) AllReadyH.nil
        refine step_pappend rfl (.tmp 271) (.tmp 278) 29 29 rfl Try.underlying29 infoS rfl (held.length - (i + 1)) ((strC hs2).drop (i + 1)) (by simp [Act.eval]) (by simp [Act.eval] <;> omega) HTd.out HSR.out (by omega) (by omega) ?_
        intro v5 w5 hp5 hF5 hv5
        have hp5' : PRow w5 9 1 v5 (hs2.eraseIdx i).length (strC (hs2.eraseIdx i)) := by
          have e1 : strC (hs2.eraseIdx i) = (strC hs2).take (i * 1) ++ (strC hs2).drop (i + 1) := by rw [List.eraseIdx_eq_take_drop_succ]; simp [strC, List.map_take, List.map_drop]
          have e2 : (hs2.eraseIdx i).length = i + (held.length - (i + 1)) := by rw [List.length_eraseIdx, HL1.out, if_pos (by omega)]; omega
          rw [e1, e2]
          exact hp5
        have hF5' : Fr (Owns (Value.slice (some ⟨hb, ho, none⟩) hs2.length (i + 1))) w4.drew w5 := hF5
        have HQ5 := hide (HQd.out.seth hp5' hF5' hv5)
        have q1 : w5.cell? ⟨qb, 1, none⟩ = _ := (hF5'.cell (a := ⟨qb, 1, none⟩) HQd.out.lt (fun e => HQd.out.rh.ne HQd.out.q (by decide) e)).trans HQd.out.at1
        have qf1 : w5.frozen? ⟨qb, 1, none⟩ = false := free_of_heap (hF5'.keep HQd.out.q (fun e => HQd.out.rh.ne HQd.out.q (by decide) e))
        have HF5 : Hid (Fr (fun j => blockOf (Value.slice (some ⟨hb, ho, none⟩) hs2.length (i + 1)) = some j ∨ j = qb) w4 (w5.setCell ⟨qb, 1, none⟩ v5)) := ((Fr.drew _ _).trans (hF5'.mono (fun j _ e => .inl e))).trans (Fr.setCell (fun j => blockOf (Value.slice (some ⟨hb, ho, none⟩) hs2.length (i + 1)) = some j ∨ j = qb) w5 ⟨qb, 1, none⟩ v5 (.inr rfl))
        have HV5 : Hid (∀ g, blockOf v5 = some g → B ≤ g) := fun g hg => by
          rcases Nat.lt_or_ge g w4.heap.size with q | q
          · exact hqb2 g (hv5 g q hg)
          · exact Nat.le_trans (Nat.le_trans (Nat.le_trans H2.out.size HRX.out.1.size) HF4.out.size) q
        obtain ⟨va, vc, rfl⟩ := hp5'.len
        clear hp5 hp5' hF5 hF5' hv5
        refine hK.out _ _ trivial (fun _ => ?_)
        clear hK K
        try simp only [Act.put, List.setIfInBounds_toArray, List.set_cons_zero, List.set_cons_succ]
        refine wtake15 (by kernel_rfl) (by kernel_rfl) (by kernel_rfl) (fun _ _ _ h => h) (Or.inl ⟨by rfl, fun W _ => by go_simp; try with_reducible rfl⟩) trivial ?_
        try simp only [Act.put, List.setIfInBounds_toArray, List.set_cons_zero, List.set_cons_succ]
        refine wtake16 (by kernel_rfl) (by kernel_rfl) (by kernel_rfl) (fun _ _ _ h => h) (Or.inl ⟨by rfl, fun W _ => by go_simp; try with_reducible rfl⟩) trivial ?_
        try simp only [Act.put, List.setIfInBounds_toArray, List.set_cons_zero, List.set_cons_succ]
        refine wpAnyH_ready (rs := [17]) (by kernel_rfl) (by simp) ?_
        refine wcons17 (fun K hK => ?_) AllReadyH.nil
        go_simp
        refine hK.out _ _ trivial (fun _ => ?_)
        clear hK K
        try simp only [Act.put, List.setIfInBounds_toArray, List.set_cons_zero, List.set_cons_succ]
        refine wpAnyH_done (by kernel_rfl) ?_ _
        clear q1 qf1 k1
        generalize w5.setCell ⟨qb, 1, none⟩ (Value.slice va (hs2.eraseIdx i).length vc) = w6 at *
        obtain ⟨nb', no', nc', eh, hnc, hdr1, hdr2⟩ := HQ5.out.rn.drop (m := i + 1) (by have := HL2.out; omega) (by have := HL2.out; omega)
        simp at eh
        obtain ⟨⟨rfl, rfl⟩, rfl⟩ := eh
        obtain ⟨ta, tc, et, htk⟩ := HQ5.out.rn.take (m := i) (by have := HL2.out; omega)
        simp at et
        obtain ⟨rfl, rfl⟩ := et
        have HNK := hide (htk (by have := HL2.out; omega)).2
        have HER1 := hide hdr1
        have HER2 := hide hdr2
        have k2 : w6.cell? ⟨qb, 2, none⟩ = some (.slice (some ⟨nb, no, none⟩) held.length nc) := by rw [← HL2.out]; exact HQ5.out.at2
        have hJc : (i : Int) ≤ (nc : Int) := by have := HL2.out; omega
        have hnlc : held.length ≤ nc := by have := HL2.out; omega
        clear htk hdr1 hdr2 hnc
        go_wp2_with fail
        by_cases hy : i + 1 = nc
        · subst hy
          refine wp_region_held_drew (S := fun _ => True) (by kernel_rfl) trivial (fun hT => ?_)
          refine wtake0 (by kernel_rfl) (by kernel_rfl) (by kernel_rfl) (fun _ _ _ h => h) (Or.inl ⟨by rfl, fun W _ => by go_simp; try with_reducible rfl⟩) trivial ?_
          try simp only [Act.put, List.setIfInBounds_toArray, List.set_cons_zero, List.set_cons_succ]
          refine wtake1 (by kernel_rfl) (by kernel_rfl) (by kernel_rfl) (fun _ _ _ h => h) (Or.inl ⟨by rfl, fun W _ => by go_simp; try with_reducible rfl⟩) trivial ?_
          try simp only [Act.put, List.setIfInBounds_toArray, List.set_cons_zero, List.set_cons_succ]
          refine wtake2 (by kernel_rfl) (by kernel_rfl) (by kernel_rfl) (fun _ _ _ h => h) (Or.inl ⟨by rfl, fun W _ => by go_simp; try with_reducible rfl⟩) trivial ?_
          try simp only [Act.put, List.setIfInBounds_toArray, List.set_cons_zero, List.set_cons_succ]
          refine wtake3 (by kernel_rfl) (by kernel_rfl) (by kernel_rfl) (fun _ _ _ h => h) (Or.inl ⟨by rfl, fun W _ => by go_simp; try with_reducible rfl⟩) trivial ?_
          try simp only [Act.put, List.setIfInBounds_toArray, List.set_cons_zero, List.set_cons_succ]
          refine wtake5 (by kernel_rfl) (by kernel_rfl) (by kernel_rfl) (fun _ _ _ h => h) (Or.inl ⟨by rfl, fun W _ => by go_simp; try with_reducible rfl⟩) trivial ?_
          try simp only [Act.put, List.setIfInBounds_toArray, List.set_cons_zero, List.set_cons_succ]
          refine wtake7 (by kernel_rfl) (by kernel_rfl) (by kernel_rfl) (fun _ _ _ h => h) (Or.inl ⟨by rfl, fun W _ => by go_simp; try with_reducible rfl⟩) trivial ?_
          try simp only [Act.put, List.setIfInBounds_toArray, List.set_cons_zero, List.set_cons_succ]
          refine wtake8 (by kernel_rfl) (by kernel_rfl) (by kernel_rfl) (fun _ _ _ h => h) (Or.inl ⟨by rfl, fun W _ => by go_simp; try with_reducible rfl⟩) trivial ?_
          try simp only [Act.put, List.setIfInBounds_toArray, List.set_cons_zero, List.set_cons_succ]
          refine wtake9 (by kernel_rfl) (by kernel_rfl) (by kernel_rfl) (fun _ _ _ h => h) (Or.inl ⟨by rfl, fun W _ => by go_simp; try with_reducible rfl⟩) trivial ?_
          try simp only [Act.put, List.setIfInBounds_toArray, List.set_cons_zero, List.set_cons_succ]
          refine wtake11 (by kernel_rfl) (by kernel_rfl) (by kernel_rfl) (fun _ _ _ h => h) (Or.inl ⟨by rfl, fun W _ => by go_simp; try with_reducible rfl⟩) trivial ?_
          try simp only [Act.put, List.setIfInBounds_toArray, List.set_cons_zero, List.set_cons_succ]
          refine wtake12 (by kernel_rfl) (by kernel_rfl) (by kernel_rfl) (fun _ _ _ h => h) (Or.inl ⟨by rfl, fun W _ => by go_simp; try with_reducible rfl⟩) trivial ?_
          try simp only [Act.put, List.setIfInBounds_toArray, List.set_cons_zero, List.set_cons_succ]
          refine wpAnyH_ready (rs := [4, 10]) (by kernel_rfl) (by simp) ?_
          refine wcons4 (fun K hK => ?_) (wcons10 (fun K hK => ?_) AllReadyH.nil)
          focus
            go_simp
            refine hK.out _ _ trivial (fun _ => ?_)
            clear hK K
            try simp only [Act.put, List.setIfInBounds_toArray, List.set_cons_zero, List.set_cons_succ]
            refine wtake6 (by kernel_rfl) (by kernel_rfl) (by kernel_rfl) (fun _ _ _ h => h) (Or.inl ⟨by rfl, fun W _ => by have hIi : (i : Int) ≤ (i : Int) + 1 := (by omega); go_simp; try with_reducible rfl⟩) trivial ?_
            try simp only [Act.put, List.setIfInBounds_toArray, List.set_cons_zero, List.set_cons_succ]
            refine wpAnyH_ready (rs := [10]) (by kernel_rfl) (by simp) ?_
            refine wcons10 (fun K hK => ?_) AllReadyH.nil
            go_simp
            refine hK.out _ _ trivial (fun _ => ?_)
            clear hK K
            try simp only [Act.put, List.setIfInBounds_toArray, List.set_cons_zero, List.set_cons_succ]
            refine wtake13 (by kernel_rfl) (by kernel_rfl) (by kernel_rfl) (fun _ _ _ h => h) (Or.inl ⟨by rfl, fun W _ => by go_simp; try with_reducible rfl⟩) trivial ?_
            try simp only [Act.put, List.setIfInBounds_toArray, List.set_cons_zero, List.set_cons_succ]
          rotate_left
          focus
            go_simp
            refine hK.out _ _ trivial (fun _ => ?_)
            clear hK K
            try simp only [Act.put, List.setIfInBounds_toArray, List.set_cons_zero, List.set_cons_succ]
            refine wtake13 (by kernel_rfl) (by kernel_rfl) (by kernel_rfl) (fun _ _ _ h => h) (Or.inl ⟨by rfl, fun W _ => by go_simp; try with_reducible rfl⟩) trivial ?_
            try simp only [Act.put, List.setIfInBounds_toArray, List.set_cons_zero, List.set_cons_succ]
            refine wpAnyH_ready (rs := [4]) (by kernel_rfl) (by simp) ?_
            refine wcons4 (fun K hK => ?_) AllReadyH.nil
            go_simp
            refine hK.out _ _ trivial (fun _ => ?_)
            clear hK K
            try simp only [Act.put, List.setIfInBounds_toArray, List.set_cons_zero, List.set_cons_succ]
            refine wtake6 (by kernel_rfl) (by kernel_rfl) (by kernel_rfl) (fun _ _ _ h => h) (Or.inl ⟨by rfl, fun W _ => by have hIi : (i : Int) ≤ (i : Int) + 1 := (by omega); go_simp; try with_reducible rfl⟩) trivial ?_
            try simp only [Act.put, List.setIfInBounds_toArray, List.set_cons_zero, List.set_cons_succ]
          all_goals
            have e0 : held.length - (i + 1) = 0 := by omega
            have HSN : Hid (Src Try.prog 1 30 (.slice (some ⟨nb, no, none⟩) (held.length - (i + 1)) 0) (held.length - (i + 1)) ((natC ns).drop (i + 1)) w6.drew) := by
              have hd := (HER2.out rfl).keep (Fr.drew Zero w6) (fun _ _ h => h)
              rw [Nat.mul_one] at hd
              rw [e0]
              exact hd.src Try.underlying30 (fun u hu => by have := List.mem_of_mem_drop hu; simp [natC] at this; obtain ⟨x, _, rfl⟩ := this; rfl)
            clear e0
            have HNd := hide (HNK.out.keep (Fr.drew Zero w6) (fun _ _ h => h))
            have HQe := hide (HQ5.out.quiet (Fr.drew Zero w6))
            refine wpAnyH_ready (rs := [14]) (by kernel_rfl) (by simp) ?_
            refine wcons14 (fun K hK => ?_) AllReadyH.nil
            refine step_pappend rfl (.tmp 288) (.tmp 295) 30 30 rfl Try.underlying30 infoI rfl (held.length - (i + 1)) ((natC ns).drop (i + 1)) (by simp [Act.eval]) (by simp [Act.eval] <;> omega) HNd.out HSN.out (by omega) (by omega) ?_
            intro v7 w7 hp7 hF7 hv7
            have hp7' : PRow w7 3 1 v7 (ns.eraseIdx i).length (natC (ns.eraseIdx i)) := by
              have e1 : natC (ns.eraseIdx i) = (natC ns).take (i * 1) ++ (natC ns).drop (i + 1) := by rw [List.eraseIdx_eq_take_drop_succ]; simp [natC, List.map_take, List.map_drop]
              have e2 : (ns.eraseIdx i).length = i + (held.length - (i + 1)) := by rw [List.length_eraseIdx, HL2.out, if_pos (by omega)]; omega
              rw [e1, e2]
              exact hp7
            have hF7' : Fr (Owns (Value.slice (some ⟨nb, no, none⟩) ns.length (i + 1))) w6.drew w7 := hF7
            have HQ7 := hide (HQe.out.setn hp7' hF7')
            have q1 : w7.cell? ⟨qb, 2, none⟩ = _ := (hF7'.cell (a := ⟨qb, 2, none⟩) HQe.out.lt (fun e => HQe.out.rn.ne HQe.out.q (by decide) e)).trans HQe.out.at2
            have qf1 : w7.frozen? ⟨qb, 2, none⟩ = false := free_of_heap (hF7'.keep HQe.out.q (fun e => HQe.out.rn.ne HQe.out.q (by decide) e))
            have HF7 : Hid (Fr (fun j => blockOf (Value.slice (some ⟨hb, ho, none⟩) hs2.length (i + 1)) = some j ∨ blockOf (Value.slice (some ⟨nb, no, none⟩) ns.length (i + 1)) = some j ∨ j = qb) w4 (w7.setCell ⟨qb, 2, none⟩ v7)) := (((HF5.out.mono (fun j _ e => by rcases e with e | e; exact .inl e; exact .inr (.inr e))).trans (Fr.drew _ _)).trans (hF7'.mono (fun j _ e => .inr (.inl e)))).trans (Fr.setCell (fun j => blockOf (Value.slice (some ⟨hb, ho, none⟩) hs2.length (i + 1)) = some j ∨ blockOf (Value.slice (some ⟨nb, no, none⟩) ns.length (i + 1)) = some j ∨ j = qb) w7 ⟨qb, 2, none⟩ v7 (.inr (.inr rfl)))
            have HV7 : Hid (∀ g, blockOf v7 = some g → B ≤ g) := fun g hg => by
              rcases Nat.lt_or_ge g w6.heap.size with q | q
              · exact hqb3 g (hv7 g q hg)
              · exact Nat.le_trans (Nat.le_trans (Nat.le_trans (Nat.le_trans H2.out.size HRX.out.1.size) HF4.out.size) HF5.out.size) q
            obtain ⟨ua, uc, rfl⟩ := hp7'.len
            clear hp7 hp7' hF7 hF7' hv7
            refine hK.out _ _ trivial (fun _ => ?_)
            clear hK K
            try simp only [Act.put, List.setIfInBounds_toArray, List.set_cons_zero, List.set_cons_succ]
            refine wtake15 (by kernel_rfl) (by kernel_rfl) (by kernel_rfl) (fun _ _ _ h => h) (Or.inl ⟨by rfl, fun W _ => by go_simp; try with_reducible rfl⟩) trivial ?_
            try simp only [Act.put, List.setIfInBounds_toArray, List.set_cons_zero, List.set_cons_succ]
            refine wtake16 (by kernel_rfl) (by kernel_rfl) (by kernel_rfl) (fun _ _ _ h => h) (Or.inl ⟨by rfl, fun W _ => by go_simp; try with_reducible rfl⟩) trivial ?_
            try simp only [Act.put, List.setIfInBounds_toArray, List.set_cons_zero, List.set_cons_succ]
            refine wpAnyH_ready (rs := [17]) (by kernel_rfl) (by simp) ?_
            refine wcons17 (fun K hK => ?_) AllReadyH.nil
            go_simp
            refine hK.out _ _ trivial (fun _ => ?_)
            clear hK K
            try simp only [Act.put, List.setIfInBounds_toArray, List.set_cons_zero, List.set_cons_succ]
            refine wpAnyH_done (by kernel_rfl) ?_ _
            clear q1 qf1 k2
            generalize w7.setCell ⟨qb, 2, none⟩ (Value.slice ua (ns.eraseIdx i).length uc) = w8 at *
            go_wp2_with fail
            go_ret
            have HNX : ∀ (j : Nat) (cs : Array Value) (t : TypeId) (f : Nat × Nat), w4.heap[j]? = some (.cells cs t f) → (t = 46 ∨ t = 55 ∨ t = 5 ∨ t = 62) → ¬ (blockOf (Value.slice (some ⟨hb, ho, none⟩) hs2.length (i + 1)) = some j ∨ blockOf (Value.slice (some ⟨nb, no, none⟩) ns.length (i + 1)) = some j ∨ j = qb) := fun j cs t f hj ht e => by
              rcases e with e | e | e
              · exact HQ4.out.rh.ne hj (by rcases ht with rfl | rfl | rfl | rfl <;> decide) e
              · exact HQ4.out.rn.ne hj (by rcases ht with rfl | rfl | rfl | rfl <;> decide) e
              · rw [e, HQ4.out.q] at hj
                simp at hj
                rw [← hj.2.1] at ht
                rcases ht with h | h | h | h <;> exact absurd h (by decide)
            have hM8 := HM4.out.1.keep HF7.out HNX
            have hFB : Fr (From B) w w8 := ((((HF0.out.trans HFd.out).trans HF2.out).of0.trans HRX.out.1).trans HF4.out.of0).trans (HF7.out.mono (fun j _ e => by
              rcases e with e | e | e
              · exact hqb2 j e
              · exact hqb3 j e
              · rw [e]; exact H0.out.qB))
            have he1 : (held.eraseIdx i).map (fun x => x.2) = hs2.eraseIdx i := by rw [← HH2.out, List.eraseIdx_eq_take_drop_succ, List.eraseIdx_eq_take_drop_succ]; simp [List.map_take, List.map_drop]
            have he2 : (held.eraseIdx i).map (fun x => x.1) = ns.eraseIdx i := by rw [← HNS.out, List.eraseIdx_eq_take_drop_succ, List.eraseIdx_eq_take_drop_succ]; simp [List.map_take, List.map_drop]
            refine ⟨rfl, hFB, R', N, waits, held.eraseIdx i, ⟨hM8.1, HFR.out, ⟨wv, _, _, by rw [he1, he2]; exact HQ7.out, hqb1, HV5.out, HV7.out⟩, HV3.out, fun j hj => HRX.out.2 j ((HM4.out.2 j).1 ((hM8.2 j).1 hj)), H0.out.qB, Nat.le_trans H.out.size hFB.size⟩, HGG.out, by omega, rfl, rfl, fun _ => ?_⟩
            rw [List.length_eraseIdx, if_pos hil]
            omega
        · have hy2 : i + 1 < nc := by omega
          have hy3 : ¬ nc = i + 1 := by omega
          refine wp_region_held_drew (S := fun _ => True) (by kernel_rfl) trivial (fun hT => ?_)
          refine wtake0 (by kernel_rfl) (by kernel_rfl) (by kernel_rfl) (fun _ _ _ h => h) (Or.inl ⟨by rfl, fun W _ => by go_simp; try with_reducible rfl⟩) trivial ?_
          try simp only [Act.put, List.setIfInBounds_toArray, List.set_cons_zero, List.set_cons_succ]
          refine wtake1 (by kernel_rfl) (by kernel_rfl) (by kernel_rfl) (fun _ _ _ h => h) (Or.inl ⟨by rfl, fun W _ => by go_simp; try with_reducible rfl⟩) trivial ?_
          try simp only [Act.put, List.setIfInBounds_toArray, List.set_cons_zero, List.set_cons_succ]
          refine wtake2 (by kernel_rfl) (by kernel_rfl) (by kernel_rfl) (fun _ _ _ h => h) (Or.inl ⟨by rfl, fun W _ => by go_simp; try with_reducible rfl⟩) trivial ?_
          try simp only [Act.put, List.setIfInBounds_toArray, List.set_cons_zero, List.set_cons_succ]
          refine wtake3 (by kernel_rfl) (by kernel_rfl) (by kernel_rfl) (fun _ _ _ h => h) (Or.inl ⟨by rfl, fun W _ => by go_simp; try with_reducible rfl⟩) trivial ?_
          try simp only [Act.put, List.setIfInBounds_toArray, List.set_cons_zero, List.set_cons_succ]
          refine wtake5 (by kernel_rfl) (by kernel_rfl) (by kernel_rfl) (fun _ _ _ h => h) (Or.inl ⟨by rfl, fun W _ => by go_simp; try with_reducible rfl⟩) trivial ?_
          try simp only [Act.put, List.setIfInBounds_toArray, List.set_cons_zero, List.set_cons_succ]
          refine wtake7 (by kernel_rfl) (by kernel_rfl) (by kernel_rfl) (fun _ _ _ h => h) (Or.inl ⟨by rfl, fun W _ => by go_simp; try with_reducible rfl⟩) trivial ?_
          try simp only [Act.put, List.setIfInBounds_toArray, List.set_cons_zero, List.set_cons_succ]
          refine wtake8 (by kernel_rfl) (by kernel_rfl) (by kernel_rfl) (fun _ _ _ h => h) (Or.inl ⟨by rfl, fun W _ => by go_simp; try with_reducible rfl⟩) trivial ?_
          try simp only [Act.put, List.setIfInBounds_toArray, List.set_cons_zero, List.set_cons_succ]
          refine wtake9 (by kernel_rfl) (by kernel_rfl) (by kernel_rfl) (fun _ _ _ h => h) (Or.inl ⟨by rfl, fun W _ => by go_simp; try with_reducible rfl⟩) trivial ?_
          try simp only [Act.put, List.setIfInBounds_toArray, List.set_cons_zero, List.set_cons_succ]
          refine wtake11 (by kernel_rfl) (by kernel_rfl) (by kernel_rfl) (fun _ _ _ h => h) (Or.inl ⟨by rfl, fun W _ => by go_simp; try with_reducible rfl⟩) trivial ?_
          try simp only [Act.put, List.setIfInBounds_toArray, List.set_cons_zero, List.set_cons_succ]
          refine wtake12 (by kernel_rfl) (by kernel_rfl) (by kernel_rfl) (fun _ _ _ h => h) (Or.inl ⟨by rfl, fun W _ => by go_simp; try with_reducible rfl⟩) trivial ?_
          try simp only [Act.put, List.setIfInBounds_toArray, List.set_cons_zero, List.set_cons_succ]
          refine wpAnyH_ready (rs := [4, 10]) (by kernel_rfl) (by simp) ?_
          refine wcons4 (fun K hK => ?_) (wcons10 (fun K hK => ?_) AllReadyH.nil)
          focus
            go_simp
            refine hK.out _ _ trivial (fun _ => ?_)
            clear hK K
            try simp only [Act.put, List.setIfInBounds_toArray, List.set_cons_zero, List.set_cons_succ]
            refine wtake6 (by kernel_rfl) (by kernel_rfl) (by kernel_rfl) (fun _ _ _ h => h) (Or.inl ⟨by rfl, fun W _ => by go_simp; try with_reducible rfl⟩) trivial ?_
            try simp only [Act.put, List.setIfInBounds_toArray, List.set_cons_zero, List.set_cons_succ]
            refine wpAnyH_ready (rs := [10]) (by kernel_rfl) (by simp) ?_
            refine wcons10 (fun K hK => ?_) AllReadyH.nil
            go_simp
            refine hK.out _ _ trivial (fun _ => ?_)
            clear hK K
            try simp only [Act.put, List.setIfInBounds_toArray, List.set_cons_zero, List.set_cons_succ]
            refine wtake13 (by kernel_rfl) (by kernel_rfl) (by kernel_rfl) (fun _ _ _ h => h) (Or.inl ⟨by rfl, fun W _ => by go_simp; try with_reducible rfl⟩) trivial ?_
            try simp only [Act.put, List.setIfInBounds_toArray, List.set_cons_zero, List.set_cons_succ]
          rotate_left
          focus
            go_simp
            refine hK.out _ _ trivial (fun _ => ?_)
            clear hK K
            try simp only [Act.put, List.setIfInBounds_toArray, List.set_cons_zero, List.set_cons_succ]
            refine wtake13 (by kernel_rfl) (by kernel_rfl) (by kernel_rfl) (fun _ _ _ h => h) (Or.inl ⟨by rfl, fun W _ => by go_simp; try with_reducible rfl⟩) trivial ?_
            try simp only [Act.put, List.setIfInBounds_toArray, List.set_cons_zero, List.set_cons_succ]
            refine wpAnyH_ready (rs := [4]) (by kernel_rfl) (by simp) ?_
            refine wcons4 (fun K hK => ?_) AllReadyH.nil
            go_simp
            refine hK.out _ _ trivial (fun _ => ?_)
            clear hK K
            try simp only [Act.put, List.setIfInBounds_toArray, List.set_cons_zero, List.set_cons_succ]
            refine wtake6 (by kernel_rfl) (by kernel_rfl) (by kernel_rfl) (fun _ _ _ h => h) (Or.inl ⟨by rfl, fun W _ => by go_simp; try with_reducible rfl⟩) trivial ?_
            try simp only [Act.put, List.setIfInBounds_toArray, List.set_cons_zero, List.set_cons_succ]
          all_goals
            have HSN : Hid (Src Try.prog 1 30 (.slice (some ⟨nb, no + (i + 1), none⟩) (held.length - (i + 1)) (nc - (i + 1))) (held.length - (i + 1)) ((natC ns).drop (i + 1)) w6.drew) := by
              have hd := (HER1.out hy2).keep (Fr.drew Zero w6) (fun _ _ h => h)
              rw [Nat.mul_one] at hd
              rw [HL2.out] at hd
              exact hd.src Try.underlying30 (fun u hu => by have := List.mem_of_mem_drop hu; simp [natC] at this; obtain ⟨x, _, rfl⟩ := this; rfl)
            have HNd := hide (HNK.out.keep (Fr.drew Zero w6) (fun _ _ h => h))
            have HQe := hide (HQ5.out.quiet (Fr.drew Zero w6))
            refine wpAnyH_ready (rs := [14]) (by kernel_rfl) (by simp) ?_
            refine wcons14 (fun K hK => ?_) AllReadyH.nil
            refine step_pappend rfl (.tmp 288) (.tmp 295) 30 30 rfl Try.underlying30 infoI rfl (held.length - (i + 1)) ((natC ns).drop (i + 1)) (by simp [Act.eval]) (by simp [Act.eval] <;> omega) HNd.out HSN.out (by omega) (by omega) ?_
            intro v7 w7 hp7 hF7 hv7
            have hp7' : PRow w7 3 1 v7 (ns.eraseIdx i).length (natC (ns.eraseIdx i)) := by
              have e1 : natC (ns.eraseIdx i) = (natC ns).take (i * 1) ++ (natC ns).drop (i + 1) := by rw [List.eraseIdx_eq_take_drop_succ]; simp [natC, List.map_take, List.map_drop]
              have e2 : (ns.eraseIdx i).length = i + (held.length - (i + 1)) := by rw [List.length_eraseIdx, HL2.out, if_pos (by omega)]; omega
              rw [e1, e2]
              exact hp7
            have hF7' : Fr (Owns (Value.slice (some ⟨nb, no, none⟩) ns.length nc)) w6.drew w7 := hF7
            have HQ7 := hide (HQe.out.setn hp7' hF7')
            have q1 : w7.cell? ⟨qb, 2, none⟩ = _ := (hF7'.cell (a := ⟨qb, 2, none⟩) HQe.out.lt (fun e => HQe.out.rn.ne HQe.out.q (by decide) e)).trans HQe.out.at2
            have qf1 : w7.frozen? ⟨qb, 2, none⟩ = false := free_of_heap (hF7'.keep HQe.out.q (fun e => HQe.out.rn.ne HQe.out.q (by decide) e))
            have HF7 : Hid (Fr (fun j => blockOf (Value.slice (some ⟨hb, ho, none⟩) hs2.length (i + 1)) = some j ∨ blockOf (Value.slice (some ⟨nb, no, none⟩) ns.length nc) = some j ∨ j = qb) w4 (w7.setCell ⟨qb, 2, none⟩ v7)) := (((HF5.out.mono (fun j _ e => by rcases e with e | e; exact .inl e; exact .inr (.inr e))).trans (Fr.drew _ _)).trans (hF7'.mono (fun j _ e => .inr (.inl e)))).trans (Fr.setCell (fun j => blockOf (Value.slice (some ⟨hb, ho, none⟩) hs2.length (i + 1)) = some j ∨ blockOf (Value.slice (some ⟨nb, no, none⟩) ns.length nc) = some j ∨ j = qb) w7 ⟨qb, 2, none⟩ v7 (.inr (.inr rfl)))
            have HV7 : Hid (∀ g, blockOf v7 = some g → B ≤ g) := fun g hg => by
              rcases Nat.lt_or_ge g w6.heap.size with q | q
              · exact hqb3 g (hv7 g q hg)
              · exact Nat.le_trans (Nat.le_trans (Nat.le_trans (Nat.le_trans H2.out.size HRX.out.1.size) HF4.out.size) HF5.out.size) q
            obtain ⟨ua, uc, rfl⟩ := hp7'.len
            clear hp7 hp7' hF7 hF7' hv7
            refine hK.out _ _ trivial (fun _ => ?_)
            clear hK K
            try simp only [Act.put, List.setIfInBounds_toArray, List.set_cons_zero, List.set_cons_succ]
            refine wtake15 (by kernel_rfl) (by kernel_rfl) (by kernel_rfl) (fun _ _ _ h => h) (Or.inl ⟨by rfl, fun W _ => by go_simp; try with_reducible rfl⟩) trivial ?_
            try simp only [Act.put, List.setIfInBounds_toArray, List.set_cons_zero, List.set_cons_succ]
            refine wtake16 (by kernel_rfl) (by kernel_rfl) (by kernel_rfl) (fun _ _ _ h => h) (Or.inl ⟨by rfl, fun W _ => by go_simp; try with_reducible rfl⟩) trivial ?_
            try simp only [Act.put, List.setIfInBounds_toArray, List.set_cons_zero, List.set_cons_succ]
            refine wpAnyH_ready (rs := [17]) (by kernel_rfl) (by simp) ?_
            refine wcons17 (fun K hK => ?_) AllReadyH.nil
            go_simp
            refine hK.out _ _ trivial (fun _ => ?_)
            clear hK K
            try simp only [Act.put, List.setIfInBounds_toArray, List.set_cons_zero, List.set_cons_succ]
            refine wpAnyH_done (by kernel_rfl) ?_ _
            clear q1 qf1 k2
            generalize w7.setCell ⟨qb, 2, none⟩ (Value.slice ua (ns.eraseIdx i).length uc) = w8 at *
            go_wp2_with fail
            go_ret
            have HNX : ∀ (j : Nat) (cs : Array Value) (t : TypeId) (f : Nat × Nat), w4.heap[j]? = some (.cells cs t f) → (t = 46 ∨ t = 55 ∨ t = 5 ∨ t = 62) → ¬ (blockOf (Value.slice (some ⟨hb, ho, none⟩) hs2.length (i + 1)) = some j ∨ blockOf (Value.slice (some ⟨nb, no, none⟩) ns.length nc) = some j ∨ j = qb) := fun j cs t f hj ht e => by
              rcases e with e | e | e
              · exact HQ4.out.rh.ne hj (by rcases ht with rfl | rfl | rfl | rfl <;> decide) e
              · exact HQ4.out.rn.ne hj (by rcases ht with rfl | rfl | rfl | rfl <;> decide) e
              · rw [e, HQ4.out.q] at hj
                simp at hj
                rw [← hj.2.1] at ht
                rcases ht with h | h | h | h <;> exact absurd h (by decide)
            have hM8 := HM4.out.1.keep HF7.out HNX
            have hFB : Fr (From B) w w8 := ((((HF0.out.trans HFd.out).trans HF2.out).of0.trans HRX.out.1).trans HF4.out.of0).trans (HF7.out.mono (fun j _ e => by
              rcases e with e | e | e
              · exact hqb2 j e
              · exact hqb3 j e
              · rw [e]; exact H0.out.qB))
            have he1 : (held.eraseIdx i).map (fun x => x.2) = hs2.eraseIdx i := by rw [← HH2.out, List.eraseIdx_eq_take_drop_succ, List.eraseIdx_eq_take_drop_succ]; simp [List.map_take, List.map_drop]
            have he2 : (held.eraseIdx i).map (fun x => x.1) = ns.eraseIdx i := by rw [← HNS.out, List.eraseIdx_eq_take_drop_succ, List.eraseIdx_eq_take_drop_succ]; simp [List.map_take, List.map_drop]
            refine ⟨rfl, hFB, R', N, waits, held.eraseIdx i, ⟨hM8.1, HFR.out, ⟨wv, _, _, by rw [he1, he2]; exact HQ7.out, hqb1, HV5.out, HV7.out⟩, HV3.out, fun j hj => HRX.out.2 j ((HM4.out.2 j).1 ((hM8.2 j).1 hj)), H0.out.qB, Nat.le_trans H.out.size hFB.size⟩, HGG.out, by omega, rfl, rfl, fun _ => ?_⟩
            rw [List.length_eraseIdx, if_pos hil]
            omega
    · have hx2 : i + 1 < hc := by omega
      have hx3 : ¬ hc = i + 1 := by omega
      refine wp_region_held_drew (S := fun _ => True) (by kernel_rfl) trivial (fun hT => ?_)
      refine wtake0 (by kernel_rfl) (by kernel_rfl) (by kernel_rfl) (fun _ _ _ h => h) (Or.inl ⟨by rfl, fun W _ => by go_simp; try with_reducible rfl⟩) trivial ?_
      try simp only [Act.put, List.setIfInBounds_toArray, List.set_cons_zero, List.set_cons_succ]
      refine wtake1 (by kernel_rfl) (by kernel_rfl) (by kernel_rfl) (fun _ _ _ h => h) (Or.inl ⟨by rfl, fun W _ => by go_simp; try with_reducible rfl⟩) trivial ?_
      try simp only [Act.put, List.setIfInBounds_toArray, List.set_cons_zero, List.set_cons_succ]
      refine wtake2 (by kernel_rfl) (by kernel_rfl) (by kernel_rfl) (fun _ _ _ h => h) (Or.inl ⟨by rfl, fun W _ => by go_simp; try with_reducible rfl⟩) trivial ?_
      try simp only [Act.put, List.setIfInBounds_toArray, List.set_cons_zero, List.set_cons_succ]
      refine wtake3 (by kernel_rfl) (by kernel_rfl) (by kernel_rfl) (fun _ _ _ h => h) (Or.inl ⟨by rfl, fun W _ => by go_simp; try with_reducible rfl⟩) trivial ?_
      try simp only [Act.put, List.setIfInBounds_toArray, List.set_cons_zero, List.set_cons_succ]
      refine wtake5 (by kernel_rfl) (by kernel_rfl) (by kernel_rfl) (fun _ _ _ h => h) (Or.inl ⟨by rfl, fun W _ => by go_simp; try with_reducible rfl⟩) trivial ?_
      try simp only [Act.put, List.setIfInBounds_toArray, List.set_cons_zero, List.set_cons_succ]
      refine wtake7 (by kernel_rfl) (by kernel_rfl) (by kernel_rfl) (fun _ _ _ h => h) (Or.inl ⟨by rfl, fun W _ => by go_simp; try with_reducible rfl⟩) trivial ?_
      try simp only [Act.put, List.setIfInBounds_toArray, List.set_cons_zero, List.set_cons_succ]
      refine wtake8 (by kernel_rfl) (by kernel_rfl) (by kernel_rfl) (fun _ _ _ h => h) (Or.inl ⟨by rfl, fun W _ => by go_simp; try with_reducible rfl⟩) trivial ?_
      try simp only [Act.put, List.setIfInBounds_toArray, List.set_cons_zero, List.set_cons_succ]
      refine wtake9 (by kernel_rfl) (by kernel_rfl) (by kernel_rfl) (fun _ _ _ h => h) (Or.inl ⟨by rfl, fun W _ => by go_simp; try with_reducible rfl⟩) trivial ?_
      try simp only [Act.put, List.setIfInBounds_toArray, List.set_cons_zero, List.set_cons_succ]
      refine wtake11 (by kernel_rfl) (by kernel_rfl) (by kernel_rfl) (fun _ _ _ h => h) (Or.inl ⟨by rfl, fun W _ => by go_simp; try with_reducible rfl⟩) trivial ?_
      try simp only [Act.put, List.setIfInBounds_toArray, List.set_cons_zero, List.set_cons_succ]
      refine wtake12 (by kernel_rfl) (by kernel_rfl) (by kernel_rfl) (fun _ _ _ h => h) (Or.inl ⟨by rfl, fun W _ => by go_simp; try with_reducible rfl⟩) trivial ?_
      try simp only [Act.put, List.setIfInBounds_toArray, List.set_cons_zero, List.set_cons_succ]
      refine wpAnyH_ready (rs := [4, 10]) (by kernel_rfl) (by simp) ?_
      refine wcons4 (fun K hK => ?_) (wcons10 (fun K hK => ?_) AllReadyH.nil)
      focus
        go_simp
        refine hK.out _ _ trivial (fun _ => ?_)
        clear hK K
        try simp only [Act.put, List.setIfInBounds_toArray, List.set_cons_zero, List.set_cons_succ]
        refine wtake6 (by kernel_rfl) (by kernel_rfl) (by kernel_rfl) (fun _ _ _ h => h) (Or.inl ⟨by rfl, fun W _ => by go_simp; try with_reducible rfl⟩) trivial ?_
        try simp only [Act.put, List.setIfInBounds_toArray, List.set_cons_zero, List.set_cons_succ]
        refine wpAnyH_ready (rs := [10]) (by kernel_rfl) (by simp) ?_
        refine wcons10 (fun K hK => ?_) AllReadyH.nil
        go_simp
        refine hK.out _ _ trivial (fun _ => ?_)
        clear hK K
        try simp only [Act.put, List.setIfInBounds_toArray, List.set_cons_zero, List.set_cons_succ]
        refine wtake13 (by kernel_rfl) (by kernel_rfl) (by kernel_rfl) (fun _ _ _ h => h) (Or.inl ⟨by rfl, fun W _ => by go_simp; try with_reducible rfl⟩) trivial ?_
        try simp only [Act.put, List.setIfInBounds_toArray, List.set_cons_zero, List.set_cons_succ]
      rotate_left
      focus
        go_simp
        refine hK.out _ _ trivial (fun _ => ?_)
        clear hK K
        try simp only [Act.put, List.setIfInBounds_toArray, List.set_cons_zero, List.set_cons_succ]
        refine wtake13 (by kernel_rfl) (by kernel_rfl) (by kernel_rfl) (fun _ _ _ h => h) (Or.inl ⟨by rfl, fun W _ => by go_simp; try with_reducible rfl⟩) trivial ?_
        try simp only [Act.put, List.setIfInBounds_toArray, List.set_cons_zero, List.set_cons_succ]
        refine wpAnyH_ready (rs := [4]) (by kernel_rfl) (by simp) ?_
        refine wcons4 (fun K hK => ?_) AllReadyH.nil
        go_simp
        refine hK.out _ _ trivial (fun _ => ?_)
        clear hK K
        try simp only [Act.put, List.setIfInBounds_toArray, List.set_cons_zero, List.set_cons_succ]
        refine wtake6 (by kernel_rfl) (by kernel_rfl) (by kernel_rfl) (fun _ _ _ h => h) (Or.inl ⟨by rfl, fun W _ => by go_simp; try with_reducible rfl⟩) trivial ?_
        try simp only [Act.put, List.setIfInBounds_toArray, List.set_cons_zero, List.set_cons_succ]
      all_goals
        have HSR : Hid (Src Try.prog 1 29 (.slice (some ⟨hb, ho + (i + 1), none⟩) (held.length - (i + 1)) (hc - (i + 1))) (held.length - (i + 1)) ((strC hs2).drop (i + 1)) w4.drew) := by
          have hd := (HDR1.out hx2).keep (Fr.drew Zero w4) (fun _ _ h => h)
          rw [Nat.mul_one] at hd
          rw [HL1.out] at hd
          exact hd.src Try.underlying29 (fun u hu => by have := List.mem_of_mem_drop hu; simp [strC] at this; obtain ⟨x, _, rfl⟩ := this; rfl)
        have HTd := hide (HTK.out.keep (Fr.drew Zero w4) (fun _ _ h => h))
        have HQd := hide (HQ4.out.quiet (Fr.drew Zero w4))
        refine wpAnyH_ready (rs := [14]) (by kernel_rfl) (by simp) ?_
        refine wcons14 (fun K hK => ?_) AllReadyH.nil
        refine step_pappend rfl (.tmp 271) (.tmp 278) 29 29 rfl Try.underlying29 infoS rfl (held.length - (i + 1)) ((strC hs2).drop (i + 1)) (by simp [Act.eval]) (by simp [Act.eval] <;> omega) HTd.out HSR.out (by omega) (by omega) ?_
        intro v5 w5 hp5 hF5 hv5
        have hp5' : PRow w5 9 1 v5 (hs2.eraseIdx i).length (strC (hs2.eraseIdx i)) := by
          have e1 : strC (hs2.eraseIdx i) = (strC hs2).take (i * 1) ++ (strC hs2).drop (i + 1) := by rw [List.eraseIdx_eq_take_drop_succ]; simp [strC, List.map_take, List.map_drop]
          have e2 : (hs2.eraseIdx i).length = i + (held.length - (i + 1)) := by rw [List.length_eraseIdx, HL1.out, if_pos (by omega)]; omega
          rw [e1, e2]
          exact hp5
        have hF5' : Fr (Owns (Value.slice (some ⟨hb, ho, none⟩) hs2.length hc)) w4.drew w5 := hF5
        have HQ5 := hide (HQd.out.seth hp5' hF5' hv5)
        have q1 : w5.cell? ⟨qb, 1, none⟩ = _ := (hF5'.cell (a := ⟨qb, 1, none⟩) HQd.out.lt (fun e => HQd.out.rh.ne HQd.out.q (by decide) e)).trans HQd.out.at1
        have qf1 : w5.frozen? ⟨qb, 1, none⟩ = false := free_of_heap (hF5'.keep HQd.out.q (fun e => HQd.out.rh.ne HQd.out.q (by decide) e))
        have HF5 : Hid (Fr (fun j => blockOf (Value.slice (some ⟨hb, ho, none⟩) hs2.length hc) = some j ∨ j = qb) w4 (w5.setCell ⟨qb, 1, none⟩ v5)) := ((Fr.drew _ _).trans (hF5'.mono (fun j _ e => .inl e))).trans (Fr.setCell (fun j => blockOf (Value.slice (some ⟨hb, ho, none⟩) hs2.length hc) = some j ∨ j = qb) w5 ⟨qb, 1, none⟩ v5 (.inr rfl))
        have HV5 : Hid (∀ g, blockOf v5 = some g → B ≤ g) := fun g hg => by
          rcases Nat.lt_or_ge g w4.heap.size with q | q
          · exact hqb2 g (hv5 g q hg)
          · exact Nat.le_trans (Nat.le_trans (Nat.le_trans H2.out.size HRX.out.1.size) HF4.out.size) q
        obtain ⟨va, vc, rfl⟩ := hp5'.len
        clear hp5 hp5' hF5 hF5' hv5
        refine hK.out _ _ trivial (fun _ => ?_)
        clear hK K
        try simp only [Act.put, List.setIfInBounds_toArray, List.set_cons_zero, List.set_cons_succ]
        refine wtake15 (by kernel_rfl) (by kernel_rfl) (by kernel_rfl) (fun _ _ _ h => h) (Or.inl ⟨by rfl, fun W _ => by go_simp; try with_reducible rfl⟩) trivial ?_
        try simp only [Act.put, List.setIfInBounds_toArray, List.set_cons_zero, List.set_cons_succ]
        refine wtake16 (by kernel_rfl) (by kernel_rfl) (by kernel_rfl) (fun _ _ _ h => h) (Or.inl ⟨by rfl, fun W _ => by go_simp; try with_reducible rfl⟩) trivial ?_
        try simp only [Act.put, List.setIfInBounds_toArray, List.set_cons_zero, List.set_cons_succ]
        refine wpAnyH_ready (rs := [17]) (by kernel_rfl) (by simp) ?_
        refine wcons17 (fun K hK => ?_) AllReadyH.nil
        go_simp
        refine hK.out _ _ trivial (fun _ => ?_)
        clear hK K
        try simp only [Act.put, List.setIfInBounds_toArray, List.set_cons_zero, List.set_cons_succ]
        refine wpAnyH_done (by kernel_rfl) ?_ _
        clear q1 qf1 k1
        generalize w5.setCell ⟨qb, 1, none⟩ (Value.slice va (hs2.eraseIdx i).length vc) = w6 at *
        obtain ⟨nb', no', nc', eh, hnc, hdr1, hdr2⟩ := HQ5.out.rn.drop (m := i + 1) (by have := HL2.out; omega) (by have := HL2.out; omega)
        simp at eh
        obtain ⟨⟨rfl, rfl⟩, rfl⟩ := eh
        obtain ⟨ta, tc, et, htk⟩ := HQ5.out.rn.take (m := i) (by have := HL2.out; omega)
        simp at et
        obtain ⟨rfl, rfl⟩ := et
        have HNK := hide (htk (by have := HL2.out; omega)).2
        have HER1 := hide hdr1
        have HER2 := hide hdr2
        have k2 : w6.cell? ⟨qb, 2, none⟩ = some (.slice (some ⟨nb, no, none⟩) held.length nc) := by rw [← HL2.out]; exact HQ5.out.at2
        have hJc : (i : Int) ≤ (nc : Int) := by have := HL2.out; omega
        have hnlc : held.length ≤ nc := by have := HL2.out; omega
        clear htk hdr1 hdr2 hnc
        go_wp2_with fail
        by_cases hy : i + 1 = nc
        · subst hy
          refine wp_region_held_drew (S := fun _ => True) (by kernel_rfl) trivial (fun hT => ?_)
          refine wtake0 (by kernel_rfl) (by kernel_rfl) (by kernel_rfl) (fun _ _ _ h => h) (Or.inl ⟨by rfl, fun W _ => by go_simp; try with_reducible rfl⟩) trivial ?_
          try simp only [Act.put, List.setIfInBounds_toArray, List.set_cons_zero, List.set_cons_succ]
          refine wtake1 (by kernel_rfl) (by kernel_rfl) (by kernel_rfl) (fun _ _ _ h => h) (Or.inl ⟨by rfl, fun W _ => by go_simp; try with_reducible rfl⟩) trivial ?_
          try simp only [Act.put, List.setIfInBounds_toArray, List.set_cons_zero, List.set_cons_succ]
          refine wtake2 (by kernel_rfl) (by kernel_rfl) (by kernel_rfl) (fun _ _ _ h => h) (Or.inl ⟨by rfl, fun W _ => by go_simp; try with_reducible rfl⟩) trivial ?_
          try simp only [Act.put, List.setIfInBounds_toArray, List.set_cons_zero, List.set_cons_succ]
          refine wtake3 (by kernel_rfl) (by kernel_rfl) (by kernel_rfl) (fun _ _ _ h => h) (Or.inl ⟨by rfl, fun W _ => by go_simp; try with_reducible rfl⟩) trivial ?_
          try simp only [Act.put, List.setIfInBounds_toArray, List.set_cons_zero, List.set_cons_succ]
          refine wtake5 (by kernel_rfl) (by kernel_rfl) (by kernel_rfl) (fun _ _ _ h => h) (Or.inl ⟨by rfl, fun W _ => by go_simp; try with_reducible rfl⟩) trivial ?_
          try simp only [Act.put, List.setIfInBounds_toArray, List.set_cons_zero, List.set_cons_succ]
          refine wtake7 (by kernel_rfl) (by kernel_rfl) (by kernel_rfl) (fun _ _ _ h => h) (Or.inl ⟨by rfl, fun W _ => by go_simp; try with_reducible rfl⟩) trivial ?_
          try simp only [Act.put, List.setIfInBounds_toArray, List.set_cons_zero, List.set_cons_succ]
          refine wtake8 (by kernel_rfl) (by kernel_rfl) (by kernel_rfl) (fun _ _ _ h => h) (Or.inl ⟨by rfl, fun W _ => by go_simp; try with_reducible rfl⟩) trivial ?_
          try simp only [Act.put, List.setIfInBounds_toArray, List.set_cons_zero, List.set_cons_succ]
          refine wtake9 (by kernel_rfl) (by kernel_rfl) (by kernel_rfl) (fun _ _ _ h => h) (Or.inl ⟨by rfl, fun W _ => by go_simp; try with_reducible rfl⟩) trivial ?_
          try simp only [Act.put, List.setIfInBounds_toArray, List.set_cons_zero, List.set_cons_succ]
          refine wtake11 (by kernel_rfl) (by kernel_rfl) (by kernel_rfl) (fun _ _ _ h => h) (Or.inl ⟨by rfl, fun W _ => by go_simp; try with_reducible rfl⟩) trivial ?_
          try simp only [Act.put, List.setIfInBounds_toArray, List.set_cons_zero, List.set_cons_succ]
          refine wtake12 (by kernel_rfl) (by kernel_rfl) (by kernel_rfl) (fun _ _ _ h => h) (Or.inl ⟨by rfl, fun W _ => by go_simp; try with_reducible rfl⟩) trivial ?_
          try simp only [Act.put, List.setIfInBounds_toArray, List.set_cons_zero, List.set_cons_succ]
          refine wpAnyH_ready (rs := [4, 10]) (by kernel_rfl) (by simp) ?_
          refine wcons4 (fun K hK => ?_) (wcons10 (fun K hK => ?_) AllReadyH.nil)
          focus
            go_simp
            refine hK.out _ _ trivial (fun _ => ?_)
            clear hK K
            try simp only [Act.put, List.setIfInBounds_toArray, List.set_cons_zero, List.set_cons_succ]
            refine wtake6 (by kernel_rfl) (by kernel_rfl) (by kernel_rfl) (fun _ _ _ h => h) (Or.inl ⟨by rfl, fun W _ => by have hIi : (i : Int) ≤ (i : Int) + 1 := (by omega); go_simp; try with_reducible rfl⟩) trivial ?_
            try simp only [Act.put, List.setIfInBounds_toArray, List.set_cons_zero, List.set_cons_succ]
            refine wpAnyH_ready (rs := [10]) (by kernel_rfl) (by simp) ?_
            refine wcons10 (fun K hK => ?_) AllReadyH.nil
            go_simp
            refine hK.out _ _ trivial (fun _ => ?_)
            clear hK K
            try simp only [Act.put, List.setIfInBounds_toArray, List.set_cons_zero, List.set_cons_succ]
            refine wtake13 (by kernel_rfl) (by kernel_rfl) (by kernel_rfl) (fun _ _ _ h => h) (Or.inl ⟨by rfl, fun W _ => by go_simp; try with_reducible rfl⟩) trivial ?_
            try simp only [Act.put, List.setIfInBounds_toArray, List.set_cons_zero, List.set_cons_succ]
          rotate_left
          focus
            go_simp
            refine hK.out _ _ trivial (fun _ => ?_)
            clear hK K
            try simp only [Act.put, List.setIfInBounds_toArray, List.set_cons_zero, List.set_cons_succ]
            refine wtake13 (by kernel_rfl) (by kernel_rfl) (by kernel_rfl) (fun _ _ _ h => h) (Or.inl ⟨by rfl, fun W _ => by go_simp; try with_reducible rfl⟩) trivial ?_
            try simp only [Act.put, List.setIfInBounds_toArray, List.set_cons_zero, List.set_cons_succ]
            refine wpAnyH_ready (rs := [4]) (by kernel_rfl) (by simp) ?_
            refine wcons4 (fun K hK => ?_) AllReadyH.nil
            go_simp
            refine hK.out _ _ trivial (fun _ => ?_)
            clear hK K
            try simp only [Act.put, List.setIfInBounds_toArray, List.set_cons_zero, List.set_cons_succ]
            refine wtake6 (by kernel_rfl) (by kernel_rfl) (by kernel_rfl) (fun _ _ _ h => h) (Or.inl ⟨by rfl, fun W _ => by have hIi : (i : Int) ≤ (i : Int) + 1 := (by omega); go_simp; try with_reducible rfl⟩) trivial ?_
            try simp only [Act.put, List.setIfInBounds_toArray, List.set_cons_zero, List.set_cons_succ]
          all_goals
            have e0 : held.length - (i + 1) = 0 := by omega
            have HSN : Hid (Src Try.prog 1 30 (.slice (some ⟨nb, no, none⟩) (held.length - (i + 1)) 0) (held.length - (i + 1)) ((natC ns).drop (i + 1)) w6.drew) := by
              have hd := (HER2.out rfl).keep (Fr.drew Zero w6) (fun _ _ h => h)
              rw [Nat.mul_one] at hd
              rw [e0]
              exact hd.src Try.underlying30 (fun u hu => by have := List.mem_of_mem_drop hu; simp [natC] at this; obtain ⟨x, _, rfl⟩ := this; rfl)
            clear e0
            have HNd := hide (HNK.out.keep (Fr.drew Zero w6) (fun _ _ h => h))
            have HQe := hide (HQ5.out.quiet (Fr.drew Zero w6))
            refine wpAnyH_ready (rs := [14]) (by kernel_rfl) (by simp) ?_
            refine wcons14 (fun K hK => ?_) AllReadyH.nil
            refine step_pappend rfl (.tmp 288) (.tmp 295) 30 30 rfl Try.underlying30 infoI rfl (held.length - (i + 1)) ((natC ns).drop (i + 1)) (by simp [Act.eval]) (by simp [Act.eval] <;> omega) HNd.out HSN.out (by omega) (by omega) ?_
            intro v7 w7 hp7 hF7 hv7
            have hp7' : PRow w7 3 1 v7 (ns.eraseIdx i).length (natC (ns.eraseIdx i)) := by
              have e1 : natC (ns.eraseIdx i) = (natC ns).take (i * 1) ++ (natC ns).drop (i + 1) := by rw [List.eraseIdx_eq_take_drop_succ]; simp [natC, List.map_take, List.map_drop]
              have e2 : (ns.eraseIdx i).length = i + (held.length - (i + 1)) := by rw [List.length_eraseIdx, HL2.out, if_pos (by omega)]; omega
              rw [e1, e2]
              exact hp7
            have hF7' : Fr (Owns (Value.slice (some ⟨nb, no, none⟩) ns.length (i + 1))) w6.drew w7 := hF7
            have HQ7 := hide (HQe.out.setn hp7' hF7')
            have q1 : w7.cell? ⟨qb, 2, none⟩ = _ := (hF7'.cell (a := ⟨qb, 2, none⟩) HQe.out.lt (fun e => HQe.out.rn.ne HQe.out.q (by decide) e)).trans HQe.out.at2
            have qf1 : w7.frozen? ⟨qb, 2, none⟩ = false := free_of_heap (hF7'.keep HQe.out.q (fun e => HQe.out.rn.ne HQe.out.q (by decide) e))
            have HF7 : Hid (Fr (fun j => blockOf (Value.slice (some ⟨hb, ho, none⟩) hs2.length hc) = some j ∨ blockOf (Value.slice (some ⟨nb, no, none⟩) ns.length (i + 1)) = some j ∨ j = qb) w4 (w7.setCell ⟨qb, 2, none⟩ v7)) := (((HF5.out.mono (fun j _ e => by rcases e with e | e; exact .inl e; exact .inr (.inr e))).trans (Fr.drew _ _)).trans (hF7'.mono (fun j _ e => .inr (.inl e)))).trans (Fr.setCell (fun j => blockOf (Value.slice (some ⟨hb, ho, none⟩) hs2.length hc) = some j ∨ blockOf (Value.slice (some ⟨nb, no, none⟩) ns.length (i + 1)) = some j ∨ j = qb) w7 ⟨qb, 2, none⟩ v7 (.inr (.inr rfl)))
            have HV7 : Hid (∀ g, blockOf v7 = some g → B ≤ g) := fun g hg => by
              rcases Nat.lt_or_ge g w6.heap.size with q | q
              · exact hqb3 g (hv7 g q hg)
              · exact Nat.le_trans (Nat.le_trans (Nat.le_trans (Nat.le_trans H2.out.size HRX.out.1.size) HF4.out.size) HF5.out.size) q
            obtain ⟨ua, uc, rfl⟩ := hp7'.len
            clear hp7 hp7' hF7 hF7' hv7
            refine hK.out _ _ trivial (fun _ => ?_)
            clear hK K
            try simp only [Act.put, List.setIfInBounds_toArray, List.set_cons_zero, List.set_cons_succ]
            refine wtake15 (by kernel_rfl) (by kernel_rfl) (by kernel_rfl) (fun _ _ _ h => h) (Or.inl ⟨by rfl, fun W _ => by go_simp; try with_reducible rfl⟩) trivial ?_
            try simp only [Act.put, List.setIfInBounds_toArray, List.set_cons_zero, List.set_cons_succ]
            refine wtake16 (by kernel_rfl) (by kernel_rfl) (by kernel_rfl) (fun _ _ _ h => h) (Or.inl ⟨by rfl, fun W _ => by go_simp; try with_reducible rfl⟩) trivial ?_
            try simp only [Act.put, List.setIfInBounds_toArray, List.set_cons_zero, List.set_cons_succ]
            refine wpAnyH_ready (rs := [17]) (by kernel_rfl) (by simp) ?_
            refine wcons17 (fun K hK => ?_) AllReadyH.nil
            go_simp
            refine hK.out _ _ trivial (fun _ => ?_)
            clear hK K
            try simp only [Act.put, List.setIfInBounds_toArray, List.set_cons_zero, List.set_cons_succ]
            refine wpAnyH_done (by kernel_rfl) ?_ _
            clear q1 qf1 k2
            generalize w7.setCell ⟨qb, 2, none⟩ (Value.slice ua (ns.eraseIdx i).length uc) = w8 at *
            go_wp2_with fail
            go_ret
            have HNX : ∀ (j : Nat) (cs : Array Value) (t : TypeId) (f : Nat × Nat), w4.heap[j]? = some (.cells cs t f) → (t = 46 ∨ t = 55 ∨ t = 5 ∨ t = 62) → ¬ (blockOf (Value.slice (some ⟨hb, ho, none⟩) hs2.length hc) = some j ∨ blockOf (Value.slice (some ⟨nb, no, none⟩) ns.length (i + 1)) = some j ∨ j = qb) := fun j cs t f hj ht e => by
              rcases e with e | e | e
              · exact HQ4.out.rh.ne hj (by rcases ht with rfl | rfl | rfl | rfl <;> decide) e
              · exact HQ4.out.rn.ne hj (by rcases ht with rfl | rfl | rfl | rfl <;> decide) e
              · rw [e, HQ4.out.q] at hj
                simp at hj
                rw [← hj.2.1] at ht
                rcases ht with h | h | h | h <;> exact absurd h (by decide)
            have hM8 := HM4.out.1.keep HF7.out HNX
            have hFB : Fr (From B) w w8 := ((((HF0.out.trans HFd.out).trans HF2.out).of0.trans HRX.out.1).trans HF4.out.of0).trans (HF7.out.mono (fun j _ e => by
              rcases e with e | e | e
              · exact hqb2 j e
              · exact hqb3 j e
              · rw [e]; exact H0.out.qB))
            have he1 : (held.eraseIdx i).map (fun x => x.2) = hs2.eraseIdx i := by rw [← HH2.out, List.eraseIdx_eq_take_drop_succ, List.eraseIdx_eq_take_drop_succ]; simp [List.map_take, List.map_drop]
            have he2 : (held.eraseIdx i).map (fun x => x.1) = ns.eraseIdx i := by rw [← HNS.out, List.eraseIdx_eq_take_drop_succ, List.eraseIdx_eq_take_drop_succ]; simp [List.map_take, List.map_drop]
            refine ⟨rfl, hFB, R', N, waits, held.eraseIdx i, ⟨hM8.1, HFR.out, ⟨wv, _, _, by rw [he1, he2]; exact HQ7.out, hqb1, HV5.out, HV7.out⟩, HV3.out, fun j hj => HRX.out.2 j ((HM4.out.2 j).1 ((hM8.2 j).1 hj)), H0.out.qB, Nat.le_trans H.out.size hFB.size⟩, HGG.out, by omega, rfl, rfl, fun _ => ?_⟩
            rw [List.length_eraseIdx, if_pos hil]
            omega
        · have hy2 : i + 1 < nc := by omega
          have hy3 : ¬ nc = i + 1 := by omega
          refine wp_region_held_drew (S := fun _ => True) (by kernel_rfl) trivial (fun hT => ?_)
          refine wtake0 (by kernel_rfl) (by kernel_rfl) (by kernel_rfl) (fun _ _ _ h => h) (Or.inl ⟨by rfl, fun W _ => by go_simp; try with_reducible rfl⟩) trivial ?_
          try simp only [Act.put, List.setIfInBounds_toArray, List.set_cons_zero, List.set_cons_succ]
          refine wtake1 (by kernel_rfl) (by kernel_rfl) (by kernel_rfl) (fun _ _ _ h => h) (Or.inl ⟨by rfl, fun W _ => by go_simp; try with_reducible rfl⟩) trivial ?_
          try simp only [Act.put, List.setIfInBounds_toArray, List.set_cons_zero, List.set_cons_succ]
          refine wtake2 (by kernel_rfl) (by kernel_rfl) (by kernel_rfl) (fun _ _ _ h => h) (Or.inl ⟨by rfl, fun W _ => by go_simp; try with_reducible rfl⟩) trivial ?_
          try simp only [Act.put, List.setIfInBounds_toArray, List.set_cons_zero, List.set_cons_succ]
          refine wtake3 (by kernel_rfl) (by kernel_rfl) (by kernel_rfl) (fun _ _ _ h => h) (Or.inl ⟨by rfl, fun W _ => by go_simp; try with_reducible rfl⟩) trivial ?_
          try simp only [Act.put, List.setIfInBounds_toArray, List.set_cons_zero, List.set_cons_succ]
          refine wtake5 (by kernel_rfl) (by kernel_rfl) (by kernel_rfl) (fun _ _ _ h => h) (Or.inl ⟨by rfl, fun W _ => by go_simp; try with_reducible rfl⟩) trivial ?_
          try simp only [Act.put, List.setIfInBounds_toArray, List.set_cons_zero, List.set_cons_succ]
          refine wtake7 (by kernel_rfl) (by kernel_rfl) (by kernel_rfl) (fun _ _ _ h => h) (Or.inl ⟨by rfl, fun W _ => by go_simp; try with_reducible rfl⟩) trivial ?_
          try simp only [Act.put, List.setIfInBounds_toArray, List.set_cons_zero, List.set_cons_succ]
          refine wtake8 (by kernel_rfl) (by kernel_rfl) (by kernel_rfl) (fun _ _ _ h => h) (Or.inl ⟨by rfl, fun W _ => by go_simp; try with_reducible rfl⟩) trivial ?_
          try simp only [Act.put, List.setIfInBounds_toArray, List.set_cons_zero, List.set_cons_succ]
          refine wtake9 (by kernel_rfl) (by kernel_rfl) (by kernel_rfl) (fun _ _ _ h => h) (Or.inl ⟨by rfl, fun W _ => by go_simp; try with_reducible rfl⟩) trivial ?_
          try simp only [Act.put, List.setIfInBounds_toArray, List.set_cons_zero, List.set_cons_succ]
          refine wtake11 (by kernel_rfl) (by kernel_rfl) (by kernel_rfl) (fun _ _ _ h => h) (Or.inl ⟨by rfl, fun W _ => by go_simp; try with_reducible rfl⟩) trivial ?_
          try simp only [Act.put, List.setIfInBounds_toArray, List.set_cons_zero, List.set_cons_succ]
          refine wtake12 (by kernel_rfl) (by kernel_rfl) (by kernel_rfl) (fun _ _ _ h => h) (Or.inl ⟨by rfl, fun W _ => by go_simp; try with_reducible rfl⟩) trivial ?_
          try simp only [Act.put, List.setIfInBounds_toArray, List.set_cons_zero, List.set_cons_succ]
          refine wpAnyH_ready (rs := [4, 10]) (by kernel_rfl) (by simp) ?_
          refine wcons4 (fun K hK => ?_) (wcons10 (fun K hK => ?_) AllReadyH.nil)
          focus
            go_simp
            refine hK.out _ _ trivial (fun _ => ?_)
            clear hK K
            try simp only [Act.put, List.setIfInBounds_toArray, List.set_cons_zero, List.set_cons_succ]
            refine wtake6 (by kernel_rfl) (by kernel_rfl) (by kernel_rfl) (fun _ _ _ h => h) (Or.inl ⟨by rfl, fun W _ => by go_simp; try with_reducible rfl⟩) trivial ?_
            try simp only [Act.put, List.setIfInBounds_toArray, List.set_cons_zero, List.set_cons_succ]
            refine wpAnyH_ready (rs := [10]) (by kernel_rfl) (by simp) ?_
            refine wcons10 (fun K hK => ?_) AllReadyH.nil
            go_simp
            refine hK.out _ _ trivial (fun _ => ?_)
            clear hK K
            try simp only [Act.put, List.setIfInBounds_toArray, List.set_cons_zero, List.set_cons_succ]
            refine wtake13 (by kernel_rfl) (by kernel_rfl) (by kernel_rfl) (fun _ _ _ h => h) (Or.inl ⟨by rfl, fun W _ => by go_simp; try with_reducible rfl⟩) trivial ?_
            try simp only [Act.put, List.setIfInBounds_toArray, List.set_cons_zero, List.set_cons_succ]
          rotate_left
          focus
            go_simp
            refine hK.out _ _ trivial (fun _ => ?_)
            clear hK K
            try simp only [Act.put, List.setIfInBounds_toArray, List.set_cons_zero, List.set_cons_succ]
            refine wtake13 (by kernel_rfl) (by kernel_rfl) (by kernel_rfl) (fun _ _ _ h => h) (Or.inl ⟨by rfl, fun W _ => by go_simp; try with_reducible rfl⟩) trivial ?_
            try simp only [Act.put, List.setIfInBounds_toArray, List.set_cons_zero, List.set_cons_succ]
            refine wpAnyH_ready (rs := [4]) (by kernel_rfl) (by simp) ?_
            refine wcons4 (fun K hK => ?_) AllReadyH.nil
            go_simp
            refine hK.out _ _ trivial (fun _ => ?_)
            clear hK K
            try simp only [Act.put, List.setIfInBounds_toArray, List.set_cons_zero, List.set_cons_succ]
            refine wtake6 (by kernel_rfl) (by kernel_rfl) (by kernel_rfl) (fun _ _ _ h => h) (Or.inl ⟨by rfl, fun W _ => by go_simp; try with_reducible rfl⟩) trivial ?_
            try simp only [Act.put, List.setIfInBounds_toArray, List.set_cons_zero, List.set_cons_succ]
          all_goals
            have HSN : Hid (Src Try.prog 1 30 (.slice (some ⟨nb, no + (i + 1), none⟩) (held.length - (i + 1)) (nc - (i + 1))) (held.length - (i + 1)) ((natC ns).drop (i + 1)) w6.drew) := by
              have hd := (HER1.out hy2).keep (Fr.drew Zero w6) (fun _ _ h => h)
              rw [Nat.mul_one] at hd
              rw [HL2.out] at hd
              exact hd.src Try.underlying30 (fun u hu => by have := List.mem_of_mem_drop hu; simp [natC] at this; obtain ⟨x, _, rfl⟩ := this; rfl)
            have HNd := hide (HNK.out.keep (Fr.drew Zero w6) (fun _ _ h => h))
            have HQe := hide (HQ5.out.quiet (Fr.drew Zero w6))
            refine wpAnyH_ready (rs := [14]) (by kernel_rfl) (by simp) ?_
            refine wcons14 (fun K hK => ?_) AllReadyH.nil
            refine step_pappend rfl (.tmp 288) (.tmp 295) 30 30 rfl Try.underlying30 infoI rfl (held.length - (i + 1)) ((natC ns).drop (i + 1)) (by simp [Act.eval]) (by simp [Act.eval] <;> omega) HNd.out HSN.out (by omega) (by omega) ?_
            intro v7 w7 hp7 hF7 hv7
            have hp7' : PRow w7 3 1 v7 (ns.eraseIdx i).length (natC (ns.eraseIdx i)) := by
              have e1 : natC (ns.eraseIdx i) = (natC ns).take (i * 1) ++ (natC ns).drop (i + 1) := by rw [List.eraseIdx_eq_take_drop_succ]; simp [natC, List.map_take, List.map_drop]
              have e2 : (ns.eraseIdx i).length = i + (held.length - (i + 1)) := by rw [List.length_eraseIdx, HL2.out, if_pos (by omega)]; omega
              rw [e1, e2]
              exact hp7
            have hF7' : Fr (Owns (Value.slice (some ⟨nb, no, none⟩) ns.length nc)) w6.drew w7 := hF7
            have HQ7 := hide (HQe.out.setn hp7' hF7')
            have q1 : w7.cell? ⟨qb, 2, none⟩ = _ := (hF7'.cell (a := ⟨qb, 2, none⟩) HQe.out.lt (fun e => HQe.out.rn.ne HQe.out.q (by decide) e)).trans HQe.out.at2
            have qf1 : w7.frozen? ⟨qb, 2, none⟩ = false := free_of_heap (hF7'.keep HQe.out.q (fun e => HQe.out.rn.ne HQe.out.q (by decide) e))
            have HF7 : Hid (Fr (fun j => blockOf (Value.slice (some ⟨hb, ho, none⟩) hs2.length hc) = some j ∨ blockOf (Value.slice (some ⟨nb, no, none⟩) ns.length nc) = some j ∨ j = qb) w4 (w7.setCell ⟨qb, 2, none⟩ v7)) := (((HF5.out.mono (fun j _ e => by rcases e with e | e; exact .inl e; exact .inr (.inr e))).trans (Fr.drew _ _)).trans (hF7'.mono (fun j _ e => .inr (.inl e)))).trans (Fr.setCell (fun j => blockOf (Value.slice (some ⟨hb, ho, none⟩) hs2.length hc) = some j ∨ blockOf (Value.slice (some ⟨nb, no, none⟩) ns.length nc) = some j ∨ j = qb) w7 ⟨qb, 2, none⟩ v7 (.inr (.inr rfl)))
            have HV7 : Hid (∀ g, blockOf v7 = some g → B ≤ g) := fun g hg => by
              rcases Nat.lt_or_ge g w6.heap.size with q | q
              · exact hqb3 g (hv7 g q hg)
              · exact Nat.le_trans (Nat.le_trans (Nat.le_trans (Nat.le_trans H2.out.size HRX.out.1.size) HF4.out.size) HF5.out.size) q
            obtain ⟨ua, uc, rfl⟩ := hp7'.len
            clear hp7 hp7' hF7 hF7' hv7
            refine hK.out _ _ trivial (fun _ => ?_)
            clear hK K
            try simp only [Act.put, List.setIfInBounds_toArray, List.set_cons_zero, List.set_cons_succ]
            refine wtake15 (by kernel_rfl) (by kernel_rfl) (by kernel_rfl) (fun _ _ _ h => h) (Or.inl ⟨by rfl, fun W _ => by go_simp; try with_reducible rfl⟩) trivial ?_
            try simp only [Act.put, List.setIfInBounds_toArray, List.set_cons_zero, List.set_cons_succ]
            refine wtake16 (by kernel_rfl) (by kernel_rfl) (by kernel_rfl) (fun _ _ _ h => h) (Or.inl ⟨by rfl, fun W _ => by go_simp; try with_reducible rfl⟩) trivial ?_
            try simp only [Act.put, List.setIfInBounds_toArray, List.set_cons_zero, List.set_cons_succ]
            refine wpAnyH_ready (rs := [17]) (by kernel_rfl) (by simp) ?_
            refine wcons17 (fun K hK => ?_) AllReadyH.nil
            go_simp
            refine hK.out _ _ trivial (fun _ => ?_)
            clear hK K
            try simp only [Act.put, List.setIfInBounds_toArray, List.set_cons_zero, List.set_cons_succ]
            refine wpAnyH_done (by kernel_rfl) ?_ _
            clear q1 qf1 k2
            generalize w7.setCell ⟨qb, 2, none⟩ (Value.slice ua (ns.eraseIdx i).length uc) = w8 at *
            go_wp2_with fail
            go_ret
            have HNX : ∀ (j : Nat) (cs : Array Value) (t : TypeId) (f : Nat × Nat), w4.heap[j]? = some (.cells cs t f) → (t = 46 ∨ t = 55 ∨ t = 5 ∨ t = 62) → ¬ (blockOf (Value.slice (some ⟨hb, ho, none⟩) hs2.length hc) = some j ∨ blockOf (Value.slice (some ⟨nb, no, none⟩) ns.length nc) = some j ∨ j = qb) := fun j cs t f hj ht e => by
              rcases e with e | e | e
              · exact HQ4.out.rh.ne hj (by rcases ht with rfl | rfl | rfl | rfl <;> decide) e
              · exact HQ4.out.rn.ne hj (by rcases ht with rfl | rfl | rfl | rfl <;> decide) e
              · rw [e, HQ4.out.q] at hj
                simp at hj
                rw [← hj.2.1] at ht
                rcases ht with h | h | h | h <;> exact absurd h (by decide)
            have hM8 := HM4.out.1.keep HF7.out HNX
            have hFB : Fr (From B) w w8 := ((((HF0.out.trans HFd.out).trans HF2.out).of0.trans HRX.out.1).trans HF4.out.of0).trans (HF7.out.mono (fun j _ e => by
              rcases e with e | e | e
              · exact hqb2 j e
              · exact hqb3 j e
              · rw [e]; exact H0.out.qB))
            have he1 : (held.eraseIdx i).map (fun x => x.2) = hs2.eraseIdx i := by rw [← HH2.out, List.eraseIdx_eq_take_drop_succ, List.eraseIdx_eq_take_drop_succ]; simp [List.map_take, List.map_drop]
            have he2 : (held.eraseIdx i).map (fun x => x.1) = ns.eraseIdx i := by rw [← HNS.out, List.eraseIdx_eq_take_drop_succ, List.eraseIdx_eq_take_drop_succ]; simp [List.map_take, List.map_drop]
            refine ⟨rfl, hFB, R', N, waits, held.eraseIdx i, ⟨hM8.1, HFR.out, ⟨wv, _, _, by rw [he1, he2]; exact HQ7.out, hqb1, HV5.out, HV7.out⟩, HV3.out, fun j hj => HRX.out.2 j ((HM4.out.2 j).1 ((hM8.2 j).1 hj)), H0.out.qB, Nat.le_trans H.out.size hFB.size⟩, HGG.out, by omega, rfl, rfl, fun _ => ?_⟩
            rw [List.length_eraseIdx, if_pos hil]
            omega

end Go.Proofs.Ytnhkalnihjkoeaa
