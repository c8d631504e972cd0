/- A queue's step that puts a frame in. -/
import Derived.Test.YtnhkalnihjkoeaaQMq
namespace Go.Proofs.Ytnhkalnihjkoeaa
open Go.RowKit

/-- What a step of a queue leaves. -/
def OnePost (w : World) (B sb rb yb qb : Nat) (R : PR) (N : Nat) (Q : List Bs → List (Nat × Bs) → Nat → Prop) (e : Ending) (w' : World) : Prop :=
  e = .returned (.bool true) ∧ Fr (From B) w w' ∧ ∃ (R' : PR) (N' : Nat) (waits' : List Bs) (held' : List (Nat × Bs)), ST w' B sb rb yb qb R' N' waits' held' ∧ R'.g = R.g ∧ N' ≤ N + 1 ∧ Q waits' held' N'

theorem put_cases {R : PR} (hF : Fit R) (hs : R.shut = false) (d : Bs) : ((putP R d).1 = 0 ∧ 2 * needs d.length ≤ R.g ∧ taken R.fs + needs d.length ≤ taken (putP R d).2.fs ∧ taken (putP R d).2.fs ≤ R.g) ∨ ((putP R d) = (9, R) ∧ R.g < 2 * needs d.length) ∨ ((putP R d) = (10, R) ∧ 2 * needs d.length ≤ R.g ∧ R.g < taken R.fs + 2 * needs d.length) := by
  have hfit := (hF.put d).tidy.taken
  unfold putP at hfit ⊢
  rw [if_neg (by rw [hs]; decide)] at hfit ⊢
  by_cases h2 : R.g < 2 * needs d.length
  · rw [if_pos h2]; exact .inr (.inl ⟨rfl, h2⟩)
  rw [if_neg h2] at hfit ⊢
  by_cases h3 : R.g < taken R.fs + gapOf R.g R.next (needs d.length) + needs d.length
  · rw [if_pos h3]
    refine .inr (.inr ⟨rfl, by omega, ?_⟩)
    have : gapOf R.g R.next (needs d.length) ≤ needs d.length := by unfold gapOf; split <;> omega
    omega
  · rw [if_neg h3] at hfit ⊢
    refine .inl ⟨rfl, by omega, ?_, hfit⟩
    simp only [taken, List.map_append, List.sum_append, List.map_cons, List.map_nil, List.sum_cons, List.sum_nil]
    omega
theorem putP_g (R : PR) (d : Bs) : (putP R d).2.g = R.g := by
  unfold putP
  split
  · rfl
  · split
    · rfl
    · split <;> rfl

set_option maxHeartbeats 16000000 in
set_option maxRecDepth 100000 in
theorem one_put {w : World} {B sb rb yb qb N : Nat} {R : PR} {waits : List Bs} {held : List (Nat × Bs)} (h : ST w B sb rb yb qb R N waits held) (hN : N ≤ 100000) (k a : Int) (hk1 : -9223372036854775808 ≤ k) (hk2 : k ≤ 9223372036854775807) (ha1 : -9223372036854775808 ≤ a) (ha2 : a ≤ 9223372036854775807) (hp : pickN k 7 ≤ 2) :
    Calls Try.prog 6 #[.pointer (some ⟨qb, 0, none⟩), .pointer (some ⟨sb, 0, none⟩), .int .i64 R.g, .agg #[.int .i64 k, .int .i64 a]] w fun e w' => OnePost w B sb rb yb qb R N (fun _ _ _ => True) e w' := by
  have H := hide h
  have hg2 := h.fit.g2
  have hg64 := h.fit.g64
  have HF0 : Hid (Fr Zero w (w.alloc (.cells #[.int .i64 k, .int .i64 a] 35))) := Fr.alloc _ _ _
  have HB0 : Hid ((w.alloc (.cells #[.int .i64 k, .int .i64 a] 35)).heap[w.heap.size]? = some (.cells #[.int .i64 k, .int .i64 a] 35 (0, 0))) := heap_new_at rfl _
  have H0 := hide (h.quiet HF0.out)
  clear h
  go_enter Try.func6, Try.ntmps6
  go_wp2_with fail
  generalize w.alloc (.cells #[.int .i64 k, .int .i64 a] 35) = w0 at *
  refine (pick_any k hk1 hk2 7 (by omega) (by omega) _).mono ?_
  rintro e w1 ⟨rfl, e1⟩
  obtain rfl := e1.symm
  obtain ⟨wv, hv, nv, hq, hqb1, hqb2, hqb3⟩ := H0.out.qm
  have k3 := hq.at3
  have s1 : w0.cell? ⟨w.heap.size, 1, none⟩ = some (.int .i64 a) := by rw [cell_of_heap HB0.out]; rfl
  have HQ := hide hq
  obtain ⟨P, hP⟩ : ∃ P, pickN k 7 = P := ⟨_, rfl⟩
  rw [hP] at hp ⊢
  obtain rfl | rfl | rfl : P = 0 ∨ P = 1 ∨ P = 2 := by omega
  all_goals
    clear hP hp hq
    go_wp2_with fail
    have hS0 : w0.drew.cell? ⟨qb, 3, none⟩ = some (.int .i64 N) ∧ w0.drew.cell? ⟨w.heap.size, 1, none⟩ = some (.int .i64 a) := ⟨k3, s1⟩
    refine wp_region_held_drew (S := fun W => W.cell? ⟨qb, 3, none⟩ = some (.int .i64 N) ∧ W.cell? ⟨w.heap.size, 1, none⟩ = some (.int .i64 a)) (by kernel_rfl) hS0 (fun hT => ?_)
    refine wtake0 (by kernel_rfl) (by kernel_rfl) (by kernel_rfl) (fun _ _ _ h => h) (Or.inl ⟨by rfl, fun W hW => by obtain ⟨u1, u2⟩ := hW; go_simp; try with_reducible rfl⟩) hS0 ?_
    try simp only [Act.put, List.setIfInBounds_toArray, List.set_cons_zero, List.set_cons_succ]
    refine wtake1 (by kernel_rfl) (by kernel_rfl) (by kernel_rfl) (fun _ _ _ h => h) (Or.inl ⟨by rfl, fun W hW => by obtain ⟨u1, u2⟩ := hW; go_simp; try with_reducible rfl⟩) hS0 ?_
    try simp only [Act.put, List.setIfInBounds_toArray, List.set_cons_zero, List.set_cons_succ]
    refine wtake2 (by kernel_rfl) (by kernel_rfl) (by kernel_rfl) (fun _ _ _ h => h) (Or.inl ⟨by rfl, fun W hW => by obtain ⟨u1, u2⟩ := hW; go_simp; try with_reducible rfl⟩) hS0 ?_
    try simp only [Act.put, List.setIfInBounds_toArray, List.set_cons_zero, List.set_cons_succ]
    refine wtake3 (by kernel_rfl) (by kernel_rfl) (by kernel_rfl) (fun _ _ _ h => h) (Or.inl ⟨by rfl, fun W hW => by obtain ⟨u1, u2⟩ := hW; go_simp; try with_reducible rfl⟩) hS0 ?_
    try simp only [Act.put, List.setIfInBounds_toArray, List.set_cons_zero, List.set_cons_succ]
    refine wtake4 (by kernel_rfl) (by kernel_rfl) (by kernel_rfl) (fun _ _ _ h => h) (Or.inl ⟨by rfl, fun W hW => by obtain ⟨u1, u2⟩ := hW; go_simp; try with_reducible rfl⟩) hS0 ?_
    try simp only [Act.put, List.setIfInBounds_toArray, List.set_cons_zero, List.set_cons_succ]
    refine wtake5 (by kernel_rfl) (by kernel_rfl) (by kernel_rfl) (fun _ _ _ h => h) (Or.inl ⟨by rfl, fun W hW => by obtain ⟨u1, u2⟩ := hW; go_simp; try with_reducible rfl⟩) hS0 ?_
    try simp only [Act.put, List.setIfInBounds_toArray, List.set_cons_zero, List.set_cons_succ]
    refine wtake6 (by kernel_rfl) (by kernel_rfl) (by kernel_rfl) (fun _ _ _ h => h) (Or.inl ⟨by rfl, fun W hW => by obtain ⟨u1, u2⟩ := hW; go_simp; try with_reducible rfl⟩) hS0 ?_
    try simp only [Act.put, List.setIfInBounds_toArray, List.set_cons_zero, List.set_cons_succ]
    refine wtake7 (by kernel_rfl) (by kernel_rfl) (by kernel_rfl) (fun _ _ _ h => h) (Or.inl ⟨by rfl, fun W hW => by obtain ⟨u1, u2⟩ := hW; go_simp; try with_reducible rfl⟩) hS0 ?_
    try simp only [Act.put, List.setIfInBounds_toArray, List.set_cons_zero, List.set_cons_succ]
    refine wtake8 (by kernel_rfl) (by kernel_rfl) (by kernel_rfl) (fun _ _ _ h => h) (Or.inl ⟨by rfl, fun W hW => by obtain ⟨u1, u2⟩ := hW; go_simp; try with_reducible rfl⟩) hS0 ?_
    try simp only [Act.put, List.setIfInBounds_toArray, List.set_cons_zero, List.set_cons_succ]
    refine wpAnyH_ready (rs := [9]) (by kernel_rfl) (by simp) ?_
    refine wcons9 (fun K hK => ?_) AllReadyH.nil
    go_simp
    rw [show IntKind.i64.wrap (IntKind.i64.wrap (4 * (R.g : Int)) + 9) = ((4 * R.g + 9 : Nat) : Int) by rw [IntKind.wrap_i64, IntKind.wrap_i64]; omega]
    refine (pick_any a ha1 ha2 (4 * R.g + 9) (by omega) (by omega) _).mono ?_
    rintro e w1 ⟨rfl, e1⟩
    obtain rfl := e1.symm
    have hpl := pickN_lt a (n := 4 * R.g + 9) (by omega)
    generalize pickN a (4 * R.g + 9) = S at *
    go_wp2_with fail
    refine hK.out _ _ hS0 (fun _ => ?_)
    clear hK K
    try simp only [Act.put, List.setIfInBounds_toArray, List.set_cons_zero, List.set_cons_succ]
    refine wpAnyH_ready (rs := [10]) (by kernel_rfl) (by simp) ?_
    refine wcons10 (fun K hK => ?_) AllReadyH.nil
    go_simp
    refine (content_any N S (by omega) (by omega) _).mono ?_
    rintro e w2 ⟨⟨d, hd, rfl⟩, hF2⟩
    have HF2 : Hid (Fr Zero w0 w2) := (Fr.drew Zero w0).trans hF2
    have H2 := hide (H0.out.quiet HF2.out)
    have hS2 : w2.cell? ⟨qb, 3, none⟩ = some (.int .i64 N) ∧ w2.cell? ⟨w.heap.size, 1, none⟩ = some (.int .i64 a) := ⟨(HQ.out.quiet HF2.out).at3, by rw [cell_of_heap (HF2.out.keep HB0.out (fun h => h))]; rfl⟩
    clear hF2
    go_wp2_with fail
    refine hK.out _ _ hS2 (fun _ => ?_)
    clear hK K
    try simp only [Act.put, List.setIfInBounds_toArray, List.set_cons_zero, List.set_cons_succ]
    refine wtake11 (by kernel_rfl) (by kernel_rfl) (by kernel_rfl) (fun _ _ _ h => h) (Or.inl ⟨by rfl, fun W hW => by obtain ⟨u1, u2⟩ := hW; go_simp; try with_reducible rfl⟩) hS2 ?_
    try simp only [Act.put, List.setIfInBounds_toArray, List.set_cons_zero, List.set_cons_succ]
    refine wpAnyH_done (by kernel_rfl) ?_ _
    have hdz := ba_size d
    have hdl : (ba d).data.toList = d := ba_list d
    have HBn := hide H2.out.bounds
    have hbn := HBn.out
    clear hS0 hS2 k3 s1
    go_wp2_with fail
    refine (sroom_any H2.out.sm (by omega) (by omega)).mono ?_
    rintro e w3 ⟨rfl, hF3⟩
    have HF3 : Hid (Fr Zero w2 (w3.alloc (.cells #[.int .i64 (taken R.fs), .int .i64 (countOf 0 R.fs), .int .i64 (countOf 1 R.fs), .bool R.shut] 37))) := hF3.trans (Fr.alloc _ _ _)
    have HB3 : Hid ((w3.alloc (.cells #[.int .i64 (taken R.fs), .int .i64 (countOf 0 R.fs), .int .i64 (countOf 1 R.fs), .bool R.shut] 37)).heap[w3.heap.size]? = some (.cells #[.int .i64 (taken R.fs), .int .i64 (countOf 0 R.fs), .int .i64 (countOf 1 R.fs), .bool R.shut] 37 (0, 0))) := heap_new_at rfl _
    have H3 := hide (H2.out.quiet HF3.out)
    clear hF3
    unfold roomV
    go_wp2_with fail
    generalize w3.alloc (.cells #[.int .i64 (taken R.fs), .int .i64 (countOf 0 R.fs), .int .i64 (countOf 1 R.fs), .bool R.shut] 37) = w4 at *
    refine (sput_any H3.out.sm H3.out.fit.tidy (ba d) (by omega)).mono ?_
    rw [hdl]
    rintro e w5 ⟨rfl, hF5, hM5⟩
    have HRX := hide (H3.out.ring hF5)
    obtain ⟨wv, hv, nv, hq3, hqb1, hqb2, hqb3⟩ := H3.out.qm
    have HQ5 := hide (hq3.ring H3.out.sm hF5)
    have HB5 : Hid (w5.heap[w3.heap.size]? = some (.cells #[.int .i64 (taken R.fs), .int .i64 (countOf 0 R.fs), .int .i64 (countOf 1 R.fs), .bool R.shut] 37 (0, 0))) := by
      obtain ⟨fv, hr⟩ := H3.out.sm.r
      exact hF5.fr.keep HB3.out (hr.notX HB3.out (by decide) (by decide) (by decide))
    have HM5 := hide hM5
    have HC := hide (put_cases H3.out.fit H3.out.rel.open_ d)
    have HF5 := hide (H3.out.fit.put d)
    have HPG := hide (putP_g R d)
    have htd := (H3.out.fit.put d).tidy
    have ht1 := htd.taken
    have ht2 := htd.len
    rw [HPG.out] at ht1
    clear hF5 hM5 hq3 htd
    go_wp2_with fail
    refine (sroom_any HM5.out (by omega) (by omega)).mono ?_
    rintro e w6 ⟨rfl, hF6⟩
    have HF6 : Hid (Fr Zero w5 (w6.alloc (.cells #[.int .i64 (taken (putP R d).2.fs), .int .i64 (countOf 0 (putP R d).2.fs), .int .i64 (countOf 1 (putP R d).2.fs), .bool (putP R d).2.shut] 37))) := hF6.trans (Fr.alloc _ _ _)
    have HB6 : Hid ((w6.alloc (.cells #[.int .i64 (taken (putP R d).2.fs), .int .i64 (countOf 0 (putP R d).2.fs), .int .i64 (countOf 1 (putP R d).2.fs), .bool (putP R d).2.shut] 37)).heap[w6.heap.size]? = some (.cells #[.int .i64 (taken (putP R d).2.fs), .int .i64 (countOf 0 (putP R d).2.fs), .int .i64 (countOf 1 (putP R d).2.fs), .bool (putP R d).2.shut] 37 (0, 0))) := heap_new_at rfl _
    have HM7 := hide (HM5.out.keep HF6.out (fun _ _ _ _ _ _ h => h))
    have HQ7 := hide (HQ5.out.quiet HF6.out)
    have HB7 := hide (HF6.out.keep HB5.out (fun h => h))
    have HFB : Hid (Fr (From B) w (w6.alloc (.cells #[.int .i64 (taken (putP R d).2.fs), .int .i64 (countOf 0 (putP R d).2.fs), .int .i64 (countOf 1 (putP R d).2.fs), .bool (putP R d).2.shut] 37))) := (((HF0.out.trans HF2.out).trans HF3.out).of0.trans HRX.out.1).trans HF6.out.of0
    clear hF6
    unfold roomV
    rcases HC.out with ⟨p1, p2, p3, p4⟩ | ⟨p1, p2⟩ | ⟨p1, p2, p3⟩
    · have HQR := hide (H3.out.rel.put p1)
      obtain ⟨R', hR'⟩ : ∃ R', (putP R d).2 = R' := ⟨_, rfl⟩
      rw [hR'] at HB6 HM7 HFB HQ7 HB7 HQR HF5 HPG p3 p4
      rw [p1, hR']
      have HFz : Hid (Fr Zero (w6.alloc (.cells #[.int .i64 (taken R'.fs), .int .i64 (countOf 0 R'.fs), .int .i64 (countOf 1 R'.fs), .bool R'.shut] 37)) ((w6.alloc (.cells #[.int .i64 (taken R'.fs), .int .i64 (countOf 0 R'.fs), .int .i64 (countOf 1 R'.fs), .bool R'.shut] 37)).alloc (.cells #[.string (ba d)] 9))) := Fr.alloc _ _ _
      have HQ8 := hide (HQ7.out.quiet HFz.out)
      have HB8 := hide (HFz.out.keep HB6.out (fun h => h))
      have HB9 := hide (HFz.out.keep HB7.out (fun h => h))
      have k0 := HQ7.out.at0
      have kf0 := HQ7.out.free 0
      have HSR : Hid (Src Try.prog 1 29 (.slice (some ⟨w6.heap.size + 1, 0, none⟩) 1 1) 1 (strC [d]) ((w6.alloc (.cells #[.int .i64 (taken R'.fs), .int .i64 (countOf 0 R'.fs), .int .i64 (countOf 1 R'.fs), .bool R'.shut] 37)).alloc (.cells #[.string (ba d)] 9))) := by
        refine Src.ofSlice _ Try.underlying29 _ _ _ _ rfl (fun j u hj => ?_) (fun u hu => ?_)
        · match j, hj with
          | 0, hj => simp [strC] at hj; subst hj; rw [show (⟨w6.heap.size + 1, 0, none⟩ : Addr).add 0 = ⟨w6.heap.size + 1, 0, none⟩ by simp [Addr.add]]; rw [cell_of_heap (heap_new_at (by simp) _)]; rfl
          | j + 1, hj => simp [strC] at hj
        · simp [strC] at hu; subst hu; rfl
      unfold needs at p2 p3
      have hq1 : 2 * (((d.length : Int) + 9) / 8) ≤ (R.g : Int) := by omega
      have hq2 : (taken R.fs : Int) + ((d.length : Int) + 9) / 8 ≤ (taken R'.fs : Int) := by omega
      have hq3 : (taken R'.fs : Int) ≤ (R.g : Int) := by omega
      have hwl := H3.out.bounds
      obtain ⟨wa, wc, rfl⟩ := HQ8.out.rw_.len
      clear p1 hR'
      go_wp2_with (at_builtin; refine wpList_pappend rfl (.tmp 58) (.tmp 60) 29 29 rfl Try.underlying29 infoS rfl 1 (strC [d]) rfl rfl HQ8.out.rw_ HSR.out ?hl9 ?h639 ?_)
      case hl9 => omega
      case h639 => omega
      intro v9 w9 hp9 hF9 hv9
      have hp9' : PRow w9 9 1 v9 (waits ++ [d]).length (strC (waits ++ [d])) := by simpa [strC] using hp9
      have HQ9 := hide (HQ8.out.setw hp9' hF9 (by simpa using hv9))
      have HQ10 := hide (HQ9.out.setN (N + 1))
      have q0 : w9.cell? ⟨qb, 0, none⟩ = _ := (hF9.cell (a := ⟨qb, 0, none⟩) HQ8.out.lt (fun e => HQ8.out.rw_.ne HQ8.out.q (by decide) e)).trans HQ8.out.at0
      have qf0 : w9.frozen? ⟨qb, 0, none⟩ = false := free_of_heap (hF9.keep HQ8.out.q (fun e => HQ8.out.rw_.ne HQ8.out.q (by decide) e))
      have e3 := HQ9.out.at3
      have ef3 := HQ9.out.free 3
      have HX : Hid (Fr (fun j => blockOf (Value.slice wa waits.length wc) = some j ∨ j = qb) (w6.alloc (.cells #[.int .i64 (taken R'.fs), .int .i64 (countOf 0 R'.fs), .int .i64 (countOf 1 R'.fs), .bool R'.shut] 37)) ((w9.setCell ⟨qb, 0, none⟩ v9).setCell ⟨qb, 3, none⟩ (.int .i64 ((N + 1 : Nat) : Int)))) :=
        ((HFz.out.of0.trans (hF9.mono (fun j _ e => .inl e))).trans (Fr.setCell (fun j => blockOf (Value.slice wa waits.length wc) = some j ∨ j = qb) w9 ⟨qb, 0, none⟩ v9 (.inr rfl))).trans (Fr.setCell (fun j => blockOf (Value.slice wa waits.length wc) = some j ∨ j = qb) _ ⟨qb, 3, none⟩ _ (.inr rfl))
      have HNX : Hid (∀ (j : Nat) (cs : Array Value) (t : TypeId) (f : Nat × Nat), (w6.alloc (.cells #[.int .i64 (taken R'.fs), .int .i64 (countOf 0 R'.fs), .int .i64 (countOf 1 R'.fs), .bool R'.shut] 37)).heap[j]? = some (.cells cs t f) → t ≠ 9 → t ≠ 32 → ¬ (blockOf (Value.slice wa waits.length wc) = some j ∨ j = qb)) := fun j cs t f hj h1 h2 e => by
        rcases e with e | e
        · exact HQ7.out.rw_.ne hj (Ne.symm h1) e
        · rw [e, HQ7.out.q] at hj
          simp at hj
          exact h2 hj.2.1.symm
      have t6 : ((w9.setCell ⟨qb, 0, none⟩ v9).setCell ⟨qb, 3, none⟩ (.int .i64 ((N + 1 : Nat) : Int))).cell? ⟨w6.heap.size, 0, none⟩ = some (.int .i64 (taken R'.fs)) := by rw [cell_of_heap (HX.out.keep HB6.out (HNX.out _ _ _ _ HB6.out (by decide) (by decide)))]; rfl
      have t3 : ((w9.setCell ⟨qb, 0, none⟩ v9).setCell ⟨qb, 3, none⟩ (.int .i64 ((N + 1 : Nat) : Int))).cell? ⟨w3.heap.size, 0, none⟩ = some (.int .i64 (taken R.fs)) := by rw [cell_of_heap (HX.out.keep HB7.out (HNX.out _ _ _ _ HB7.out (by decide) (by decide)))]; rfl
      have hM10 := HM7.out.1.keep HX.out (fun j cs t f hj ht => HNX.out j cs t f hj (by rcases ht with rfl | rfl | rfl | rfl <;> decide) (by rcases ht with rfl | rfl | rfl | rfl <;> decide))
      have HST : Hid (ST ((w9.setCell ⟨qb, 0, none⟩ v9).setCell ⟨qb, 3, none⟩ (.int .i64 ((N + 1 : Nat) : Int))) B sb rb yb qb R' (N + 1) (waits ++ [d]) held) := by
        refine ⟨hM10.1, HF5.out, ⟨v9, hv, nv, HQ10.out, fun g hg => ?_, hqb2, hqb3⟩, HQR.out.1, fun j hj => HRX.out.2 j ((HM7.out.2 j).1 ((hM10.2 j).1 hj)), H3.out.qB, Nat.le_trans (Nat.le_trans H.out.size HFB.out.size) HX.out.size⟩
        rcases Nat.lt_or_ge g (w6.heap.size + 1 + 1) with q | q
        · exact hqb1 g (hv9 g q hg)
        · have := Nat.le_trans H.out.size HFB.out.size
          simp at this
          omega
      have HFF : Hid (Fr (From B) w ((w9.setCell ⟨qb, 0, none⟩ v9).setCell ⟨qb, 3, none⟩ (.int .i64 ((N + 1 : Nat) : Int)))) := HFB.out.trans (HX.out.mono (fun j _ e => by
        rcases e with e | e
        · exact hqb1 j e
        · rw [e]; exact H3.out.qB))
      have hcast : ((N + 1 : Nat) : Int) = (N : Int) + 1 := by omega
      rw [hcast] at HST HFF t6 t3
      obtain ⟨va, vc, rfl⟩ := hp9'.len
      simp only [List.length_append, List.length_cons, List.length_nil, Nat.zero_add] at e3 ef3 HST HFF t6 t3
      clear hp9 hp9' hF9 hv9 hM10 HX HNX HQ10 HQ9 k0 kf0
      go_wp2_with fail
      go_ret
      exact ⟨rfl, HFF, R', N + 1, waits ++ [d], held, HST, HPG.out, by omega, trivial⟩
    · rw [p1] at HB6 HM7 HFB HQ7 HB7 ⊢
      simp only at HB6 HM7 HFB HQ7 HB7 ⊢
      have b60 : (w6.alloc (.cells #[.int .i64 (taken R.fs), .int .i64 (countOf 0 R.fs), .int .i64 (countOf 1 R.fs), .bool R.shut] 37)).cell? ⟨w6.heap.size, 0, none⟩ = some (.int .i64 (taken R.fs)) := by rw [cell_of_heap HB6.out]; rfl
      have b61 : (w6.alloc (.cells #[.int .i64 (taken R.fs), .int .i64 (countOf 0 R.fs), .int .i64 (countOf 1 R.fs), .bool R.shut] 37)).cell? ⟨w6.heap.size, 1, none⟩ = some (.int .i64 (countOf 0 R.fs)) := by rw [cell_of_heap HB6.out]; rfl
      have b62 : (w6.alloc (.cells #[.int .i64 (taken R.fs), .int .i64 (countOf 0 R.fs), .int .i64 (countOf 1 R.fs), .bool R.shut] 37)).cell? ⟨w6.heap.size, 2, none⟩ = some (.int .i64 (countOf 1 R.fs)) := by rw [cell_of_heap HB6.out]; rfl
      have b63 : (w6.alloc (.cells #[.int .i64 (taken R.fs), .int .i64 (countOf 0 R.fs), .int .i64 (countOf 1 R.fs), .bool R.shut] 37)).cell? ⟨w6.heap.size, 3, none⟩ = some (.bool R.shut) := by rw [cell_of_heap HB6.out]; rfl
      have b70 : (w6.alloc (.cells #[.int .i64 (taken R.fs), .int .i64 (countOf 0 R.fs), .int .i64 (countOf 1 R.fs), .bool R.shut] 37)).cell? ⟨w3.heap.size, 0, none⟩ = some (.int .i64 (taken R.fs)) := by rw [cell_of_heap HB7.out]; rfl
      have b71 : (w6.alloc (.cells #[.int .i64 (taken R.fs), .int .i64 (countOf 0 R.fs), .int .i64 (countOf 1 R.fs), .bool R.shut] 37)).cell? ⟨w3.heap.size, 1, none⟩ = some (.int .i64 (countOf 0 R.fs)) := by rw [cell_of_heap HB7.out]; rfl
      have b72 : (w6.alloc (.cells #[.int .i64 (taken R.fs), .int .i64 (countOf 0 R.fs), .int .i64 (countOf 1 R.fs), .bool R.shut] 37)).cell? ⟨w3.heap.size, 2, none⟩ = some (.int .i64 (countOf 1 R.fs)) := by rw [cell_of_heap HB7.out]; rfl
      have b73 : (w6.alloc (.cells #[.int .i64 (taken R.fs), .int .i64 (countOf 0 R.fs), .int .i64 (countOf 1 R.fs), .bool R.shut] 37)).cell? ⟨w3.heap.size, 3, none⟩ = some (.bool R.shut) := by rw [cell_of_heap HB7.out]; rfl
      have HST : Hid (ST (w6.alloc (.cells #[.int .i64 (taken R.fs), .int .i64 (countOf 0 R.fs), .int .i64 (countOf 1 R.fs), .bool R.shut] 37)) B sb rb yb qb R N waits held) := ⟨HM7.out.1, H3.out.fit, ⟨wv, hv, nv, HQ7.out, hqb1, hqb2, hqb3⟩, H3.out.rel, fun j hj => HRX.out.2 j ((HM7.out.2 j).1 hj), H3.out.qB, Nat.le_trans H.out.size HFB.out.size⟩
      unfold needs at p2
      have hq1 : (R.g : Int) < 2 * (((d.length : Int) + 9) / 8) := by omega
      clear p1
      go_wp2_with fail
      go_ret
      exact ⟨rfl, HFB, R, N, waits, held, HST, rfl, by omega, trivial⟩
    · rw [p1] at HB6 HM7 HFB HQ7 HB7 ⊢
      simp only at HB6 HM7 HFB HQ7 HB7 ⊢
      have b60 : (w6.alloc (.cells #[.int .i64 (taken R.fs), .int .i64 (countOf 0 R.fs), .int .i64 (countOf 1 R.fs), .bool R.shut] 37)).cell? ⟨w6.heap.size, 0, none⟩ = some (.int .i64 (taken R.fs)) := by rw [cell_of_heap HB6.out]; rfl
      have b61 : (w6.alloc (.cells #[.int .i64 (taken R.fs), .int .i64 (countOf 0 R.fs), .int .i64 (countOf 1 R.fs), .bool R.shut] 37)).cell? ⟨w6.heap.size, 1, none⟩ = some (.int .i64 (countOf 0 R.fs)) := by rw [cell_of_heap HB6.out]; rfl
      have b62 : (w6.alloc (.cells #[.int .i64 (taken R.fs), .int .i64 (countOf 0 R.fs), .int .i64 (countOf 1 R.fs), .bool R.shut] 37)).cell? ⟨w6.heap.size, 2, none⟩ = some (.int .i64 (countOf 1 R.fs)) := by rw [cell_of_heap HB6.out]; rfl
      have b63 : (w6.alloc (.cells #[.int .i64 (taken R.fs), .int .i64 (countOf 0 R.fs), .int .i64 (countOf 1 R.fs), .bool R.shut] 37)).cell? ⟨w6.heap.size, 3, none⟩ = some (.bool R.shut) := by rw [cell_of_heap HB6.out]; rfl
      have b70 : (w6.alloc (.cells #[.int .i64 (taken R.fs), .int .i64 (countOf 0 R.fs), .int .i64 (countOf 1 R.fs), .bool R.shut] 37)).cell? ⟨w3.heap.size, 0, none⟩ = some (.int .i64 (taken R.fs)) := by rw [cell_of_heap HB7.out]; rfl
      have b71 : (w6.alloc (.cells #[.int .i64 (taken R.fs), .int .i64 (countOf 0 R.fs), .int .i64 (countOf 1 R.fs), .bool R.shut] 37)).cell? ⟨w3.heap.size, 1, none⟩ = some (.int .i64 (countOf 0 R.fs)) := by rw [cell_of_heap HB7.out]; rfl
      have b72 : (w6.alloc (.cells #[.int .i64 (taken R.fs), .int .i64 (countOf 0 R.fs), .int .i64 (countOf 1 R.fs), .bool R.shut] 37)).cell? ⟨w3.heap.size, 2, none⟩ = some (.int .i64 (countOf 1 R.fs)) := by rw [cell_of_heap HB7.out]; rfl
      have b73 : (w6.alloc (.cells #[.int .i64 (taken R.fs), .int .i64 (countOf 0 R.fs), .int .i64 (countOf 1 R.fs), .bool R.shut] 37)).cell? ⟨w3.heap.size, 3, none⟩ = some (.bool R.shut) := by rw [cell_of_heap HB7.out]; rfl
      have HST : Hid (ST (w6.alloc (.cells #[.int .i64 (taken R.fs), .int .i64 (countOf 0 R.fs), .int .i64 (countOf 1 R.fs), .bool R.shut] 37)) B sb rb yb qb R N waits held) := ⟨HM7.out.1, H3.out.fit, ⟨wv, hv, nv, HQ7.out, hqb1, hqb2, hqb3⟩, H3.out.rel, fun j hj => HRX.out.2 j ((HM7.out.2 j).1 hj), H3.out.qB, Nat.le_trans H.out.size HFB.out.size⟩
      unfold needs at p2 p3
      have hq1 : 2 * (((d.length : Int) + 9) / 8) ≤ (R.g : Int) := by omega
      have hq2 : (R.g : Int) < (taken R.fs : Int) + 2 * (((d.length : Int) + 9) / 8) := by omega
      clear p1
      go_wp2_with fail
      go_ret
      exact ⟨rfl, HFB, R, N, waits, held, HST, rfl, by omega, trivial⟩

end Go.Proofs.Ytnhkalnihjkoeaa
