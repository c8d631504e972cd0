/- A queue's step that takes a frame that waits. -/
import Derived.Test.YtnhkalnihjkoeaaQOneTake
namespace Go.Proofs.Ytnhkalnihjkoeaa
open Go.RowKit

set_option maxHeartbeats 16000000 in
set_option maxRecDepth 100000 in
theorem one_take {w : World} {B sb rb yb qb N : Nat} {R : PR} {d : Bs} {ws : List Bs} {held : List (Nat × Bs)} (h : ST w B sb rb yb qb R N (d :: ws) held) (hN : N ≤ 100000) (k a : Int) (hk1 : -9223372036854775808 ≤ k) (hk2 : k ≤ 9223372036854775807) (hp : pickN k 7 = 3 ∨ pickN k 7 = 4) (g : Value) :
    Calls Try.prog 6 #[.pointer (some ⟨qb, 0, none⟩), .pointer (some ⟨sb, 0, none⟩), g, .agg #[.int .i64 k, .int .i64 a]] w fun e w' => OnePost w B sb rb yb qb R N (fun ws' hs n => ws' = ws ∧ hs.length = held.length + 1 ∧ n = N) e w' := by
  have H := hide h
  have HF0 : Hid (Fr Zero w (w.alloc (.cells #[.int .i64 k, .int .i64 a] 35))) := Fr.alloc _ _ _
  have H0 := hide (h.quiet HF0.out)
  have hbn := h.bounds
  clear h
  go_enter Try.func6, Try.ntmps6
  go_wp2_with fail
  generalize w.alloc (.cells #[.int .i64 k, .int .i64 a] 35) = w0 at *
  refine (pick_any k hk1 hk2 7 (by omega) (by omega) _).mono ?_
  rintro e w1 ⟨rfl, e1⟩
  obtain rfl := e1.symm
  generalize pickN k 7 = P at *
  obtain rfl | rfl := hp
  all_goals
    go_wp2_with fail
    refine (stake_any H0.out.sm (by omega) (by omega)).mono ?_
    rintro e w2 ⟨rfl, hF2, hM2⟩
    obtain ⟨t1, t2, t3, t4⟩ := H0.out.rel.take H0.out.fit
    rw [t1]
    obtain ⟨n, hn⟩ : ∃ n, (takeP R).1 = n := ⟨_, rfl⟩
    have hFT := H0.out.fit.take
    obtain ⟨R', hR'⟩ : ∃ R', (takeP R).2.2 = R' := ⟨_, rfl⟩
    have hRg : R'.g = R.g := by rw [← hR']; unfold takeP; split <;> rfl
    rw [hn] at t2 t3 ⊢
    rw [hR'] at t3 hFT hM2
    obtain ⟨wv, hv, nv, hq, hqb1, hqb2, hqb3⟩ := H0.out.qm
    have HRX := hide (H0.out.ring hF2)
    have hq2 := hq.ring H0.out.sm hF2
    have hl1 : (held.map (fun x => x.2)).length = held.length := by simp
    have hl2 : (held.map (fun x => x.1)).length = held.length := by simp
    obtain ⟨hs2, hhs2⟩ : ∃ l, held.map (fun x => x.2) = l := ⟨_, rfl⟩
    obtain ⟨ns, hns⟩ : ∃ l, held.map (fun x => x.1) = l := ⟨_, rfl⟩
    rw [hhs2] at hl1 hq2
    rw [hns] at hl2 hq2
    have HL1 := hide hl1
    have HL2 := hide hl2
    have hl3 : hs2.length ≤ 64 := by omega
    have hl4 : ns.length ≤ 64 := by omega
    clear hl1 hl2
    have HH2 := hide hhs2
    have HNS := hide hns
    obtain ⟨wb, wo, wc, rfl, hwc, hd1, hd2⟩ := hq2.rw_.drop (m := 1) (by simp) (by simp)
    obtain ⟨ha, hc, rfl⟩ := hq2.rh.len
    obtain ⟨na, nc, rfl⟩ := hq2.rn.len
    have c0 : w2.cell? ⟨wb, wo, none⟩ = some (.string (ba d)) := by
      obtain ⟨b1, b2, b3, e1, e2⟩ := hq2.rw_.at_ (j := 0) (u := .string (ba d)) (by simp [strC])
      simp at e1
      obtain ⟨⟨rfl, rfl⟩, rfl⟩ := e1
      exact e2
    have HQ2 := hide hq2
    have HD1 := hide hd1
    have HD2 := hide hd2
    have HM2 := hide hM2
    have HT3 := hide t3
    have HFT := hide hFT
    have HRG := hide hRg
    have k0 := hq2.at0
    have k1 := hq2.at1
    have hnl : n ≤ 100000 := by omega
    clear hq hq2 hd1 hd2 hM2 hF2 t1 t3 t4 hFT hRg hn hR' hhs2 hns
    simp only [List.length_cons] at k0 hwc
    go_wp2_with fail
    refine wp_region_held_drew (S := fun _ => True) (by kernel_rfl) trivial (fun hT => ?_)
    refine wtake0 (by kernel_rfl) (by kernel_rfl) (by kernel_rfl) (fun _ _ _ h => h) (Or.inl ⟨by rfl, fun W _ => by go_simp; try with_reducible rfl⟩) trivial ?_
    try simp only [Act.put, List.setIfInBounds_toArray, List.set_cons_zero, List.set_cons_succ]
    refine wtake1 (by kernel_rfl) (by kernel_rfl) (by kernel_rfl) (fun _ _ _ h => h) (Or.inl ⟨by rfl, fun W _ => by go_simp; try with_reducible rfl⟩) trivial ?_
    try simp only [Act.put, List.setIfInBounds_toArray, List.set_cons_zero, List.set_cons_succ]
    refine wtake2 (by kernel_rfl) (by kernel_rfl) (by kernel_rfl) (fun _ _ _ h => h) (Or.inl ⟨by rfl, fun W _ => by go_simp; try with_reducible rfl⟩) trivial ?_
    try simp only [Act.put, List.setIfInBounds_toArray, List.set_cons_zero, List.set_cons_succ]
    refine wtake3 (by kernel_rfl) (by kernel_rfl) (by kernel_rfl) (fun _ _ _ h => h) (Or.inl ⟨by rfl, fun W _ => by go_simp; try with_reducible rfl⟩) trivial ?_
    try simp only [Act.put, List.setIfInBounds_toArray, List.set_cons_zero, List.set_cons_succ]
    refine wtake5 (by kernel_rfl) (by kernel_rfl) (by kernel_rfl) (fun _ _ _ h => h) (Or.inl ⟨by rfl, fun W _ => by go_simp; try with_reducible rfl⟩) trivial ?_
    try simp only [Act.put, List.setIfInBounds_toArray, List.set_cons_zero, List.set_cons_succ]
    refine wtake6 (by kernel_rfl) (by kernel_rfl) (by kernel_rfl) (fun _ _ _ h => h) (Or.inl ⟨by rfl, fun W _ => by go_simp; try with_reducible rfl⟩) trivial ?_
    try simp only [Act.put, List.setIfInBounds_toArray, List.set_cons_zero, List.set_cons_succ]
    refine wtake7 (by kernel_rfl) (by kernel_rfl) (by kernel_rfl) (fun _ _ _ h => h) (Or.inl ⟨by rfl, fun W _ => by go_simp; try with_reducible rfl⟩) trivial ?_
    try simp only [Act.put, List.setIfInBounds_toArray, List.set_cons_zero, List.set_cons_succ]
    refine wpAnyH_ready (rs := [4, 8]) (by kernel_rfl) (by simp) ?_
    refine wcons4 (fun K hK => ?_) (wcons8 (fun K hK => ?_) AllReadyH.nil)
    focus
      go_simp
      refine hK.out _ _ trivial (fun _ => ?_)
      clear hK K
      try simp only [Act.put, List.setIfInBounds_toArray, List.set_cons_zero, List.set_cons_succ]
      refine wpAnyH_ready (rs := [8]) (by kernel_rfl) (by simp) ?_
      refine wcons8 (fun K hK => ?_) AllReadyH.nil
      go_simp
      refine hK.out _ _ trivial (fun _ => ?_)
      clear hK K
      try simp only [Act.put, List.setIfInBounds_toArray, List.set_cons_zero, List.set_cons_succ]
      refine wtake9 (by kernel_rfl) (by kernel_rfl) (by kernel_rfl) (fun _ _ _ h => h) (Or.inl ⟨by rfl, fun W _ => by go_simp; try with_reducible rfl⟩) trivial ?_
      try simp only [Act.put, List.setIfInBounds_toArray, List.set_cons_zero, List.set_cons_succ]
      refine wpAnyH_ready (rs := [10]) (by kernel_rfl) (by simp) ?_
      refine wcons10 (fun K hK => ?_) AllReadyH.nil
      go_simp
      refine hK.out _ _ trivial (fun _ => ?_)
      clear hK K
      try simp only [Act.put, List.setIfInBounds_toArray, List.set_cons_zero, List.set_cons_succ]
      refine wpAnyH_ready (rs := [11]) (by kernel_rfl) (by simp) ?_
      refine wcons11 (fun K hK => ?_) AllReadyH.nil
      go_simp
      have HFz : Hid (Fr Zero w2 (w2.alloc (.cells #[.string (ba d)] 9)).drew) := (Fr.alloc _ _ _).trans (Fr.drew _ _)
      have HQ3 := hide (HQ2.out.quiet HFz.out)
      have hnew : (w2.alloc (.cells #[.string (ba d)] 9)).drew.heap[w2.heap.size]? = some (.cells #[.string (ba d)] 9 (0, 0)) := heap_new_at rfl _
      have HSR : Hid (Src Try.prog 1 29 (.slice (some ⟨w2.heap.size, 0, none⟩) 1 1) 1 (strC [d]) (w2.alloc (.cells #[.string (ba d)] 9)).drew) := by
        refine Src.ofSlice _ Try.underlying29 _ _ _ _ rfl (fun j u hj => ?_) (fun u hu => ?_)
        · match j, hj with
          | 0, hj => simp [strC] at hj; subst hj; rw [show (⟨w2.heap.size, 0, none⟩ : Addr).add 0 = ⟨w2.heap.size, 0, none⟩ by simp [Addr.add]]; rw [cell_of_heap hnew]; rfl
          | j + 1, hj => simp [strC] at hj
        · simp [strC] at hu; subst hu; rfl
      refine hK.out _ _ trivial (fun _ => ?_)
      clear hK K
      try simp only [Act.put, List.setIfInBounds_toArray, List.set_cons_zero, List.set_cons_succ]
      generalize (w2.alloc (.cells #[.string (ba d)] 9)).drew = w3 at *
      have k1b := HQ3.out.at1
    rotate_left
    focus
      go_simp
      refine hK.out _ _ trivial (fun _ => ?_)
      clear hK K
      try simp only [Act.put, List.setIfInBounds_toArray, List.set_cons_zero, List.set_cons_succ]
      refine wtake9 (by kernel_rfl) (by kernel_rfl) (by kernel_rfl) (fun _ _ _ h => h) (Or.inl ⟨by rfl, fun W _ => by go_simp; try with_reducible rfl⟩) trivial ?_
      try simp only [Act.put, List.setIfInBounds_toArray, List.set_cons_zero, List.set_cons_succ]
      refine wpAnyH_ready (rs := [4, 10]) (by kernel_rfl) (by simp) ?_
      refine wcons4 (fun K hK => ?_) (wcons10 (fun K hK => ?_) AllReadyH.nil)
      focus
        go_simp
        refine hK.out _ _ trivial (fun _ => ?_)
        clear hK K
        try simp only [Act.put, List.setIfInBounds_toArray, List.set_cons_zero, List.set_cons_succ]
        refine wpAnyH_ready (rs := [10]) (by kernel_rfl) (by simp) ?_
        refine wcons10 (fun K hK => ?_) AllReadyH.nil
        go_simp
        refine hK.out _ _ trivial (fun _ => ?_)
        clear hK K
        try simp only [Act.put, List.setIfInBounds_toArray, List.set_cons_zero, List.set_cons_succ]
        refine wpAnyH_ready (rs := [11]) (by kernel_rfl) (by simp) ?_
        refine wcons11 (fun K hK => ?_) AllReadyH.nil
        go_simp
        have HFz : Hid (Fr Zero w2 (w2.alloc (.cells #[.string (ba d)] 9)).drew) := (Fr.alloc _ _ _).trans (Fr.drew _ _)
        have HQ3 := hide (HQ2.out.quiet HFz.out)
        have hnew : (w2.alloc (.cells #[.string (ba d)] 9)).drew.heap[w2.heap.size]? = some (.cells #[.string (ba d)] 9 (0, 0)) := heap_new_at rfl _
        have HSR : Hid (Src Try.prog 1 29 (.slice (some ⟨w2.heap.size, 0, none⟩) 1 1) 1 (strC [d]) (w2.alloc (.cells #[.string (ba d)] 9)).drew) := by
          refine Src.ofSlice _ Try.underlying29 _ _ _ _ rfl (fun j u hj => ?_) (fun u hu => ?_)
          · match j, hj with
            | 0, hj => simp [strC] at hj; subst hj; rw [show (⟨w2.heap.size, 0, none⟩ : Addr).add 0 = ⟨w2.heap.size, 0, none⟩ by simp [Addr.add]]; rw [cell_of_heap hnew]; rfl
            | j + 1, hj => simp [strC] at hj
          · simp [strC] at hu; subst hu; rfl
        refine hK.out _ _ trivial (fun _ => ?_)
        clear hK K
        try simp only [Act.put, List.setIfInBounds_toArray, List.set_cons_zero, List.set_cons_succ]
        generalize (w2.alloc (.cells #[.string (ba d)] 9)).drew = w3 at *
        have k1b := HQ3.out.at1
      rotate_left
      focus
        go_simp
        refine hK.out _ _ trivial (fun _ => ?_)
        clear hK K
        try simp only [Act.put, List.setIfInBounds_toArray, List.set_cons_zero, List.set_cons_succ]
        refine wpAnyH_ready (rs := [4, 11]) (by kernel_rfl) (by simp) ?_
        refine wcons4 (fun K hK => ?_) (wcons11 (fun K hK => ?_) AllReadyH.nil)
        focus
          go_simp
          refine hK.out _ _ trivial (fun _ => ?_)
          clear hK K
          try simp only [Act.put, List.setIfInBounds_toArray, List.set_cons_zero, List.set_cons_succ]
          refine wpAnyH_ready (rs := [11]) (by kernel_rfl) (by simp) ?_
          refine wcons11 (fun K hK => ?_) AllReadyH.nil
          go_simp
          have HFz : Hid (Fr Zero w2 (w2.alloc (.cells #[.string (ba d)] 9)).drew) := (Fr.alloc _ _ _).trans (Fr.drew _ _)
          have HQ3 := hide (HQ2.out.quiet HFz.out)
          have hnew : (w2.alloc (.cells #[.string (ba d)] 9)).drew.heap[w2.heap.size]? = some (.cells #[.string (ba d)] 9 (0, 0)) := heap_new_at rfl _
          have HSR : Hid (Src Try.prog 1 29 (.slice (some ⟨w2.heap.size, 0, none⟩) 1 1) 1 (strC [d]) (w2.alloc (.cells #[.string (ba d)] 9)).drew) := by
            refine Src.ofSlice _ Try.underlying29 _ _ _ _ rfl (fun j u hj => ?_) (fun u hu => ?_)
            · match j, hj with
              | 0, hj => simp [strC] at hj; subst hj; rw [show (⟨w2.heap.size, 0, none⟩ : Addr).add 0 = ⟨w2.heap.size, 0, none⟩ by simp [Addr.add]]; rw [cell_of_heap hnew]; rfl
              | j + 1, hj => simp [strC] at hj
            · simp [strC] at hu; subst hu; rfl
          refine hK.out _ _ trivial (fun _ => ?_)
          clear hK K
          try simp only [Act.put, List.setIfInBounds_toArray, List.set_cons_zero, List.set_cons_succ]
          generalize (w2.alloc (.cells #[.string (ba d)] 9)).drew = w3 at *
          have k1b := HQ3.out.at1
        rotate_left
        focus
          go_simp
          have HFz : Hid (Fr Zero w2 (w2.alloc (.cells #[.string (ba d)] 9)).drew) := (Fr.alloc _ _ _).trans (Fr.drew _ _)
          have HQ3 := hide (HQ2.out.quiet HFz.out)
          have hnew : (w2.alloc (.cells #[.string (ba d)] 9)).drew.heap[w2.heap.size]? = some (.cells #[.string (ba d)] 9 (0, 0)) := heap_new_at rfl _
          have HSR : Hid (Src Try.prog 1 29 (.slice (some ⟨w2.heap.size, 0, none⟩) 1 1) 1 (strC [d]) (w2.alloc (.cells #[.string (ba d)] 9)).drew) := by
            refine Src.ofSlice _ Try.underlying29 _ _ _ _ rfl (fun j u hj => ?_) (fun u hu => ?_)
            · match j, hj with
              | 0, hj => simp [strC] at hj; subst hj; rw [show (⟨w2.heap.size, 0, none⟩ : Addr).add 0 = ⟨w2.heap.size, 0, none⟩ by simp [Addr.add]]; rw [cell_of_heap hnew]; rfl
              | j + 1, hj => simp [strC] at hj
            · simp [strC] at hu; subst hu; rfl
          refine hK.out _ _ trivial (fun _ => ?_)
          clear hK K
          try simp only [Act.put, List.setIfInBounds_toArray, List.set_cons_zero, List.set_cons_succ]
          generalize (w2.alloc (.cells #[.string (ba d)] 9)).drew = w3 at *
          have k1b := HQ3.out.at1
          refine wpAnyH_ready (rs := [4]) (by kernel_rfl) (by simp) ?_
          refine wcons4 (fun K hK => ?_) AllReadyH.nil
          go_simp
          refine hK.out _ _ trivial (fun _ => ?_)
          clear hK K
          try simp only [Act.put, List.setIfInBounds_toArray, List.set_cons_zero, List.set_cons_succ]
    all_goals
      refine wpAnyH_ready (rs := [12]) (by kernel_rfl) (by simp) ?_
      refine wcons12 (fun K hK => ?_) AllReadyH.nil
      refine step_pappend rfl (.tmp 148) (.tmp 155) 29 29 rfl Try.underlying29 infoS rfl 1 (strC [d]) (by simp [Act.eval]) (by simp [Act.eval]) HQ3.out.rh HSR.out (by omega) (by omega) ?_
      intro v4 w4 hp4 hF4 hv4
      have hp4' : PRow w4 9 1 v4 (hs2 ++ [d]).length (strC (hs2 ++ [d])) := by simpa [strC] using hp4
      have HQ4 := hide (HQ3.out.seth hp4' hF4 hv4)
      have q1 : w4.cell? ⟨qb, 1, none⟩ = _ := (hF4.cell (a := ⟨qb, 1, none⟩) HQ3.out.lt (fun e => HQ3.out.rh.ne HQ3.out.q (by decide) e)).trans HQ3.out.at1
      have qf1 : w4.frozen? ⟨qb, 1, none⟩ = false := free_of_heap (hF4.keep HQ3.out.q (fun e => HQ3.out.rh.ne HQ3.out.q (by decide) e))
      have HF4 : Hid (Fr (fun j => blockOf (Value.slice ha hs2.length hc) = some j ∨ j = qb) w2 (w4.setCell ⟨qb, 1, none⟩ v4)) := (HFz.out.of0.trans (hF4.mono (fun j _ e => .inl e))).trans (Fr.setCell (fun j => blockOf (Value.slice ha hs2.length hc) = some j ∨ j = qb) w4 ⟨qb, 1, none⟩ v4 (.inr rfl))
      have HV4 : Hid (∀ g, blockOf v4 = some g → B ≤ g) := fun g hg => by
        rcases Nat.lt_or_ge g w3.heap.size with q | q
        · exact hqb2 g (hv4 g q hg)
        · exact Nat.le_trans (Nat.le_trans (Nat.le_trans H0.out.size HRX.out.1.size) HFz.out.size) q
      obtain ⟨va, vc, rfl⟩ := hp4'.len
      simp only [List.length_append, List.length_cons, List.length_nil, Nat.zero_add] at HQ4 HF4
      clear hp4 hp4' hF4 hv4
      refine hK.out _ _ trivial (fun _ => ?_)
      clear hK K
      try simp only [Act.put, List.setIfInBounds_toArray, List.set_cons_zero, List.set_cons_succ]
      refine wtake13 (by kernel_rfl) (by kernel_rfl) (by kernel_rfl) (fun _ _ _ h => h) (Or.inl ⟨by rfl, fun W _ => by go_simp; try with_reducible rfl⟩) trivial ?_
      try simp only [Act.put, List.setIfInBounds_toArray, List.set_cons_zero, List.set_cons_succ]
      refine wtake14 (by kernel_rfl) (by kernel_rfl) (by kernel_rfl) (fun _ _ _ h => h) (Or.inl ⟨by rfl, fun W _ => by go_simp; try with_reducible rfl⟩) trivial ?_
      try simp only [Act.put, List.setIfInBounds_toArray, List.set_cons_zero, List.set_cons_succ]
      refine wpAnyH_ready (rs := [15]) (by kernel_rfl) (by simp) ?_
      refine wcons15 (fun K hK => ?_) AllReadyH.nil
      go_simp
      refine hK.out _ _ trivial (fun _ => ?_)
      clear hK K
      try simp only [Act.put, List.setIfInBounds_toArray, List.set_cons_zero, List.set_cons_succ]
      refine wpAnyH_done (by kernel_rfl) ?_ _
      clear k0 k1 k1b q1 qf1 c0
      generalize w4.setCell ⟨qb, 1, none⟩ (Value.slice va (hs2.length + 1) vc) = w5 at *
      have k2 := HQ4.out.at2
      have HSN : Hid (Src Try.prog 1 30 (.slice (some ⟨w5.heap.size, 0, none⟩) 1 1) 1 (natC [n]) (w5.alloc (.cells #[.int .i64 n] 3))) := by
        refine Src.ofSlice _ Try.underlying30 _ _ _ _ rfl (fun j u hj => ?_) (fun u hu => ?_)
        · match j, hj with
          | 0, hj => simp [natC] at hj; subst hj; rw [show (⟨w5.heap.size, 0, none⟩ : Addr).add 0 = ⟨w5.heap.size, 0, none⟩ by simp [Addr.add]]; rw [cell_of_heap (heap_new_at rfl _)]; rfl
          | j + 1, hj => simp [natC] at hj
        · simp [natC] at hu; subst hu; rfl
      have HFy : Hid (Fr Zero w5 (w5.alloc (.cells #[.int .i64 n] 3))) := Fr.alloc _ _ _
      have HQ5 := hide (HQ4.out.quiet HFy.out)
      go_wp2_with (at_builtin; refine wpList_pappend rfl (.tmp 163) (.tmp 165) 30 30 rfl Try.underlying30 infoI rfl 1 (natC [n]) rfl rfl HQ5.out.rn HSN.out ?hl9 ?h639 ?_)
      case hl9 => omega
      case h639 => omega
      intro v6 w6 hp6 hF6 hv6
      have hp6' : PRow w6 3 1 v6 (ns ++ [n]).length (natC (ns ++ [n])) := by simpa [natC] using hp6
      have HQ6 := hide (HQ5.out.setn hp6' hF6)
      have q2 : w6.cell? ⟨qb, 2, none⟩ = _ := (hF6.cell (a := ⟨qb, 2, none⟩) HQ5.out.lt (fun e => HQ5.out.rn.ne HQ5.out.q (by decide) e)).trans HQ5.out.at2
      have qf2 : w6.frozen? ⟨qb, 2, none⟩ = false := free_of_heap (hF6.keep HQ5.out.q (fun e => HQ5.out.rn.ne HQ5.out.q (by decide) e))
      have HF6 : Hid (Fr (fun j => blockOf (Value.slice ha hs2.length hc) = some j ∨ blockOf (Value.slice na ns.length nc) = some j ∨ j = qb) w2 (w6.setCell ⟨qb, 2, none⟩ v6)) := (((HF4.out.mono (fun j _ e => by rcases e with e | e; exact .inl e; exact .inr (.inr e))).trans HFy.out.of0).trans (hF6.mono (fun j _ e => .inr (.inl e)))).trans (Fr.setCell (fun j => blockOf (Value.slice ha hs2.length hc) = some j ∨ blockOf (Value.slice na ns.length nc) = some j ∨ j = qb) w6 ⟨qb, 2, none⟩ v6 (.inr (.inr rfl)))
      have HV6 : Hid (∀ g, blockOf v6 = some g → B ≤ g) := fun g hg => by
        rcases Nat.lt_or_ge g (w5.alloc (.cells #[.int .i64 n] 3)).heap.size with q | q
        · exact hqb3 g (hv6 g (by simpa using q) hg)
        · exact Nat.le_trans (Nat.le_trans (Nat.le_trans (Nat.le_trans H0.out.size HRX.out.1.size) HF4.out.size) HFy.out.size) q
      obtain ⟨ua, uc, rfl⟩ := hp6'.len
      simp only [List.length_append, List.length_cons, List.length_nil, Nat.zero_add] at HQ6 HF6
      obtain ⟨wb', wo', wc', ew, hwc', hd1, hd2⟩ := HQ6.out.rw_.drop (m := 1) (by simp) (by simp)
      simp at ew
      obtain ⟨⟨rfl, rfl⟩, rfl⟩ := ew
      have z0 := HQ6.out.at0
      have zf0 := HQ6.out.free 0
      simp only [List.length_cons] at z0 hwc'
      clear hp6 hp6' hF6 hv6 k2
      by_cases hx1 : wc = 1
      · subst hx1
        obtain rfl : ws = [] := List.eq_nil_of_length_eq_zero (by omega)
        have HQ7 := hide (HQ6.out.cutw (v' := .slice (some ⟨wb, wo, none⟩) 0 0) (waits' := []) (by simpa [strC] using hd2 rfl) rfl)
        have y0 := HQ7.out.at0
        have y3 := HQ7.out.at3
        have hnN : (n : Int) = (N : Int) := by simp at t2; omega
        clear hd1 hd2
        go_wp2_with fail
        go_quiet (fail)
        go_wp2_with fail
        go_ret
        have HF8 : Hid (Fr (fun j => blockOf (Value.slice ha hs2.length hc) = some j ∨ blockOf (Value.slice na ns.length nc) = some j ∨ j = qb) w2 (((w6.setCell ⟨qb, 2, none⟩ (Value.slice ua (ns.length + 1) uc)).setCell ⟨qb, 0, none⟩ (Value.slice (some ⟨wb, wo, none⟩) 0 0)).drewN nq)) := (HF6.out.trans (Fr.setCell (fun j => blockOf (Value.slice ha hs2.length hc) = some j ∨ blockOf (Value.slice na ns.length nc) = some j ∨ j = qb) _ ⟨qb, 0, none⟩ (Value.slice (some ⟨wb, wo, none⟩) 0 0) (.inr (.inr rfl)))).trans (Fr.drewN _ _ _)
        have HNX : Hid (∀ (j : Nat) (cs : Array Value) (t : TypeId) (f : Nat × Nat), w2.heap[j]? = some (.cells cs t f) → (t = 46 ∨ t = 55 ∨ t = 5 ∨ t = 62) → ¬ (blockOf (Value.slice ha hs2.length hc) = some j ∨ blockOf (Value.slice na ns.length nc) = some j ∨ j = qb)) := fun j cs t f hj ht e => by
          rcases e with e | e | e
          · exact HQ2.out.rh.ne hj (by rcases ht with rfl | rfl | rfl | rfl <;> decide) e
          · exact HQ2.out.rn.ne hj (by rcases ht with rfl | rfl | rfl | rfl <;> decide) e
          · rw [e, HQ2.out.q] at hj
            simp at hj
            rw [← hj.2.1] at ht
            rcases ht with h | h | h | h <;> exact absurd h (by decide)
        have hM8 := HM2.out.keep HF8.out HNX.out
        have hFB : Fr (From B) w (((w6.setCell ⟨qb, 2, none⟩ (Value.slice ua (ns.length + 1) uc)).setCell ⟨qb, 0, none⟩ (Value.slice (some ⟨wb, wo, none⟩) 0 0)).drewN nq) := (HF0.out.of0.trans HRX.out.1).trans (HF8.out.mono (fun j _ e => by
          rcases e with e | e | e
          · exact hqb2 j e
          · exact hqb3 j e
          · rw [e]; exact H0.out.qB))
        refine ⟨rfl, hFB, R', N, [], held ++ [(n, d)], ⟨hM8.1, HFT.out, ⟨Value.slice (some ⟨wb, wo, none⟩) 0 0, _, _, ?_, fun g hg => hqb1 g (by simpa [blockOf] using hg), fun g hg => HV4.out g (by simpa [blockOf] using hg), fun g hg => HV6.out g (by simpa [blockOf] using hg)⟩, HT3.out, fun j hj => HRX.out.2 j ((hM8.2 j).1 hj), H0.out.qB, Nat.le_trans H.out.size hFB.size⟩, HRG.out, by omega, rfl, by simp, rfl⟩
        rw [List.map_append, List.map_append, HH2.out, HNS.out]
        simp only [List.map_cons, List.map_nil]
        exact HQ7.out.quiet (Fr.drewN _ _ _)
      · have hx2 : 1 < wc := by omega
        have hx3 : (1 : Int) ≤ ((ws.length + 1 : Nat) : Int) := by omega
        have HQ7 := hide (HQ6.out.cutw (v' := .slice (some ⟨wb, wo + 1, none⟩) ws.length (wc - 1)) (waits' := ws) (by simpa [strC] using hd1 hx2) rfl)
        have y0 := HQ7.out.at0
        have y3 := HQ7.out.at3
        have hnN : (n : Int) = (N : Int) - (ws.length : Int) := by omega
        clear hd1 hd2
        go_wp2_with fail
        go_quiet (fail)
        go_wp2_with fail
        go_ret
        have HF8 : Hid (Fr (fun j => blockOf (Value.slice ha hs2.length hc) = some j ∨ blockOf (Value.slice na ns.length nc) = some j ∨ j = qb) w2 (((w6.setCell ⟨qb, 2, none⟩ (Value.slice ua (ns.length + 1) uc)).setCell ⟨qb, 0, none⟩ (Value.slice (some ⟨wb, wo + 1, none⟩) ws.length (wc - 1))).drewN nq)) := (HF6.out.trans (Fr.setCell (fun j => blockOf (Value.slice ha hs2.length hc) = some j ∨ blockOf (Value.slice na ns.length nc) = some j ∨ j = qb) _ ⟨qb, 0, none⟩ (Value.slice (some ⟨wb, wo + 1, none⟩) ws.length (wc - 1)) (.inr (.inr rfl)))).trans (Fr.drewN _ _ _)
        have HNX : Hid (∀ (j : Nat) (cs : Array Value) (t : TypeId) (f : Nat × Nat), w2.heap[j]? = some (.cells cs t f) → (t = 46 ∨ t = 55 ∨ t = 5 ∨ t = 62) → ¬ (blockOf (Value.slice ha hs2.length hc) = some j ∨ blockOf (Value.slice na ns.length nc) = some j ∨ j = qb)) := fun j cs t f hj ht e => by
          rcases e with e | e | e
          · exact HQ2.out.rh.ne hj (by rcases ht with rfl | rfl | rfl | rfl <;> decide) e
          · exact HQ2.out.rn.ne hj (by rcases ht with rfl | rfl | rfl | rfl <;> decide) e
          · rw [e, HQ2.out.q] at hj
            simp at hj
            rw [← hj.2.1] at ht
            rcases ht with h | h | h | h <;> exact absurd h (by decide)
        have hM8 := HM2.out.keep HF8.out HNX.out
        have hFB : Fr (From B) w (((w6.setCell ⟨qb, 2, none⟩ (Value.slice ua (ns.length + 1) uc)).setCell ⟨qb, 0, none⟩ (Value.slice (some ⟨wb, wo + 1, none⟩) ws.length (wc - 1))).drewN nq) := (HF0.out.of0.trans HRX.out.1).trans (HF8.out.mono (fun j _ e => by
          rcases e with e | e | e
          · exact hqb2 j e
          · exact hqb3 j e
          · rw [e]; exact H0.out.qB))
        refine ⟨rfl, hFB, R', N, ws, held ++ [(n, d)], ⟨hM8.1, HFT.out, ⟨Value.slice (some ⟨wb, wo + 1, none⟩) ws.length (wc - 1), _, _, ?_, fun g hg => hqb1 g (by simpa [blockOf] using hg), fun g hg => HV4.out g (by simpa [blockOf] using hg), fun g hg => HV6.out g (by simpa [blockOf] using hg)⟩, HT3.out, fun j hj => HRX.out.2 j ((hM8.2 j).1 hj), H0.out.qB, Nat.le_trans H.out.size hFB.size⟩, HRG.out, by omega, rfl, by simp, rfl⟩
        rw [List.map_append, List.map_append, HH2.out, HNS.out]
        simp only [List.map_cons, List.map_nil]
        exact HQ7.out.quiet (Fr.drewN _ _ _)

end Go.Proofs.Ytnhkalnihjkoeaa
