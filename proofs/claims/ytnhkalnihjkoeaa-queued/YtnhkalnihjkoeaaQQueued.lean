/- Queued: whatever the size and the steps. -/
import Derived.Test.YtnhkalnihjkoeaaQEnd
import Derived.Deep.LoopGhost
namespace Go.Proofs.Ytnhkalnihjkoeaa
open Go.RowKit

theorem ST.start {w w1 : World} {g sb : Nat} (hF : Fr Zero w w1) (hM : SM w1 sb (w.heap.size + 1) w.heap.size (newR g)) (hX : ∀ k, RX w1 (w.heap.size + 1) w.heap.size k → w.heap.size ≤ k) (h2 : 2 ≤ g) (h64 : g ≤ 64) :
    ST (w1.alloc (.cells #[.slice none 0 0, .slice none 0 0, .slice none 0 0, .int .i64 0] 32)) w.heap.size sb (w.heap.size + 1) w.heap.size w1.heap.size (newR g) 0 [] [] := by
  have hA : Fr Zero w1 (w1.alloc (.cells #[.slice none 0 0, .slice none 0 0, .slice none 0 0, .int .i64 0] 32)) := Fr.alloc _ _ _
  have hk := hM.keep hA (fun _ _ _ _ _ _ h => h)
  refine ⟨hk.1, Fit.new h2 h64, ⟨.slice none 0 0, .slice none 0 0, .slice none 0 0, ⟨heap_new_at rfl _, ?_, ?_, ?_, fun _ h => by simp [blockOf] at h⟩, fun _ h => by simp [blockOf] at h, fun _ h => by simp [blockOf] at h, fun _ h => by simp [blockOf] at h⟩, ⟨rfl, rfl, rfl, rfl⟩, fun k h => hX k ((hk.2 k).1 h), hF.size, Nat.le_trans hF.size hA.size⟩
  all_goals exact ⟨rfl, .inl ⟨rfl, rfl⟩⟩

set_option maxHeartbeats 16000000 in
set_option maxRecDepth 100000 in
theorem queued_any (w : World) (size : Int) (hs1 : -9223372036854775808 ≤ size) (hs2 : size ≤ 9223372036854775807) (o : Option Addr) (n c : Nat)
    (hS : ∀ i, i < n → ∃ (b off : Nat) (k a : Int), o = some ⟨b, off, none⟩ ∧ w.cell? ⟨b, off + i * 2, none⟩ = some (.int .i64 k) ∧ w.cell? ⟨b, off + i * 2 + 1, none⟩ = some (.int .i64 a) ∧ -9223372036854775808 ≤ k ∧ k ≤ 9223372036854775807 ∧ -9223372036854775808 ≤ a ∧ a ≤ 9223372036854775807) :
    Calls Try.prog 3 #[.int .i64 size, .slice o n c] w fun e w' => e = .returned (.bool true) ∧ Fr Zero w w' := by
  have HS := hide hS
  clear hS
  have hP := pickN_lt size (n := 63) (by omega)
  go_enter Try.func3, Try.ntmps3
  go_wp2_with fail
  refine (pick_any size hs1 hs2 63 (by omega) (by omega) _).mono ?_
  rintro e w0 ⟨rfl, e0⟩
  obtain rfl := e0.symm
  generalize pickN size 63 = P at *
  obtain ⟨g, hg⟩ : ∃ g : Nat, 2 + (P : Int) = (g : Int) := ⟨2 + P, by omega⟩
  have hg2 : 2 ≤ g := by omega
  have hg64 : g ≤ 64 := by omega
  go_wp2_with fail
  try rw [hg]
  refine (snew_at g hg2 hg64 _).mono ?_
  rintro e w1 ⟨sb, rfl, hF1, hM1, hsb, hX1⟩
  have HST := hide (ST.start hF1 hM1 hX1 hg2 hg64)
  have HF2 : Hid (Fr Zero w (w1.alloc (.cells #[.slice none 0 0, .slice none 0 0, .slice none 0 0, .int .i64 0] 32))) := hF1.trans (Fr.alloc _ _ _)
  clear hF1 hM1 hX1 hP hg
  go_wp2_with fail
  go_loopw [9] (fun iv wr => ∃ (i N : Nat) (R : PR) (waits : List Bs) (held : List (Nat × Bs)), i ≤ n ∧ i ≤ 200 ∧ iv = .int .i64 i ∧ N ≤ i ∧ R.g = g ∧ Hid (ST wr w.heap.size sb (w.heap.size + 1) w.heap.size w1.heap.size R N waits held) ∧ Hid (Fr Zero w wr)) (fun iv _ => n - (intOf iv).toNat)
  case atStart => exact ⟨0, 0, newR g, [], [], by omega, by omega, rfl, by omega, rfl, HST, HF2⟩
  case round =>
    clear HST HF2
    obtain ⟨i, N, R, waits, held, hi1, hi2, rfl, hN, rfl, HST, HF⟩ := hrel
    by_cases hr : i < n ∧ i < 200
    · obtain ⟨hr1, hr2⟩ := hr
      have hI1 : (i : Int) < (n : Int) := by omega
      have hI2 : (i : Int) < 200 := by omega
      obtain ⟨b, off, k, a, rfl, c0, c1, hk1, hk2, ha1, ha2⟩ := HS.out i hr1
      have hbl : b < w.heap.size := World.block_lt_of_cell? w _ c0
      rw [← HF.out.cell hbl (fun h => h)] at c0 c1
      go_wp2_with fail
      refine (one_any HST.out (by omega) k a hk1 hk2 ha1 ha2).mono ?_
      rintro e w2 ⟨rfl, hF2, R2, N2, waits2, held2, hST2, hRg, hN2, _⟩
      have HF2 := hide (HF.out.past hF2)
      have HST2 := hide hST2
      have hb2 := hST2.bounds
      clear hF2 hST2 HST HF c0 c1
      go_wp2_with fail
      refine (sroom_any HST2.out.sm (by omega) (by omega)).mono ?_
      rw [HST2.out.room]
      rintro e w3 ⟨rfl, hF3⟩
      have HF3 := hide (HF2.out.trans hF3)
      have HST3 := hide (HST2.out.quiet hF3)
      obtain ⟨wv, hv, nv, hq, _, _, _⟩ := HST3.out.qm
      have k0 := hq.at0
      have k1 := hq.at1
      have hqlt := hq.lt
      obtain ⟨wa, wc, rfl⟩ := hq.rw_.len
      obtain ⟨ha, hc, rfl⟩ := hq.rh.len
      rw [List.length_map] at k1
      clear hF3 hq HST2 HF2
      go_wp2_with fail
      go_quiet (fail)
      go_wp2_with fail
      exact ⟨⟨i + 1, N2, R2, waits2, held2, by omega, by omega, by go_num, by omega, hRg, HST3.out.quiet ((Fr.alloc _ _ _).trans (Fr.drewN _ _ _)), HF3.out.trans ((Fr.alloc _ _ _).trans (Fr.drewN _ _ _))⟩, by simp [intOf]; omega⟩
    · rcases (show ¬ i < n ∨ (i < n ∧ ¬ i < 200) by omega) with hq | ⟨hq, hq2⟩
      case' inl => have d1 : ¬ ((i : Int) < (n : Int)) := by omega
      case' inr =>
        have d1 : (i : Int) < (n : Int) := by omega
        have d2 : ¬ ((i : Int) < 200) := by omega
      all_goals
        clear hr
        go_wp2_with fail
        go_loopg [] (waits.length + held.length) (fun k wr => ∃ (N : Nat) (R2 : PR) (waits : List Bs) (held : List (Nat × Bs)), k = waits.length + held.length ∧ N ≤ 200 ∧ R2.g = R.g ∧ Hid (ST wr w.heap.size sb (w.heap.size + 1) w.heap.size w1.heap.size R2 N waits held) ∧ Hid (Fr Zero w wr))
        · exact ⟨N, R, waits, held, rfl, by omega, rfl, HST, HF⟩
        · clear HST HF
          obtain ⟨N2, R2, ws, hs, hk, hN2, hRg, HST2, HF2⟩ := hrel
          obtain ⟨wv, hv, nv, hq, _, _, _⟩ := HST2.out.qm
          have k0 := hq.at0
          have k1 := hq.at1
          have hqlt := hq.lt
          obtain ⟨wa, wc, rfl⟩ := hq.rw_.len
          obtain ⟨ha, hc, rfl⟩ := hq.rh.len
          rw [List.length_map] at k1
          have hb2 := HST2.out.bounds
          clear hq
          by_cases hz : ws.length + hs.length = 0
          · obtain rfl : ws = [] := List.eq_nil_of_length_eq_zero (by omega)
            obtain rfl : hs = [] := List.eq_nil_of_length_eq_zero (by omega)
            simp only [List.length_nil] at k0 k1
            go_wp2_with fail
            go_quiet (fail)
            go_wp2_with fail
            refine (sroom_any (HST2.out.quiet (Fr.drewN _ _ _)).sm (by omega) (by omega)).mono ?_
            rw [HST2.out.room]
            rintro e w3 ⟨rfl, hF3⟩
            have HF3 := hide (HF2.out.trans ((Fr.drewN _ _ _).trans hF3))
            have HST3 := hide (HST2.out.quiet ((Fr.drewN _ _ _).trans hF3))
            clear hF3 HST2 HF2 k0 k1
            go_wp2_with fail
            have hcz : (8 * ((R.g : Int) / 2) - 2) = ((8 * (R2.g / 2) - 2 : Nat) : Int) := by omega
            rw [hcz]
            refine (content_any 1 (8 * (R2.g / 2) - 2) (by omega) (by omega) _).mono ?_
            rintro e w4 ⟨⟨d, hd, rfl⟩, hF4⟩
            have HF4 := hide (HF3.out.trans ((Fr.alloc _ _ _).trans hF4))
            have HO := hide (hF4.keep (heap_new_at rfl _) (fun h => h))
            have HST4 := hide (HST3.out.quiet ((Fr.alloc _ _ _).trans hF4))
            obtain ⟨l1, l2, l3, l4, l5, l6⟩ := HST4.out.last d hd
            rw [l1] at HO
            have o0 : w4.cell? ⟨w3.heap.size, 0, none⟩ = some (.int .i64 0) := by rw [cell_of_heap HO.out]; rfl
            have holt : w3.heap.size < w4.heap.size := lt_of_heap HO.out
            have hT := HST4.out.fit.tidy
            have HT := hide hT
            have hds := ba_size d
            have HPL : Hid ((ba d).data.toList = d) := ba_list d
            clear hF4 HST3 HF3 hcz hT
            go_wp2_with fail
            refine (sput_any HST4.out.sm HT.out (ba d) (by omega)).mono ?_
            rw [HPL.out, l2]
            rintro e w5 ⟨rfl, hF5, hM5⟩
            have hR5 := HST4.out.ring hF5
            have HF5 := hide (HF4.out.past hR5.1)
            have HM5 := hide hM5
            have hO5 : ¬ RX w4 (w.heap.size + 1) w.heap.size w3.heap.size := fun e => by
              obtain ⟨fv, hr⟩ := HST4.out.sm.r
              exact hr.notX HO.out (by decide) (by decide) (by decide) e
            have HO5 := hide (hF5.fr.keep HO.out hO5)
            have o5 : w5.cell? ⟨w3.heap.size, 0, none⟩ = some (.int .i64 0) := by rw [cell_of_heap HO5.out]; rfl
            have holt5 : w3.heap.size < w5.heap.size := lt_of_heap HO5.out
            have hV : roomV (putP R2 d).2 = .agg #[.int .i64 (taken (putP R2 d).2.fs), .int .i64 1, .int .i64 (countOf 1 (putP R2 d).2.fs), .bool (putP R2 d).2.shut] := by unfold roomV; rw [l3]; rfl
            have HV := hide hV
            clear hF5 hM5 hR5 hO5 hV o0 holt HF4 HST4 l3 l2
            go_wp2_with fail
            refine (sroom_any HM5.out (by omega) (by omega)).mono ?_
            rw [HV.out]
            rintro e w6 ⟨rfl, hF6⟩
            have HF6 := hide (HF5.out.trans hF6)
            have HO6 := hide (hF6.keep HO5.out (fun h => h))
            have o6 : w6.cell? ⟨w3.heap.size, 0, none⟩ = some (.int .i64 0) := by rw [cell_of_heap HO6.out]; rfl
            have holt6 : w3.heap.size < w6.heap.size := lt_of_heap HO6.out
            have hge : ((R.g : Int) / 2) ≤ ((taken (putP R2 d).2.fs : Nat) : Int) := by omega
            clear hF6 o5 holt5 HM5 HF5
            go_wp2_with fail
            go_ret
            exact ⟨rfl, HF6.out.trans (Fr.alloc _ _ _)⟩
          · have hzI : (0 : Int) < (ws.length : Int) + (hs.length : Int) := by omega
            go_wp2_with fail
            go_quiet (fail)
            go_wp2_with fail
            refine (one_drain (HST2.out.quiet (Fr.drewN _ _ _)) (by omega) 0 _).mono ?_
            rintro e w3 ⟨rfl, hF3, R3, N3, ws3, hs3, hST3, hRg3, _, hN3, hl1, hl2⟩
            have HF3 := hide ((HF2.out.trans (Fr.drewN _ _ _)).past hF3)
            have HST3 := hide hST3
            obtain ⟨wv3, hv3, nv3, hq3, _, _, _⟩ := hST3.qm
            have j1 := hq3.at1
            have hqlt3 := hq3.lt
            obtain ⟨ha3, hc3, rfl⟩ := hq3.rh.len
            rw [List.length_map] at j1
            have hb3 := hST3.bounds
            have hpos : 0 < hs3.length := by omega
            have hzb : (((hs3.length : Nat) : Int) == 0) = false := beq_eq_false_iff_ne.2 (by omega)
            clear hq3 hF3 hST3 HST2 HF2 k0 k1
            go_wp2_with fail
            refine (one_release HST3.out hpos (by omega) ((hs3.length : Int) - 1) (by omega) (by omega) _).mono ?_
            rintro e w4 ⟨rfl, hF4, R4, N4, ws4, hs4, hST4, hRg4, _, hN4, hl3, hl4⟩
            have HF4 := hide (HF3.out.past hF4)
            have HST4 := hide hST4
            clear hF4 hST4 HF3 HST3 j1
            go_wp2_with fail
            go_roundg (ws4.length + hs4.length)
            · exact ⟨N4, R4, ws4, hs4, rfl, by omega, by omega, HST4, HF4⟩
            · omega

end Go.Proofs.Ytnhkalnihjkoeaa
