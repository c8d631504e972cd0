/- A value's steps and the part behind one. -/
import Derived.Test.YtnhkalnihjkoeaaGreatDoorGtPLay
import Derived.Test.YtnhkalnihjkoeaaGreatDoorGtVDec
import Derived.Test.YtnhkalnihjkoeaaGreatDoorGtDPure
namespace Go.Proofs.YtnhkalnihjkoeaaGreatDoor
open Go.RowKit

theorem Fr.grow (X : Nat → Prop) (w : World) (os : Array Obj) : Fr X w (Go.Sort.grow w os) :=
  ⟨rfl, rfl, rfl, by show w.heap.size ≤ (w.heap ++ os).size; rw [Array.size_append]; omega, fun i hi _ => by show (w.heap ++ os)[i]? = w.heap[i]?; rw [Array.getElem?_append_left hi]⟩
theorem PowT.drawn {w : World} (h : PowT w) {w' : World} (hf : Fr Zero w w') : PowT w' := h.keep hf (fun h => h)

set_option maxHeartbeats 8000000 in
set_option maxRecDepth 100000 in
theorem pstep_any (w : World) (c : VC) (v : PV) (hV : VR w Zero c v) (hc : ∃ o n j, c.sv = .slice o n j) (i : Nat) (hP : PowT w) (hi : i ≤ 1000000) (hk : v.of.kind = 7 ∨ v.of.kind = 8 ∨ (v.of.kind = 9 ∧ i < v.of.subs.length) ∨ (v.of.kind = 10 ∧ ∃ j : Nat, v.num = j ∧ j < v.of.subs.length)) :
    Calls Tryz.prog 211 #[c.val, .int .i64 i] w fun e w' => Fr Zero w w' ∧ e = .returned (.string (ba (stepOf v.of v.num i))) := by
  obtain ⟨k, hV⟩ := hV
  rcases k with _ | k
  · exact hV.elim
  obtain ⟨ca, cn, cb, csv⟩ := c
  obtain ⟨htr, hn, hb, rows, hO, hx, hl, hr⟩ := hV
  simp only at htr hn hb hO hc
  obtain ⟨o, nn, jj, rfl⟩ := hc
  subst hn hb
  obtain ⟨tb, tsv, trows, rfl, htb, htx, hTO, hTx, hTn, hTl, hTs⟩ := htr.open
  have htl := lt_of_heap htb
  have k0 : w.cell? ⟨tb, 0, none⟩ = some (.int .i64 v.of.kind) := by rw [cell_of_heap htb]; rfl
  have HP := hide hP
  simp only [VC.val]
  rcases hk with h7 | h8 | ⟨h9, hi9⟩ | ⟨h10, j, hj, hjl⟩
  · have HE : Hid (stepOf v.of v.num i = decN 20 i) := by show _ = _; unfold stepOf; rw [if_pos h7]
    rw [h7] at k0
    have hA : Hid (PowT (w.alloc (.cells #[.pointer (some ⟨tb, 0, none⟩), .int .i64 v.num, .string (ba v.bytes), .slice o nn jj] 135))) := HP.out.drawn (Fr.alloc _ _ _)
    have hdec : Hid (decN 20 i = Lib.itoa (i : Int)) := by
      show _ = _
      rw [← decI_itoa (i : Int) (by omega) (by omega)]
      unfold decI
      rw [if_neg (by omega)]
      simp
    clear hTO hTx hTn hTl hTs hO hx hl hr htb htx htr h7 hP
    go_enter Tryz.func211, Tryz.ntmps211
    go_wp2_with fail
    refine (Any.strconv_Itoa laysM171 (i : Int) (by omega) (by omega) _ hA.out).mono ?_
    rintro e w1 ⟨rfl, kk, os, hw1⟩
    have HF1 : Hid (Fr Zero w w1) := by
      rw [hw1]
      exact ((Fr.alloc _ _ _).trans (Fr.drewN _ _ _)).trans (Fr.grow _ _ _)
    clear hw1
    go_wp2_with fail
    go_ret
    rw [HE.out, hdec.out]
    exact ⟨HF1, rfl⟩
  · have HE : Hid (stepOf v.of v.num i = [43]) := by show _ = _; unfold stepOf; rw [if_neg (by omega), if_pos h8]
    rw [h8] at k0
    clear hTO hTx hTn hTl hTs hO hx hl hr htb htx htr h8 hP
    go_enter Tryz.func211, Tryz.ntmps211
    go_wp2_with fail
    go_ret
    rw [HE.out]
    exact ⟨Fr.alloc _ _ _, rfl⟩
  · have HE : Hid (stepOf v.of v.num i = v.of.name i) := by show _ = _; unfold stepOf; rw [if_neg (by omega), if_neg (by omega), if_pos h9]
    rw [h9] at k0
    have hit : i < trows.length := by omega
    obtain ⟨p, hp⟩ : ∃ p, trows[i]? = some p := ⟨trows[i], by simp⟩
    obtain ⟨pg, tcap, htsv⟩ := own_some hTO (by omega)
    subst htsv
    have hpl : pg < w.heap.size := (hTO.lt pg rfl).2
    obtain ⟨nl, hnl⟩ : ∃ nl, nl = p.1.data.toList := ⟨_, rfl⟩
    have hba : p.1 = ba nl := by rw [hnl, ba_data]
    have n0 : w.cell? ⟨pg, i * 2, none⟩ = some (.string (ba nl)) := by rw [hTO.cellAt (i * 2) (by omega), (rowCells_get trows i p hp).1, hba]
    have t1 : w.cell? ⟨tb, 1, none⟩ = some (.slice (some ⟨pg, 0, none⟩) trows.length tcap) := by rw [cell_of_heap htb]; rfl
    have HNM : Hid (v.of.name i = nl) := by
      show _ = _
      have h1 := congrArg (fun l => l[i]?) hTn
      simp only [List.getElem?_map, hp, Option.map_some] at h1
      unfold PT.name
      rw [← h1, hnl]
      rfl
    have hitI : (i : Int) < (trows.length : Int) := by omega
    clear hTO hTx hTn hTl hTs hO hx hl hr htb htx htr h9 hP hp hnl hba hi9
    go_enter Tryz.func211, Tryz.ntmps211
    go_wp2_with fail
    go_ret
    rw [HE.out, HNM.out]
    exact ⟨Fr.alloc _ _ _, rfl⟩
  · have HE : Hid (stepOf v.of v.num i = v.of.name j) := by show _ = _; unfold stepOf; rw [if_neg (by omega), if_neg (by omega), if_neg (by omega), hj]; simp
    rw [h10] at k0
    have hit : j < trows.length := by omega
    obtain ⟨p, hp⟩ : ∃ p, trows[j]? = some p := ⟨trows[j], by simp⟩
    obtain ⟨pg, tcap, htsv⟩ := own_some hTO (by omega)
    subst htsv
    have hpl : pg < w.heap.size := (hTO.lt pg rfl).2
    obtain ⟨nl, hnl⟩ : ∃ nl, nl = p.1.data.toList := ⟨_, rfl⟩
    have hba : p.1 = ba nl := by rw [hnl, ba_data]
    have n0 : w.cell? ⟨pg, j * 2, none⟩ = some (.string (ba nl)) := by rw [hTO.cellAt (j * 2) (by omega), (rowCells_get trows j p hp).1, hba]
    have t1 : w.cell? ⟨tb, 1, none⟩ = some (.slice (some ⟨pg, 0, none⟩) trows.length tcap) := by rw [cell_of_heap htb]; rfl
    have HNM : Hid (v.of.name j = nl) := by
      show _ = _
      have h1 := congrArg (fun l => l[j]?) hTn
      simp only [List.getElem?_map, hp, Option.map_some] at h1
      unfold PT.name
      rw [← h1, hnl]
      rfl
    have hitI : (j : Int) < (trows.length : Int) := by omega
    rw [hj]
    rw [hj] at HE
    clear hTO hTx hTn hTl hTs hO hx hl hr htb htx htr h10 hP hp hnl hba hjl hj
    go_enter Tryz.func211, Tryz.ntmps211
    go_wp2_with fail
    go_quiet (fail)
    go_wp2_with fail
    go_ret
    rw [HE.out, HNM.out]
    exact ⟨(Fr.alloc _ _ _).trans (Fr.drewN _ _ _), rfl⟩

end Go.Proofs.YtnhkalnihjkoeaaGreatDoor
