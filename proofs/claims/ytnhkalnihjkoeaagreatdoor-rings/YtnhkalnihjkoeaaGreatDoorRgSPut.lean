/- The document's ring: its granules, Put. -/
import Derived.Test.YtnhkalnihjkoeaaGreatDoorRgQReg
import Derived.Test.YtnhkalnihjkoeaaGreatDoorRgSRing
namespace Go.Proofs.YtnhkalnihjkoeaaGreatDoor.Q
open Go.RowKit

theorem RQ.frame {w : World} {qb : Nat} {Q : RR} {fv : Value} (h : RQ w qb Q fv) {i : Nat} {f : RF} (hf : Q.fs[i]? = some f) : ∃ fb off cap, fv = .slice (some ⟨fb, off, none⟩) Q.fs.length cap ∧ w.cell? ⟨fb, off + i * 3, none⟩ = some (.string (ba f.bytes)) ∧ w.cell? ⟨fb, off + i * 3 + 1, none⟩ = some (.int .i64 f.takes) ∧ w.cell? ⟨fb, off + i * 3 + 2, none⟩ = some (.int .i64 f.how) ∧ (∀ o, w.frozen? ⟨fb, o, none⟩ = false) := by
  obtain ⟨c0, c1, c2⟩ := rsCells_at hf
  obtain ⟨fb, off, cap, e0, q0⟩ := h.f.at_ c0
  obtain ⟨fb1, off1, cap1, e1, q1⟩ := h.f.at_ c1
  obtain ⟨fb2, off2, cap2, e2, q2⟩ := h.f.at_ c2
  rw [e0] at e1 e2
  simp at e1 e2
  obtain ⟨⟨rfl, rfl⟩, rfl⟩ := e1
  obtain ⟨⟨rfl, rfl⟩, _⟩ := e2
  refine ⟨fb, off, cap, e0, q0, by rw [Nat.add_assoc]; exact q1, by rw [Nat.add_assoc]; exact q2, fun o => ?_⟩
  obtain ⟨cur, hc⟩ := h.f.typed (g := fb) (by rw [e0]; simp [blockOf])
  exact free_of_heap hc

set_option maxHeartbeats 8000000 in
set_option maxRecDepth 100000 in
theorem rtaken_any {w : World} {qb : Nat} {Q : RR} {fv : Value} (h : RQ w qb Q fv) (ht : takenR Q.fs ≤ 1000000) (hl : Q.fs.length ≤ 3000000000000) :
    Calls Tryz.prog 158 #[.pointer (some ⟨qb, 0, none⟩)] w fun e w' => e = .returned (.int .i64 (takenR Q.fs)) ∧ w' = w := by
  have H := hide h
  have k1 := h.at1
  obtain ⟨fa, fc, rfl⟩ := h.f.len
  clear h
  go_enter Tryz.func158, Tryz.ntmps158
  go_wp2_with fail
  go_loopw [3, 4, 5] (fun nv ov iv wr => ∃ i : Nat, i ≤ Q.fs.length ∧ nv = .int .i64 (takenR (Q.fs.take i)) ∧ ov = .bool (oldR (Q.fs.take i)) ∧ iv = .int .i64 i ∧ wr = w) (fun _ _ iv _ => Q.fs.length - (intOf iv).toNat)
  case atStart => exact ⟨0, by omega, rfl, rfl, rfl, rfl⟩
  case round =>
    obtain ⟨i, hi, rfl, rfl, rfl, hw⟩ := hrel
    subst hw
    by_cases hlt : i < Q.fs.length
    · have hI : (i : Int) < (Q.fs.length : Int) := by omega
      have hf : Q.fs[i]? = some Q.fs[i] := List.getElem?_eq_getElem hlt
      obtain ⟨fb, off, cap, e1, c0, c1, c2, _⟩ := H.out.frame hf
      obtain ⟨rfl, _, rfl⟩ : fa = some ⟨fb, off, none⟩ ∧ True ∧ fc = cap := by simp at e1; exact ⟨e1.1, trivial, e1.2⟩
      have HS := hide (takenR_snoc (Q.fs.take i) Q.fs[i])
      have HO : Hid (oldR (Q.fs.take i ++ [Q.fs[i]]) = (oldR (Q.fs.take i) || decide (Q.fs[i].how < 2))) := by show _ = _; unfold oldR; rw [List.any_append]; simp
      have HT : Hid (Q.fs.take (i + 1) = Q.fs.take i ++ [Q.fs[i]]) := take_snoc hf
      have hle := takenR_le Q.fs (i + 1)
      rw [HT.out, HS.out] at hle
      have hle0 := takenR_le Q.fs i
      clear e1
      generalize Q.fs[i] = f at *
      rcases ho : oldR (Q.fs.take i) with _ | _
      · rw [ho] at HS HO hle
        by_cases hh : f.how < 2
        · have hhI : (f.how : Int) < 2 := by omega
          rw [decide_eq_true hh] at HS HO hle
          rw [if_pos (by rfl)] at hle HS
          clear ho hf
          go_wp2_with fail
          exact ⟨⟨i + 1, by omega, by rw [HT.out, HS.out]; go_num, by rw [HT.out, HO.out]; rfl, by go_num, by trivial⟩, by simp [intOf]; omega⟩
        · have hhI : ¬ (f.how : Int) < 2 := by omega
          rw [decide_eq_false hh] at HS HO hle
          rw [if_neg (by decide)] at hle HS
          clear ho hf
          go_wp2_with fail
          exact ⟨⟨i + 1, by omega, by rw [HT.out, HS.out]; go_num, by rw [HT.out, HO.out]; rfl, by go_num, by trivial⟩, by simp [intOf]; omega⟩
      · rw [ho, Bool.true_or] at HS HO hle
        rw [if_pos rfl] at hle HS
        clear ho hf
        go_wp2_with fail
        exact ⟨⟨i + 1, by omega, by rw [HT.out, HS.out]; go_num, by rw [HT.out, HO.out], by go_num, by trivial⟩, by simp [intOf]; omega⟩
    · have hi' : i = Q.fs.length := by omega
      subst hi'
      have hI : ¬ (Q.fs.length : Int) < (Q.fs.length : Int) := by omega
      go_wp2_with fail
      go_ret
      exact ⟨rfl, by trivial⟩

theorem RQ.setf {w w' : World} {qb : Nat} {Q : RR} {fv fv' : Value} {fs' : List RF} (h : RQ w qb Q fv) (hF : PRow w' 172 3 fv' fs'.length (rsCells fs')) (hf : Fr (Owns fv) w w') (hv : ∀ k, k < w.heap.size → blockOf fv' = some k → blockOf fv = some k) :
    RQ (w'.setCell ⟨qb, 1, none⟩ fv') qb { Q with fs := fs' } fv' ∧ QFr qb w (w'.setCell ⟨qb, 1, none⟩ fv') := by
  have hr : w'.heap[qb]? = _ := hf.keep h.q (fun e => h.f.ne h.q (by decide) e)
  have hS : Fr (One qb) w' (w'.setCell ⟨qb, 1, none⟩ fv') := Fr.setCell _ _ _ _ rfl
  have hM : RQ (w'.setCell ⟨qb, 1, none⟩ fv') qb { Q with fs := fs' } fv' := by
    refine ⟨by rw [heap_setCell_same hr]; rfl, hF.keep hS (fun g hg e => ?_)⟩
    have e' : g = qb := e
    rw [e'] at hg
    exact hF.ne hr (by decide) hg
  refine ⟨hM, ⟨(hf.mono (fun k _ e => QX.mk h (.inr e))).trans (hS.mono (fun k _ e => QX.mk h (.inl e))), fun k hk hx => ?_⟩⟩
  rcases QX.of hM hx with e | e
  · exact QX.mk h (.inl e)
  · exact QX.mk h (.inr (hv k hk e))
theorem RQ.setn {w : World} {qb : Nat} {Q : RR} {fv : Value} (h : RQ w qb Q fv) (n : Nat) : RQ (w.setCell ⟨qb, 2, none⟩ (.int .i64 n)) qb { Q with next := n } fv ∧ QFr qb w (w.setCell ⟨qb, 2, none⟩ (.int .i64 n)) := by
  have hS : Fr (One qb) w (w.setCell ⟨qb, 2, none⟩ (.int .i64 n)) := Fr.setCell _ _ _ _ rfl
  have hM : RQ (w.setCell ⟨qb, 2, none⟩ (.int .i64 n)) qb { Q with next := n } fv := ⟨by rw [heap_setCell_same h.q]; rfl, h.f.keep hS (fun g hg e => by have e' : g = qb := e; rw [e'] at hg; exact h.f.ne h.q (by decide) hg)⟩
  refine ⟨hM, ⟨hS.mono (fun k _ e => QX.mk h (.inl e)), fun k _ hx => ?_⟩⟩
  rcases QX.of hM hx with e | e
  · exact QX.mk h (.inl e)
  · exact QX.mk h (.inr e)
theorem RQ.sets {w : World} {qb : Nat} {Q : RR} {fv : Value} (h : RQ w qb Q fv) (b : Bool) : RQ (w.setCell ⟨qb, 3, none⟩ (.bool b)) qb { Q with shut := b } fv ∧ QFr qb w (w.setCell ⟨qb, 3, none⟩ (.bool b)) := by
  have hS : Fr (One qb) w (w.setCell ⟨qb, 3, none⟩ (.bool b)) := Fr.setCell _ _ _ _ rfl
  have hM : RQ (w.setCell ⟨qb, 3, none⟩ (.bool b)) qb { Q with shut := b } fv := ⟨by rw [heap_setCell_same h.q]; rfl, h.f.keep hS (fun g hg e => by have e' : g = qb := e; rw [e'] at hg; exact h.f.ne h.q (by decide) hg)⟩
  refine ⟨hM, ⟨hS.mono (fun k _ e => QX.mk h (.inl e)), fun k _ hx => ?_⟩⟩
  rcases QX.of hM hx with e | e
  · exact QX.mk h (.inl e)
  · exact QX.mk h (.inr e)
theorem src_rframe {w : World} {n : Nat} (f : RF) {t : TypeId} (h : w.heap[n]? = some (.cells #[.string (ba f.bytes), .int .i64 f.takes, .int .i64 f.how] t (0, 0))) : Src Tryz.prog 3 100 (.slice (some ⟨n, 0, none⟩) 1 1) 1 (rcells f) w := by
  refine Src.ofSlice _ Tryz.underlying100 _ _ _ _ rfl (fun j u hj => ?_) (fun u hu => ?_)
  · rw [show (⟨n, 0, none⟩ : Addr).add j = ⟨n, j, none⟩ by simp [Addr.add]; omega, cell_of_heap h]
    match j, hj with
    | 0, hj => simpa [rcells] using hj
    | 1, hj => simpa [rcells] using hj
    | 2, hj => simpa [rcells] using hj
    | j + 3, hj => simp [rcells] at hj
  · simp [rcells] at hu
    rcases hu with rfl | rfl | rfl <;> rfl
theorem infoRF : (Tryz.prog.info? 172).map (fun i => (i.zero, i.size, i.bytes)) = some (some (.agg #[.string ⟨#[]⟩, .int .i64 0, .int .i64 0]), 3, 32) := by kernel_rfl

set_option maxHeartbeats 16000000 in
set_option maxRecDepth 100000 in
theorem rput_any {w : World} {qb : Nat} {Q : RR} {fv : Value} {R : PR} (h : RQ w qb Q fv) (hS : Same R Q) (hF : Fit R) (data : ByteArray) (hd : data.size ≤ 1000000000000000) (hl : Q.fs.length ≤ 3000000000000) :
    Calls Tryz.prog 80 #[.pointer (some ⟨qb, 0, none⟩), .string data] w fun e w' => e = .returned (.int .i64 (putP R data.data.toList).1) ∧ QFr qb w w' ∧ ∃ Q' fv', RQ w' qb Q' fv' ∧ Same (putP R data.data.toList).2 Q' := by
  have HSM := hide hS
  have HFT := hide hF
  have H := hide h
  have k0 := h.at0
  have k1 := h.at1
  have k2 := h.at2
  have k3 := h.at3
  have hqlt := h.lt
  rw [hS.g] at k0
  rw [hS.next] at k2
  rw [hS.shut] at k3
  have hdl : data.data.toList.length = data.size := Array.length_toList
  have hg2 := hF.g2
  have hg64 := hF.g64
  have hnx := hF.next
  have htk : takenR Q.fs ≤ 64 := by rw [hS.taken hF]; have := hF.tidy.taken; omega
  have HTK := hide (hS.taken hF)
  clear h hS hF
  cases hs : R.shut with
  | true =>
    have HU : Hid (putP R data.data.toList = (12, R)) := by show _ = _; unfold putP; rw [if_pos hs]
    rw [hs] at k3
    clear hs
    go_enter Tryz.func80, Tryz.ntmps80
    go_wp2_with fail
    go_ret
    rw [HU.out]
    exact ⟨rfl, QFr.refl _ _, _, _, H.out, HSM.out⟩
  | false =>
    rw [hs] at k3
    obtain ⟨N, hN⟩ : ∃ N, needs data.size = N := ⟨_, rfl⟩
    have hNI : ((data.size : Int) + 2 + 8 - 1) / 8 = (N : Int) := by rw [← hN]; unfold needs; omega
    have hNI2 : ((data.size : Int) + 9) / 8 = (N : Int) := by rw [← hN]; unfold needs; omega
    have hNl : N ≤ 1000000000000000 := by rw [← hN]; unfold needs; omega
    have hNd : needs data.data.toList.length = N := by rw [hdl]; exact hN
    by_cases h2 : R.g < 2 * N
    · have HU : Hid (putP R data.data.toList = (9, R)) := by show _ = _; unfold putP; rw [hNd, if_neg (by rw [hs]; decide), if_pos h2]
      have hI : (R.g : Int) < 2 * (N : Int) := by omega
      clear hs hN
      go_enter Tryz.func80, Tryz.ntmps80
      go_wp2_with fail
      go_ret
      rw [HU.out]
      exact ⟨rfl, QFr.refl _ _, _, _, H.out, HSM.out⟩
    · have hI0 : ¬ (R.g : Int) < 2 * (N : Int) := by omega
      obtain ⟨G, hG⟩ : ∃ G, (if R.g < R.next + N then R.g - R.next else 0) = G := ⟨_, rfl⟩
      have hgapE : gapOf R.g R.next N = G := by
        rw [← hG]
        unfold gapOf
        by_cases hc : R.g < R.next + N
        · rw [if_pos hc, if_pos (by omega)]
        · rw [if_neg hc, if_neg (by omega)]
      have HNEW : Hid ((putP R data.data.toList).1 = 0 → Same (putP R data.data.toList).2 { Q with fs := Q.fs ++ [⟨data.data.toList, G + N, 0⟩], next := (R.next + G + N) % R.g }) := fun h0 => by
        have := HSM.out.put data.data.toList h0 hnx hg64
        rw [hNd, hG] at this
        exact this
      have HFULL : Hid (R.g < taken R.fs + G + N → putP R data.data.toList = (10, R)) := fun h3 => by
        unfold putP
        rw [hNd, if_neg (by rw [hs]; decide), if_neg h2, hgapE, if_pos h3]
      have HROOM : Hid (¬ R.g < taken R.fs + G + N → (putP R data.data.toList).1 = 0) := fun h3 => by
        unfold putP
        rw [hNd, if_neg (by rw [hs]; decide), if_neg h2, hgapE, if_neg h3]
      have hGl : G ≤ 64 := by rw [← hG]; split <;> omega
      clear hs hN hgapE
      go_enter Tryz.func80, Tryz.ntmps80
      go_wp2_with fail
      by_cases hc : R.g < R.next + N
      · have hcI : (R.g : Int) < (R.next : Int) + (N : Int) := by omega
        rw [if_pos hc] at hG
        have hGI : (R.g : Int) - (R.next : Int) = (G : Int) := by omega
        go_quiet (fail)
        have HFa : Hid (Fr Zero w (w.drewN nq)) := Fr.drewN _ _ _
        have HM_w1 := hide (H.out.quiet HFa.out)
        have HF_w1 := hide (HFa.out)
        have a0 : (w.drewN nq).cell? ⟨qb, 0, none⟩ = some (.int .i64 R.g) := k0
        have a2 : (w.drewN nq).cell? ⟨qb, 2, none⟩ = some (.int .i64 R.next) := k2
        have a1 : (w.drewN nq).cell? ⟨qb, 1, none⟩ = some fv := k1
        generalize w.drewN nq = w1 at *
        clear HFa
        go_wp2_with fail
        go_quiet (fail)
        have HFa : Hid (Fr Zero w1 (w1.drewN nq)) := Fr.drewN _ _ _
        have HM_w2 := hide (HM_w1.out.quiet HFa.out)
        have HF_w2 := hide (HF_w1.out.trans HFa.out)
        have a0 : (w1.drewN nq).cell? ⟨qb, 0, none⟩ = some (.int .i64 R.g) := a0
        have a2 : (w1.drewN nq).cell? ⟨qb, 2, none⟩ = some (.int .i64 R.next) := a2
        have a1 : (w1.drewN nq).cell? ⟨qb, 1, none⟩ = some fv := a1
        generalize w1.drewN nq = w2 at *
        clear HFa
        go_wp2_with fail
        clear hG hc hcI
        have HMd := hide (HM_w2.out.quiet (Fr.drew Zero w2))
        refine wp_region_held_drew (S := fun W => W = w2.drew) (by kernel_rfl) rfl (fun hT => ?_)
        have a0 : w2.drew.cell? ⟨qb, 0, none⟩ = some (.int .i64 R.g) := a0
        refine wtake0 (by kernel_rfl) (by kernel_rfl) (by kernel_rfl) (fun _ _ _ h => h) (Or.inl ⟨by rfl, fun W hW => by subst hW; go_simp; try with_reducible rfl⟩) rfl ?_
        try simp only [Act.put, List.setIfInBounds_toArray, List.set_cons_zero, List.set_cons_succ]
        refine wtake2 (by kernel_rfl) (by kernel_rfl) (by kernel_rfl) (fun _ _ _ h => h) (Or.inl ⟨by rfl, fun W hW => by subst hW; go_simp; try with_reducible rfl⟩) rfl ?_
        try simp only [Act.put, List.setIfInBounds_toArray, List.set_cons_zero, List.set_cons_succ]
        refine wtake4 (by kernel_rfl) (by kernel_rfl) (by kernel_rfl) (fun _ _ _ h => h) (Or.inl ⟨by rfl, fun W hW => by subst hW; go_simp; try with_reducible rfl⟩) rfl ?_
        try simp only [Act.put, List.setIfInBounds_toArray, List.set_cons_zero, List.set_cons_succ]
        refine wtake6 (by kernel_rfl) (by kernel_rfl) (by kernel_rfl) (fun _ _ _ h => h) (Or.inl ⟨by rfl, fun W hW => by subst hW; go_simp; try with_reducible rfl⟩) rfl ?_
        try simp only [Act.put, List.setIfInBounds_toArray, List.set_cons_zero, List.set_cons_succ]
        refine wtake7 (by kernel_rfl) (by kernel_rfl) (by kernel_rfl) (fun _ _ _ h => h) (Or.inl ⟨by rfl, fun W hW => by subst hW; go_simp; try with_reducible rfl⟩) rfl ?_
        try simp only [Act.put, List.setIfInBounds_toArray, List.set_cons_zero, List.set_cons_succ]
        refine wtake8 (by kernel_rfl) (by kernel_rfl) (by kernel_rfl) (fun _ _ _ h => h) (Or.inl ⟨by rfl, fun W hW => by subst hW; go_simp; try with_reducible rfl⟩) rfl ?_
        try simp only [Act.put, List.setIfInBounds_toArray, List.set_cons_zero, List.set_cons_succ]
        refine wtake9 (by kernel_rfl) (by kernel_rfl) (by kernel_rfl) (fun _ _ _ h => h) (Or.inl ⟨by rfl, fun W hW => by subst hW; go_simp; try with_reducible rfl⟩) rfl ?_
        try simp only [Act.put, List.setIfInBounds_toArray, List.set_cons_zero, List.set_cons_succ]
        refine wpAnyH_ready (rs := [1]) (by kernel_rfl) (by simp) ?_
        refine wcons1 (fun K hK => ?_) AllReadyH.nil
        go_simp
        refine (rtaken_any HMd.out (by omega) (by omega)).mono ?_
        rintro e w3 ⟨rfl, e3⟩
        obtain rfl := e3.symm
        rw [HTK.out]
        rw [HTK.out] at htk
        go_wp2_with fail
        refine hK.out _ _ rfl (fun _ => ?_)
        clear hK K
        try simp only [Act.put, List.setIfInBounds_toArray, List.set_cons_zero, List.set_cons_succ]
        generalize taken R.fs = T at *
        have hwr1 : IntKind.i64.wrap ((T : Int) + (G : Int)) = (T : Int) + (G : Int) := by rw [IntKind.wrap_i64]; omega
        have hwr2 : IntKind.i64.wrap ((T : Int) + (G : Int) + (N : Int)) = (T : Int) + (G : Int) + (N : Int) := by rw [IntKind.wrap_i64]; omega
        have hwr3 : IntKind.i64.wrap ((T : Int) + (N : Int)) = (T : Int) + (N : Int) := by rw [IntKind.wrap_i64]; omega
        have hwr4 : IntKind.i64.wrap (T : Int) = (T : Int) := by rw [IntKind.wrap_i64]; omega
        by_cases h3 : R.g < T + G + N
        · have h3I : (R.g : Int) < (T : Int) + (G : Int) + (N : Int) := by omega
          have HU := hide (HFULL.out h3)
          refine wtake3 (by kernel_rfl) (by kernel_rfl) (by kernel_rfl) (fun _ _ _ h => h) (Or.inl ⟨by rfl, fun W hW => by subst hW; go_simp; try with_reducible rfl⟩) rfl ?_
          try simp only [Act.put, List.setIfInBounds_toArray, List.set_cons_zero, List.set_cons_succ]
          refine wtake5 (by kernel_rfl) (by kernel_rfl) (by kernel_rfl) (fun _ _ _ h => h) (Or.inl ⟨by rfl, fun W hW => by subst hW; go_simp; try with_reducible rfl⟩) rfl ?_
          try simp only [Act.put, List.setIfInBounds_toArray, List.set_cons_zero, List.set_cons_succ]
          refine wtake10 (by kernel_rfl) (by kernel_rfl) (by kernel_rfl) (fun _ _ _ h => h) (Or.inl ⟨by rfl, fun W hW => by subst hW; go_simp; try with_reducible rfl⟩) rfl ?_
          try simp only [Act.put, List.setIfInBounds_toArray, List.set_cons_zero, List.set_cons_succ]
          refine wpAnyH_done (by kernel_rfl) ?_ _
          go_wp2_with fail
          go_ret
          rw [HU.out]
          exact ⟨rfl, QFr.quiet H.out (HF_w2.out.trans (Fr.drew _ _)), _, ⟨_, HMd.out⟩, HSM.out⟩
        · have h3I : ¬ (R.g : Int) < (T : Int) + (G : Int) + (N : Int) := by omega
          have HU := hide (HROOM.out h3)
          have HSN := hide (HNEW.out HU.out)
          refine wtake3 (by kernel_rfl) (by kernel_rfl) (by kernel_rfl) (fun _ _ _ h => h) (Or.inl ⟨by rfl, fun W hW => by subst hW; go_simp; try with_reducible rfl⟩) rfl ?_
          try simp only [Act.put, List.setIfInBounds_toArray, List.set_cons_zero, List.set_cons_succ]
          refine wtake5 (by kernel_rfl) (by kernel_rfl) (by kernel_rfl) (fun _ _ _ h => h) (Or.inl ⟨by rfl, fun W hW => by subst hW; go_simp; try with_reducible rfl⟩) rfl ?_
          try simp only [Act.put, List.setIfInBounds_toArray, List.set_cons_zero, List.set_cons_succ]
          refine wtake10 (by kernel_rfl) (by kernel_rfl) (by kernel_rfl) (fun _ _ _ h => h) (Or.inl ⟨by rfl, fun W hW => by subst hW; go_simp; try with_reducible rfl⟩) rfl ?_
          try simp only [Act.put, List.setIfInBounds_toArray, List.set_cons_zero, List.set_cons_succ]
          refine wpAnyH_done (by kernel_rfl) ?_ _
          have HFd := hide (HF_w2.out.trans (Fr.drew Zero w2))
          have a1 : w2.drew.cell? ⟨qb, 1, none⟩ = some fv := a1
          generalize w2.drew = w4 at *
          have HB5 : Hid (Fr Zero w4 (w4.alloc (.cells #[.string data, .int .i64 ((G : Int) + (N : Int)), .int .i64 0] 172))) := Fr.alloc _ _ _
          have HM5 := hide (HMd.out.quiet HB5.out)
          have hq5 := HM5.out.lt
          have hq4 := HMd.out.lt
          have HSR : Hid (Src Tryz.prog 3 100 (.slice (some ⟨w4.heap.size, 0, none⟩) 1 1) 1 (rcells ⟨data.data.toList, G + N, 0⟩) (w4.alloc (.cells #[.string data, .int .i64 ((G : Int) + (N : Int)), .int .i64 0] 172))) := src_rframe (t := 172) ⟨data.data.toList, G + N, 0⟩ (by rw [heap_new_at rfl]; simp [ba_data])
          obtain ⟨fa, fc, rfl⟩ := HM5.out.f.len
          clear a0 a2 HNEW HFULL HROOM
          go_wp2_with (at_builtin; refine wpList_pappend rfl (.tmp 59) (.tmp 65) 100 100 rfl Tryz.underlying100 infoRF rfl 1 (rcells ⟨data.data.toList, G + N, 0⟩) rfl rfl HM5.out.f HSR.out ?hl9 ?h639 ?_)
          case hl9 => omega
          case h639 => omega
          intro v6 w6 hA6 hF6 hv6
          obtain ⟨nf, hnf⟩ : ∃ nf : RF, nf = ⟨data.data.toList, G + N, 0⟩ := ⟨_, rfl⟩
          rw [← hnf] at hA6 HSN
          obtain ⟨X, hX⟩ : ∃ X, (R.next + G + N) % R.g = X := ⟨_, rfl⟩
          have hX' : ((R.next : Int) + (G : Int) + (N : Int)) % (R.g : Int) = (X : Int) := by rw [← hX]; simp
          have HX : Hid ((R.next + G + N) % R.g = X) := hX
          clear hX
          have hA6' : PRow w6 172 3 v6 (Q.fs ++ [nf]).length (rsCells (Q.fs ++ [nf])) := by rw [rsCells_snoc]; simpa using hA6
          have HE := hide (HM5.out.setf hA6' hF6 (by simpa using hv6))
          have q1 : w6.cell? ⟨qb, 1, none⟩ = _ := (hF6.cell (a := ⟨qb, 1, none⟩) HM5.out.lt (fun e => HM5.out.f.ne HM5.out.q (by decide) e)).trans HM5.out.at1
          have q2 : w6.frozen? ⟨qb, 1, none⟩ = false := free_of_heap (hF6.keep HM5.out.q (fun e => HM5.out.f.ne HM5.out.q (by decide) e))
          obtain ⟨va, vc, rfl⟩ := hA6'.len
          clear hA6 hA6' hF6 hv6 a1
          go_wp2_with fail
          have HM7 := hide HE.out.1
          have HF7 := hide (((QFr.quiet H.out HFd.out).trans (QFr.quiet HMd.out HB5.out)).trans HE.out.2)
          simp only [List.length_append, List.length_cons, List.length_nil, Nat.zero_add] at HM7 HF7
          generalize w6.setCell ⟨qb, 1, none⟩ (.slice va (Q.fs.length + 1) vc) = w7 at *
          clear HE q1 q2
          have HM8 := hide (HM7.out.quiet (Fr.drew Zero w7))
          have j0 : w7.drew.cell? ⟨qb, 0, none⟩ = some (.int .i64 R.g) := by rw [← HSM.out.g]; exact HM8.out.at0
          have j2 : w7.drew.cell? ⟨qb, 2, none⟩ = some (.int .i64 R.next) := by rw [← HSM.out.next]; exact HM8.out.at2
          have jf : w7.drew.frozen? ⟨qb, 2, none⟩ = false := HM8.out.free 2
          have HMX := hide (HM7.out.setn X)
          have hgz : ((R.g : Int) == 0) = false := beq_eq_false_iff_ne.2 (by omega)
          have hg0 : ¬ ((R.g : Int) = 0) := by omega
          have hgN : ¬ R.g = 0 := by omega
          have hv1 : IntKind.i64.wrap ((R.next : Int) + (G : Int)) = (R.next : Int) + (G : Int) := by rw [IntKind.wrap_i64]; omega
          have hv2 : IntKind.i64.wrap ((R.next : Int) + (G : Int) + (N : Int)) = (R.next : Int) + (G : Int) + (N : Int) := by rw [IntKind.wrap_i64]; omega
          have htm : ((R.next : Int) + (G : Int) + (N : Int)).tmod (R.g : Int) = (X : Int) := by
            rw [Int.tmod_eq_emod_of_nonneg (by omega)]
            exact hX'
          refine wp_region_held_drew (S := fun W => W.cell? ⟨qb, 0, none⟩ = some (.int .i64 R.g)) (by kernel_rfl) j0 (fun hT => ?_)
          refine wtake0 (by kernel_rfl) (by kernel_rfl) (by kernel_rfl) (fun _ _ _ h => h) (Or.inl ⟨by rfl, fun W hW => by go_simp; try with_reducible rfl⟩) j0 ?_
          try simp only [Act.put, List.setIfInBounds_toArray, List.set_cons_zero, List.set_cons_succ]
          refine wtake1 (by kernel_rfl) (by kernel_rfl) (by kernel_rfl) (fun _ _ _ h => h) (Or.inl ⟨by rfl, fun W hW => by go_simp; try with_reducible rfl⟩) j0 ?_
          try simp only [Act.put, List.setIfInBounds_toArray, List.set_cons_zero, List.set_cons_succ]
          refine wtake2 (by kernel_rfl) (by kernel_rfl) (by kernel_rfl) (fun _ _ _ h => h) (Or.inl ⟨by rfl, fun W hW => by go_simp; try with_reducible rfl⟩) j0 ?_
          try simp only [Act.put, List.setIfInBounds_toArray, List.set_cons_zero, List.set_cons_succ]
          refine wtake3 (by kernel_rfl) (by kernel_rfl) (by kernel_rfl) (fun _ _ _ h => h) (Or.inl ⟨by rfl, fun W hW => by go_simp; try with_reducible rfl⟩) j0 ?_
          try simp only [Act.put, List.setIfInBounds_toArray, List.set_cons_zero, List.set_cons_succ]
          refine wtake5 (by kernel_rfl) (by kernel_rfl) (by kernel_rfl) (fun _ _ _ h => h) (Or.inl ⟨by rfl, fun W hW => by go_simp; try with_reducible rfl⟩) j0 ?_
          try simp only [Act.put, List.setIfInBounds_toArray, List.set_cons_zero, List.set_cons_succ]
          refine wtake7 (by kernel_rfl) (by kernel_rfl) (by kernel_rfl) (fun _ _ _ h => h) (Or.inl ⟨by rfl, fun W hW => by go_simp; try with_reducible rfl⟩) j0 ?_
          try simp only [Act.put, List.setIfInBounds_toArray, List.set_cons_zero, List.set_cons_succ]
          refine wtake9 (by kernel_rfl) (by kernel_rfl) (by kernel_rfl) (fun _ _ _ h => h) (Or.inl ⟨by rfl, fun W hW => by go_simp; try with_reducible rfl⟩) j0 ?_
          try simp only [Act.put, List.setIfInBounds_toArray, List.set_cons_zero, List.set_cons_succ]
          refine wtake10 (by kernel_rfl) (by kernel_rfl) (by kernel_rfl) (fun _ _ _ h => h) (Or.inl ⟨by rfl, fun W hW => by go_simp; try with_reducible rfl⟩) j0 ?_
          try simp only [Act.put, List.setIfInBounds_toArray, List.set_cons_zero, List.set_cons_succ]
          refine wtake11 (by kernel_rfl) (by kernel_rfl) (by kernel_rfl) (fun _ _ _ h => h) (Or.inl ⟨by rfl, fun W hW => by go_simp; try with_reducible rfl⟩) j0 ?_
          try simp only [Act.put, List.setIfInBounds_toArray, List.set_cons_zero, List.set_cons_succ]
          refine wtake12 (by kernel_rfl) (by kernel_rfl) (by kernel_rfl) (fun _ _ _ h => h) (Or.inl ⟨by rfl, fun W hW => by go_simp; try with_reducible rfl⟩) j0 ?_
          try simp only [Act.put, List.setIfInBounds_toArray, List.set_cons_zero, List.set_cons_succ]
          refine wpAnyH_ready (rs := [4]) (by kernel_rfl) (by simp) ?_
          refine wcons4 (fun K hK => ?_) AllReadyH.nil
          go_simp
          refine hK.out _ _ j0 (fun _ => ?_)
          clear hK K
          try simp only [Act.put, List.setIfInBounds_toArray, List.set_cons_zero, List.set_cons_succ]
          refine wtake6 (by kernel_rfl) (by kernel_rfl) (by kernel_rfl) (fun _ _ _ h => h) (Or.inl ⟨by rfl, fun W hW => by go_simp; try with_reducible rfl⟩) j0 ?_
          try simp only [Act.put, List.setIfInBounds_toArray, List.set_cons_zero, List.set_cons_succ]
          refine wtake8 (by kernel_rfl) (by kernel_rfl) (by kernel_rfl) (fun _ _ _ h => h) (Or.inl ⟨by rfl, fun W hW => by go_simp; try with_reducible rfl⟩) j0 ?_
          try simp only [Act.put, List.setIfInBounds_toArray, List.set_cons_zero, List.set_cons_succ]
          refine wtake13 (by kernel_rfl) (by kernel_rfl) (by kernel_rfl) (fun _ _ _ h => h) (Or.inl ⟨by rfl, fun W hW => by go_simp; try with_reducible rfl⟩) j0 ?_
          try simp only [Act.put, List.setIfInBounds_toArray, List.set_cons_zero, List.set_cons_succ]
          refine wtake14 (by kernel_rfl) (by kernel_rfl) (by kernel_rfl) (fun _ _ _ h => h) (Or.inl ⟨by rfl, fun W hW => by go_simp; try with_reducible rfl⟩) j0 ?_
          try simp only [Act.put, List.setIfInBounds_toArray, List.set_cons_zero, List.set_cons_succ]
          refine wtake15 (by kernel_rfl) (by kernel_rfl) (by kernel_rfl) (fun _ _ _ h => h) (Or.inl ⟨by rfl, fun W hW => by go_simp; try with_reducible rfl⟩) j0 ?_
          try simp only [Act.put, List.setIfInBounds_toArray, List.set_cons_zero, List.set_cons_succ]
          refine wpAnyH_ready (rs := [16]) (by kernel_rfl) (by simp) ?_
          refine wcons16 (fun K hK => ?_) AllReadyH.nil
          go_simp
          have HMY := hide (HMX.out.1.quiet (Fr.drew Zero _))
          have HFY := hide ((HF7.out.trans HMX.out.2).trans (QFr.quiet HMX.out.1 (Fr.drew Zero _)))
          have y0 : (w7.setCell ⟨qb, 2, none⟩ (.int .i64 X)).drew.cell? ⟨qb, 0, none⟩ = some (.int .i64 R.g) := by rw [← HSM.out.g]; exact HMY.out.at0
          refine hK.out _ _ y0 (fun _ => ?_)
          clear hK K
          try simp only [Act.put, List.setIfInBounds_toArray, List.set_cons_zero, List.set_cons_succ]
          refine wpAnyH_done (by kernel_rfl) ?_ _
          rw [HX.out] at HSN
          generalize (w7.setCell ⟨qb, 2, none⟩ (.int .i64 X)).drew = w8 at *
          clear y0 j0 j2 jf
          go_wp2_with fail
          go_ret
          exact ⟨by rw [HU.out]; rfl, HFY.out, _, ⟨_, HMY.out⟩, HSN.out⟩
      · have hcI : ¬ (R.g : Int) < (R.next : Int) + (N : Int) := by omega
        rw [if_neg hc] at hG
        subst hG
        go_quiet (fail)
        have HFa : Hid (Fr Zero w (w.drewN nq)) := Fr.drewN _ _ _
        have HM_w1 := hide (H.out.quiet HFa.out)
        have HF_w1 := hide (HFa.out)
        have a0 : (w.drewN nq).cell? ⟨qb, 0, none⟩ = some (.int .i64 R.g) := k0
        have a2 : (w.drewN nq).cell? ⟨qb, 2, none⟩ = some (.int .i64 R.next) := k2
        have a1 : (w.drewN nq).cell? ⟨qb, 1, none⟩ = some fv := k1
        generalize w.drewN nq = w1 at *
        clear HFa
        go_wp2_with fail
        clear hc hcI
        have HMd := hide (HM_w1.out.quiet (Fr.drew Zero w1))
        refine wp_region_held_drew (S := fun W => W = w1.drew) (by kernel_rfl) rfl (fun hT => ?_)
        have a0 : w1.drew.cell? ⟨qb, 0, none⟩ = some (.int .i64 R.g) := a0
        refine wtake0 (by kernel_rfl) (by kernel_rfl) (by kernel_rfl) (fun _ _ _ h => h) (Or.inl ⟨by rfl, fun W hW => by subst hW; go_simp; try with_reducible rfl⟩) rfl ?_
        try simp only [Act.put, List.setIfInBounds_toArray, List.set_cons_zero, List.set_cons_succ]
        refine wtake2 (by kernel_rfl) (by kernel_rfl) (by kernel_rfl) (fun _ _ _ h => h) (Or.inl ⟨by rfl, fun W hW => by subst hW; go_simp; try with_reducible rfl⟩) rfl ?_
        try simp only [Act.put, List.setIfInBounds_toArray, List.set_cons_zero, List.set_cons_succ]
        refine wtake4 (by kernel_rfl) (by kernel_rfl) (by kernel_rfl) (fun _ _ _ h => h) (Or.inl ⟨by rfl, fun W hW => by subst hW; go_simp; try with_reducible rfl⟩) rfl ?_
        try simp only [Act.put, List.setIfInBounds_toArray, List.set_cons_zero, List.set_cons_succ]
        refine wtake6 (by kernel_rfl) (by kernel_rfl) (by kernel_rfl) (fun _ _ _ h => h) (Or.inl ⟨by rfl, fun W hW => by subst hW; go_simp; try with_reducible rfl⟩) rfl ?_
        try simp only [Act.put, List.setIfInBounds_toArray, List.set_cons_zero, List.set_cons_succ]
        refine wtake7 (by kernel_rfl) (by kernel_rfl) (by kernel_rfl) (fun _ _ _ h => h) (Or.inl ⟨by rfl, fun W hW => by subst hW; go_simp; try with_reducible rfl⟩) rfl ?_
        try simp only [Act.put, List.setIfInBounds_toArray, List.set_cons_zero, List.set_cons_succ]
        refine wtake8 (by kernel_rfl) (by kernel_rfl) (by kernel_rfl) (fun _ _ _ h => h) (Or.inl ⟨by rfl, fun W hW => by subst hW; go_simp; try with_reducible rfl⟩) rfl ?_
        try simp only [Act.put, List.setIfInBounds_toArray, List.set_cons_zero, List.set_cons_succ]
        refine wtake9 (by kernel_rfl) (by kernel_rfl) (by kernel_rfl) (fun _ _ _ h => h) (Or.inl ⟨by rfl, fun W hW => by subst hW; go_simp; try with_reducible rfl⟩) rfl ?_
        try simp only [Act.put, List.setIfInBounds_toArray, List.set_cons_zero, List.set_cons_succ]
        refine wpAnyH_ready (rs := [1]) (by kernel_rfl) (by simp) ?_
        refine wcons1 (fun K hK => ?_) AllReadyH.nil
        go_simp
        refine (rtaken_any HMd.out (by omega) (by omega)).mono ?_
        rintro e w3 ⟨rfl, e3⟩
        obtain rfl := e3.symm
        rw [HTK.out]
        rw [HTK.out] at htk
        go_wp2_with fail
        refine hK.out _ _ rfl (fun _ => ?_)
        clear hK K
        try simp only [Act.put, List.setIfInBounds_toArray, List.set_cons_zero, List.set_cons_succ]
        generalize taken R.fs = T at *
        have hwr1 : IntKind.i64.wrap ((T : Int) + 0) = (T : Int) + 0 := by rw [IntKind.wrap_i64]; omega
        have hwr2 : IntKind.i64.wrap ((T : Int) + 0 + (N : Int)) = (T : Int) + 0 + (N : Int) := by rw [IntKind.wrap_i64]; omega
        have hwr3 : IntKind.i64.wrap ((T : Int) + (N : Int)) = (T : Int) + (N : Int) := by rw [IntKind.wrap_i64]; omega
        have hwr4 : IntKind.i64.wrap (T : Int) = (T : Int) := by rw [IntKind.wrap_i64]; omega
        by_cases h3 : R.g < T + 0 + N
        · have h3I : (R.g : Int) < (T : Int) + 0 + (N : Int) := by omega
          have HU := hide (HFULL.out h3)
          refine wtake3 (by kernel_rfl) (by kernel_rfl) (by kernel_rfl) (fun _ _ _ h => h) (Or.inl ⟨by rfl, fun W hW => by subst hW; go_simp; try with_reducible rfl⟩) rfl ?_
          try simp only [Act.put, List.setIfInBounds_toArray, List.set_cons_zero, List.set_cons_succ]
          refine wtake5 (by kernel_rfl) (by kernel_rfl) (by kernel_rfl) (fun _ _ _ h => h) (Or.inl ⟨by rfl, fun W hW => by subst hW; go_simp; try with_reducible rfl⟩) rfl ?_
          try simp only [Act.put, List.setIfInBounds_toArray, List.set_cons_zero, List.set_cons_succ]
          refine wtake10 (by kernel_rfl) (by kernel_rfl) (by kernel_rfl) (fun _ _ _ h => h) (Or.inl ⟨by rfl, fun W hW => by subst hW; go_simp; try with_reducible rfl⟩) rfl ?_
          try simp only [Act.put, List.setIfInBounds_toArray, List.set_cons_zero, List.set_cons_succ]
          refine wpAnyH_done (by kernel_rfl) ?_ _
          go_wp2_with fail
          go_ret
          rw [HU.out]
          exact ⟨rfl, QFr.quiet H.out (HF_w1.out.trans (Fr.drew _ _)), _, ⟨_, HMd.out⟩, HSM.out⟩
        · have h3I : ¬ (R.g : Int) < (T : Int) + 0 + (N : Int) := by omega
          have HU := hide (HROOM.out h3)
          have HSN := hide (HNEW.out HU.out)
          refine wtake3 (by kernel_rfl) (by kernel_rfl) (by kernel_rfl) (fun _ _ _ h => h) (Or.inl ⟨by rfl, fun W hW => by subst hW; go_simp; try with_reducible rfl⟩) rfl ?_
          try simp only [Act.put, List.setIfInBounds_toArray, List.set_cons_zero, List.set_cons_succ]
          refine wtake5 (by kernel_rfl) (by kernel_rfl) (by kernel_rfl) (fun _ _ _ h => h) (Or.inl ⟨by rfl, fun W hW => by subst hW; go_simp; try with_reducible rfl⟩) rfl ?_
          try simp only [Act.put, List.setIfInBounds_toArray, List.set_cons_zero, List.set_cons_succ]
          refine wtake10 (by kernel_rfl) (by kernel_rfl) (by kernel_rfl) (fun _ _ _ h => h) (Or.inl ⟨by rfl, fun W hW => by subst hW; go_simp; try with_reducible rfl⟩) rfl ?_
          try simp only [Act.put, List.setIfInBounds_toArray, List.set_cons_zero, List.set_cons_succ]
          refine wpAnyH_done (by kernel_rfl) ?_ _
          have HFd := hide (HF_w1.out.trans (Fr.drew Zero w1))
          have a1 : w1.drew.cell? ⟨qb, 1, none⟩ = some fv := a1
          generalize w1.drew = w4 at *
          have HB5 : Hid (Fr Zero w4 (w4.alloc (.cells #[.string data, .int .i64 (N : Int), .int .i64 0] 172))) := Fr.alloc _ _ _
          have HM5 := hide (HMd.out.quiet HB5.out)
          have hq5 := HM5.out.lt
          have hq4 := HMd.out.lt
          have HSR : Hid (Src Tryz.prog 3 100 (.slice (some ⟨w4.heap.size, 0, none⟩) 1 1) 1 (rcells ⟨data.data.toList, N, 0⟩) (w4.alloc (.cells #[.string data, .int .i64 (N : Int), .int .i64 0] 172))) := src_rframe (t := 172) ⟨data.data.toList, N, 0⟩ (by rw [heap_new_at rfl]; simp [ba_data])
          obtain ⟨fa, fc, rfl⟩ := HM5.out.f.len
          clear a0 a2 HNEW HFULL HROOM
          go_wp2_with (at_builtin; refine wpList_pappend rfl (.tmp 59) (.tmp 65) 100 100 rfl Tryz.underlying100 infoRF rfl 1 (rcells ⟨data.data.toList, N, 0⟩) rfl rfl HM5.out.f HSR.out ?hl9 ?h639 ?_)
          case hl9 => omega
          case h639 => omega
          intro v6 w6 hA6 hF6 hv6
          obtain ⟨nf, hnf⟩ : ∃ nf : RF, nf = ⟨data.data.toList, N, 0⟩ := ⟨_, rfl⟩
          simp only [Nat.zero_add] at HSN
          rw [← hnf] at hA6 HSN
          obtain ⟨X, hX⟩ : ∃ X, (R.next + 0 + N) % R.g = X := ⟨_, rfl⟩
          have hX' : ((R.next : Int) + (N : Int)) % (R.g : Int) = (X : Int) := by rw [← hX]; simp
          have HX : Hid ((R.next + 0 + N) % R.g = X) := hX
          clear hX
          have hA6' : PRow w6 172 3 v6 (Q.fs ++ [nf]).length (rsCells (Q.fs ++ [nf])) := by rw [rsCells_snoc]; simpa using hA6
          have HE := hide (HM5.out.setf hA6' hF6 (by simpa using hv6))
          have q1 : w6.cell? ⟨qb, 1, none⟩ = _ := (hF6.cell (a := ⟨qb, 1, none⟩) HM5.out.lt (fun e => HM5.out.f.ne HM5.out.q (by decide) e)).trans HM5.out.at1
          have q2 : w6.frozen? ⟨qb, 1, none⟩ = false := free_of_heap (hF6.keep HM5.out.q (fun e => HM5.out.f.ne HM5.out.q (by decide) e))
          obtain ⟨va, vc, rfl⟩ := hA6'.len
          clear hA6 hA6' hF6 hv6 a1
          go_wp2_with fail
          have HM7 := hide HE.out.1
          have HF7 := hide (((QFr.quiet H.out HFd.out).trans (QFr.quiet HMd.out HB5.out)).trans HE.out.2)
          simp only [List.length_append, List.length_cons, List.length_nil, Nat.zero_add] at HM7 HF7
          generalize w6.setCell ⟨qb, 1, none⟩ (.slice va (Q.fs.length + 1) vc) = w7 at *
          clear HE q1 q2
          have HM8 := hide (HM7.out.quiet (Fr.drew Zero w7))
          have j0 : w7.drew.cell? ⟨qb, 0, none⟩ = some (.int .i64 R.g) := by rw [← HSM.out.g]; exact HM8.out.at0
          have j2 : w7.drew.cell? ⟨qb, 2, none⟩ = some (.int .i64 R.next) := by rw [← HSM.out.next]; exact HM8.out.at2
          have jf : w7.drew.frozen? ⟨qb, 2, none⟩ = false := HM8.out.free 2
          have HMX := hide (HM7.out.setn X)
          have hgz : ((R.g : Int) == 0) = false := beq_eq_false_iff_ne.2 (by omega)
          have hg0 : ¬ ((R.g : Int) = 0) := by omega
          have hgN : ¬ R.g = 0 := by omega
          have hv1 : IntKind.i64.wrap ((R.next : Int)) = (R.next : Int) := by rw [IntKind.wrap_i64]; omega
          have hv2 : IntKind.i64.wrap ((R.next : Int) + (N : Int)) = (R.next : Int) + (N : Int) := by rw [IntKind.wrap_i64]; omega
          have htm : ((R.next : Int) + (N : Int)).tmod (R.g : Int) = (X : Int) := by
            rw [Int.tmod_eq_emod_of_nonneg (by omega)]
            exact hX'
          refine wp_region_held_drew (S := fun W => W.cell? ⟨qb, 0, none⟩ = some (.int .i64 R.g)) (by kernel_rfl) j0 (fun hT => ?_)
          refine wtake0 (by kernel_rfl) (by kernel_rfl) (by kernel_rfl) (fun _ _ _ h => h) (Or.inl ⟨by rfl, fun W hW => by go_simp; try with_reducible rfl⟩) j0 ?_
          try simp only [Act.put, List.setIfInBounds_toArray, List.set_cons_zero, List.set_cons_succ]
          refine wtake1 (by kernel_rfl) (by kernel_rfl) (by kernel_rfl) (fun _ _ _ h => h) (Or.inl ⟨by rfl, fun W hW => by go_simp; try with_reducible rfl⟩) j0 ?_
          try simp only [Act.put, List.setIfInBounds_toArray, List.set_cons_zero, List.set_cons_succ]
          refine wtake2 (by kernel_rfl) (by kernel_rfl) (by kernel_rfl) (fun _ _ _ h => h) (Or.inl ⟨by rfl, fun W hW => by go_simp; try with_reducible rfl⟩) j0 ?_
          try simp only [Act.put, List.setIfInBounds_toArray, List.set_cons_zero, List.set_cons_succ]
          refine wtake3 (by kernel_rfl) (by kernel_rfl) (by kernel_rfl) (fun _ _ _ h => h) (Or.inl ⟨by rfl, fun W hW => by go_simp; try with_reducible rfl⟩) j0 ?_
          try simp only [Act.put, List.setIfInBounds_toArray, List.set_cons_zero, List.set_cons_succ]
          refine wtake5 (by kernel_rfl) (by kernel_rfl) (by kernel_rfl) (fun _ _ _ h => h) (Or.inl ⟨by rfl, fun W hW => by go_simp; try with_reducible rfl⟩) j0 ?_
          try simp only [Act.put, List.setIfInBounds_toArray, List.set_cons_zero, List.set_cons_succ]
          refine wtake7 (by kernel_rfl) (by kernel_rfl) (by kernel_rfl) (fun _ _ _ h => h) (Or.inl ⟨by rfl, fun W hW => by go_simp; try with_reducible rfl⟩) j0 ?_
          try simp only [Act.put, List.setIfInBounds_toArray, List.set_cons_zero, List.set_cons_succ]
          refine wtake9 (by kernel_rfl) (by kernel_rfl) (by kernel_rfl) (fun _ _ _ h => h) (Or.inl ⟨by rfl, fun W hW => by go_simp; try with_reducible rfl⟩) j0 ?_
          try simp only [Act.put, List.setIfInBounds_toArray, List.set_cons_zero, List.set_cons_succ]
          refine wtake10 (by kernel_rfl) (by kernel_rfl) (by kernel_rfl) (fun _ _ _ h => h) (Or.inl ⟨by rfl, fun W hW => by go_simp; try with_reducible rfl⟩) j0 ?_
          try simp only [Act.put, List.setIfInBounds_toArray, List.set_cons_zero, List.set_cons_succ]
          refine wtake11 (by kernel_rfl) (by kernel_rfl) (by kernel_rfl) (fun _ _ _ h => h) (Or.inl ⟨by rfl, fun W hW => by go_simp; try with_reducible rfl⟩) j0 ?_
          try simp only [Act.put, List.setIfInBounds_toArray, List.set_cons_zero, List.set_cons_succ]
          refine wtake12 (by kernel_rfl) (by kernel_rfl) (by kernel_rfl) (fun _ _ _ h => h) (Or.inl ⟨by rfl, fun W hW => by go_simp; try with_reducible rfl⟩) j0 ?_
          try simp only [Act.put, List.setIfInBounds_toArray, List.set_cons_zero, List.set_cons_succ]
          refine wpAnyH_ready (rs := [4]) (by kernel_rfl) (by simp) ?_
          refine wcons4 (fun K hK => ?_) AllReadyH.nil
          go_simp
          refine hK.out _ _ j0 (fun _ => ?_)
          clear hK K
          try simp only [Act.put, List.setIfInBounds_toArray, List.set_cons_zero, List.set_cons_succ]
          refine wtake6 (by kernel_rfl) (by kernel_rfl) (by kernel_rfl) (fun _ _ _ h => h) (Or.inl ⟨by rfl, fun W hW => by go_simp; try with_reducible rfl⟩) j0 ?_
          try simp only [Act.put, List.setIfInBounds_toArray, List.set_cons_zero, List.set_cons_succ]
          refine wtake8 (by kernel_rfl) (by kernel_rfl) (by kernel_rfl) (fun _ _ _ h => h) (Or.inl ⟨by rfl, fun W hW => by go_simp; try with_reducible rfl⟩) j0 ?_
          try simp only [Act.put, List.setIfInBounds_toArray, List.set_cons_zero, List.set_cons_succ]
          refine wtake13 (by kernel_rfl) (by kernel_rfl) (by kernel_rfl) (fun _ _ _ h => h) (Or.inl ⟨by rfl, fun W hW => by go_simp; try with_reducible rfl⟩) j0 ?_
          try simp only [Act.put, List.setIfInBounds_toArray, List.set_cons_zero, List.set_cons_succ]
          refine wtake14 (by kernel_rfl) (by kernel_rfl) (by kernel_rfl) (fun _ _ _ h => h) (Or.inl ⟨by rfl, fun W hW => by go_simp; try with_reducible rfl⟩) j0 ?_
          try simp only [Act.put, List.setIfInBounds_toArray, List.set_cons_zero, List.set_cons_succ]
          refine wtake15 (by kernel_rfl) (by kernel_rfl) (by kernel_rfl) (fun _ _ _ h => h) (Or.inl ⟨by rfl, fun W hW => by go_simp; try with_reducible rfl⟩) j0 ?_
          try simp only [Act.put, List.setIfInBounds_toArray, List.set_cons_zero, List.set_cons_succ]
          refine wpAnyH_ready (rs := [16]) (by kernel_rfl) (by simp) ?_
          refine wcons16 (fun K hK => ?_) AllReadyH.nil
          go_simp
          have HMY := hide (HMX.out.1.quiet (Fr.drew Zero _))
          have HFY := hide ((HF7.out.trans HMX.out.2).trans (QFr.quiet HMX.out.1 (Fr.drew Zero _)))
          have y0 : (w7.setCell ⟨qb, 2, none⟩ (.int .i64 X)).drew.cell? ⟨qb, 0, none⟩ = some (.int .i64 R.g) := by rw [← HSM.out.g]; exact HMY.out.at0
          refine hK.out _ _ y0 (fun _ => ?_)
          clear hK K
          try simp only [Act.put, List.setIfInBounds_toArray, List.set_cons_zero, List.set_cons_succ]
          refine wpAnyH_done (by kernel_rfl) ?_ _
          rw [HX.out] at HSN
          generalize (w7.setCell ⟨qb, 2, none⟩ (.int .i64 X)).drew = w8 at *
          clear y0 j0 j2 jf
          go_wp2_with fail
          go_ret
          exact ⟨by rw [HU.out]; rfl, HFY.out, _, ⟨_, HMY.out⟩, HSN.out⟩

end Go.Proofs.YtnhkalnihjkoeaaGreatDoor.Q
