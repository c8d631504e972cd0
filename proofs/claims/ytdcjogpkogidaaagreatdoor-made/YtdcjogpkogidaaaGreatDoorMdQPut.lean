/- Put: a frame goes in. -/
import Derived.Test.YtdcjogpkogidaaaGreatDoorMdQReg
namespace Go.Proofs.YtdcjogpkogidaaaGreatDoor.Q
open Go.RowKit

/-- What a call of a ring may write. -/
def RX (w : World) (rb yb : Nat) : Nat → Prop := fun k => k = rb ∨ k = yb ∨ ∃ v, w.cell? ⟨rb, 1, none⟩ = some v ∧ blockOf v = some k
structure RFr (rb yb : Nat) (w w' : World) : Prop where
  fr : Fr (RX w rb yb) w w'
  own : ∀ k, k < w.heap.size → RX w' rb yb k → RX w rb yb k
theorem RFr.refl (rb yb : Nat) (w : World) : RFr rb yb w w := ⟨Fr.refl _ _, fun _ _ h => h⟩
theorem RFr.trans {rb yb : Nat} {a b c : World} (h : RFr rb yb a b) (k : RFr rb yb b c) : RFr rb yb a c :=
  ⟨⟨k.fr.os.trans h.fr.os, k.fr.tape.trans h.fr.tape, k.fr.output.trans h.fr.output, Nat.le_trans h.fr.size k.fr.size, fun i hi hx => (k.fr.block i (Nat.lt_of_lt_of_le hi h.fr.size) (fun e => hx (h.own i hi e))).trans (h.fr.block i hi hx)⟩,
    fun i hi e => h.own i hi (k.own i (Nat.lt_of_lt_of_le hi h.fr.size) e)⟩
theorem RFr.quiet {rb yb : Nat} {w w' : World} (hf : Fr Zero w w') (hb : rb < w.heap.size) : RFr rb yb w w' :=
  ⟨hf.of0, fun k _ h => by
    have e := hf.cell (a := ⟨rb, 1, none⟩) hb (fun h => h)
    unfold RX at h ⊢
    rw [e] at h
    exact h⟩
theorem RM.lt {w : World} {rb yb : Nat} {R : PR} {fv : Value} (h : RM w rb yb R fv) : rb < w.heap.size := lt_of_heap h.r
theorem RX.of {w : World} {rb yb : Nat} {R : PR} {fv : Value} (h : RM w rb yb R fv) {k : Nat} (hk : RX w rb yb k) : k = rb ∨ k = yb ∨ blockOf fv = some k := by
  rcases hk with e | e | ⟨v, e1, e2⟩
  · exact .inl e
  · exact .inr (.inl e)
  · rw [h.at1] at e1; simp at e1; subst e1; exact .inr (.inr e2)
theorem RFr.of {w w' : World} {rb yb : Nat} {R R' : PR} {fv fv' : Value} (h : RM w rb yb R fv) (h' : RM w' rb yb R' fv') (hf : Fr (fun k => k = rb ∨ k = yb ∨ blockOf fv = some k) w w') (hv : ∀ k, k < w.heap.size → blockOf fv' = some k → blockOf fv = some k) : RFr rb yb w w' := by
  refine ⟨hf.mono (fun k _ e => ?_), fun k hk e => ?_⟩
  · rcases e with e | e | e
    · exact .inl e
    · exact .inr (.inl e)
    · exact .inr (.inr ⟨fv, h.at1, e⟩)
  · rcases RX.of h' e with e | e | e
    · exact .inl e
    · exact .inr (.inl e)
    · exact .inr (.inr ⟨fv, h.at1, hv k hk e⟩)

theorem RM.setf {w w' : World} {rb yb : Nat} {R : PR} {fv fv' : Value} {fs' : List PF} (h : RM w rb yb R fv) (hF : FRow w' fv' fs') (hf : Fr (Owns fv) w w') (hv : ∀ k, k < w.heap.size → blockOf fv' = some k → blockOf fv = some k) :
    RM (w'.setCell ⟨rb, 1, none⟩ fv') rb yb { R with fs := fs' } fv' ∧ RFr rb yb w (w'.setCell ⟨rb, 1, none⟩ fv') := by
  have hr : w'.heap[rb]? = _ := hf.keep h.r (fun e => h.fner e rfl)
  have hy : w'.heap[yb]? = _ := hf.keep h.y (fun e => h.fne e rfl)
  have hS : Fr (One rb) w' (w'.setCell ⟨rb, 1, none⟩ fv') := Fr.setCell _ _ _ _ rfl
  have hM : RM (w'.setCell ⟨rb, 1, none⟩ fv') rb yb { R with fs := fs' } fv' := by
    refine ⟨?_, hS.keep hy (fun e => h.ne (by have e' : yb = rb := e; exact e'.symm)), hF.keep hS (fun g hg e => ?_), h.g2, h.g64, h.len⟩
    · rw [heap_setCell_same hr]; rfl
    · have e' : g = rb := e
      rcases hF with ⟨q, _⟩ | ⟨fb, off, cap, cur, q1, q2, _⟩
      · rw [q] at hg; simp [blockOf] at hg
      · rw [q1] at hg
        simp [blockOf] at hg
        rw [hg, e', hr] at q2
        simp at q2
  refine ⟨hM, RFr.of h hM ((hf.mono (fun k _ e => .inr (.inr e))).trans (hS.mono (fun k _ e => .inl e))) hv⟩
theorem RM.setn {w : World} {rb yb : Nat} {R : PR} {fv : Value} (h : RM w rb yb R fv) (n : Nat) : RM (w.setCell ⟨rb, 3, none⟩ (.int .i64 n)) rb yb { R with next := n } fv ∧ RFr rb yb w (w.setCell ⟨rb, 3, none⟩ (.int .i64 n)) := by
  have hS : Fr (One rb) w (w.setCell ⟨rb, 3, none⟩ (.int .i64 n)) := Fr.setCell _ _ _ _ rfl
  have hM : RM (w.setCell ⟨rb, 3, none⟩ (.int .i64 n)) rb yb { R with next := n } fv := ⟨by rw [heap_setCell_same h.r]; rfl, hS.keep h.y (fun e => h.ne (by have e' : yb = rb := e; exact e'.symm)), h.f.keep hS (fun g hg e => h.fner hg e), h.g2, h.g64, h.len⟩
  exact ⟨hM, RFr.of h hM (hS.mono (fun k _ e => .inl e)) (fun _ _ e => e)⟩

/-- A frame is put in. -/
def putAt (R : PR) (n : Nat) : Nat := (R.next + gapOf R.g R.next n) % R.g
def putP (R : PR) (data : Bs) : Nat × PR :=
  if R.shut then (12, R) else
  if R.g < 2 * needs data.length then (9, R) else
  if R.g < taken R.fs + gapOf R.g R.next (needs data.length) + needs data.length then (10, R) else
    (0, { R with row := putRow R.row (8 * putAt R (needs data.length)) (hdr data.length ++ data), fs := R.fs ++ [⟨putAt R (needs data.length), gapOf R.g R.next (needs data.length) + needs data.length, 0, data⟩], next := (putAt R (needs data.length) + needs data.length) % R.g })

theorem putAt_fits {R : PR} {n : Nat} (hn : R.next < R.g) (h2 : 2 * n ≤ R.g) : putAt R n + n ≤ R.g := by
  unfold putAt gapOf
  split
  · rw [show R.next + (R.g - R.next) = R.g by omega, Nat.mod_self]; omega
  · rw [Nat.add_zero, Nat.mod_eq_of_lt hn]; omega

structure Tidy (R : PR) : Prop where
  next : R.next < R.g
  taken : taken R.fs ≤ R.g
  len : R.fs.length ≤ 64

set_option maxHeartbeats 8000000 in
set_option maxRecDepth 100000 in
theorem put_any {w : World} {rb yb : Nat} {R : PR} {fv : Value} (h : RM w rb yb R fv) (hT : Tidy R) (data : ByteArray) (hd : data.size ≤ 1000000000000000) :
    Calls Tryz.prog 95 #[.pointer (some ⟨rb, 0, none⟩), .string data] w fun e w' => e = .returned (.int .i64 (putP R data.data.toList).1) ∧ RFr rb yb w w' ∧ ∃ fv', RM w' rb yb (putP R data.data.toList).2 fv' := by
  have h4 := h.at4
  have H := hide h
  have HT := hide hT
  have hlt := h.lt
  have hdl : data.data.toList.length = data.size := by rw [Array.length_toList]; rfl
  clear h hT
  cases hs : R.shut with
  | true =>
    have HU : Hid (putP R data.data.toList = (12, R)) := if_pos hs
    rw [hs] at h4
    clear hs
    go_enter Tryz.func95, Tryz.ntmps95
    go_wp2_with fail
    go_ret
    rw [HU.out]
    exact ⟨rfl, RFr.refl _ _ _, fv, H.out⟩
  | false =>
    rw [hs] at h4
    have hg64 := H.out.g64
    have hnl : needs data.size ≤ 1000000000000000 := by unfold needs; omega
    have HN : Hid (data.size + 2 ≤ 8 * needs data.size) := by show _ ≤ _; unfold needs; omega
    by_cases h2 : R.g < 2 * needs data.size
    · have HU : Hid (putP R data.data.toList = (9, R)) := by show _ = _; unfold putP; rw [hdl, if_neg (by rw [hs]; decide), if_pos h2]
      clear hs
      go_enter Tryz.func95, Tryz.ntmps95
      go_wp2_with fail
      refine (granulesFor_any data.size hd _).mono ?_
      rintro e w1 ⟨rfl, e1⟩
      obtain rfl := e1.symm
      generalize needs data.size = N at *
      have hI : (R.g : Int) < 2 * (N : Int) := by omega
      go_wp2_with fail
      refine (granules_any H.out).mono ?_
      rintro e w1 ⟨rfl, e1⟩
      obtain rfl := e1.symm
      go_wp2_with fail
      go_ret
      rw [HU.out]
      exact ⟨rfl, RFr.refl _ _ _, fv, H.out⟩
    · have HG : Hid (gapOf R.g R.next (needs data.size) ≤ R.g) := by show _ ≤ _; unfold gapOf; split <;> omega
      have hgl := HG.out
      have htk := HT.out.taken
      have HFit := hide (putAt_fits HT.out.next (Nat.le_of_not_lt h2))
      by_cases h3 : R.g < taken R.fs + gapOf R.g R.next (needs data.size) + needs data.size
      · have HU : Hid (putP R data.data.toList = (10, R)) := by show _ = _; unfold putP; rw [hdl, if_neg (by rw [hs]; decide), if_neg h2, if_pos h3]
        clear hs
        have hgp : gapOf R.g R.next (needs data.size) ≤ R.g := HG.out
        have hN2 : ¬ R.g < 2 * needs data.size := h2
        go_enter Tryz.func95, Tryz.ntmps95
        go_wp2_with fail
        refine (granulesFor_any data.size hd _).mono ?_
        rintro e w1 ⟨rfl, e1⟩
        obtain rfl := e1.symm
        generalize needs data.size = N at *
        have hI0 : ¬ (R.g : Int) < 2 * (N : Int) := by omega
        go_wp2_with fail
        refine (granules_any H.out).mono ?_
        rintro e w1 ⟨rfl, e1⟩
        obtain rfl := e1.symm
        go_wp2_with fail
        refine (gap_any H.out HT.out.next N (by omega)).mono ?_
        rintro e w1 ⟨rfl, hF1⟩
        have HF1 := hide hF1
        have H1 := hide (H.out.quiet hF1)
        clear hF1
        obtain ⟨G, hG⟩ : ∃ G, gapOf R.g R.next N = G := ⟨_, rfl⟩
        rw [hG] at hgp h3 ⊢
        try rw [hG] at HU
        have HGG := hide hG
        clear hG
        go_wp2_with fail
        refine (granules_any H1.out).mono ?_
        rintro e w2 ⟨rfl, e2⟩
        obtain rfl := e2.symm
        go_wp2_with fail
        refine (taken_any H1.out (by omega) (by have := HT.out.len; omega)).mono ?_
        rintro e w2 ⟨rfl, hF2⟩
        have HF2 := hide (HF1.out.trans hF2)
        have H2 := hide (H1.out.quiet hF2)
        clear hF2
        generalize taken R.fs = T at *
        have hI1 : (R.g : Int) - (T : Int) < (G : Int) + (N : Int) := by omega
        go_wp2_with fail
        go_ret
        rw [HU.out]
        exact ⟨rfl, RFr.quiet HF2.out hlt, fv, H2.out⟩
      · have HU : Hid (putP R data.data.toList = (0, { R with row := putRow R.row (8 * putAt R (needs data.size)) (hdr data.size ++ data.data.toList), fs := R.fs ++ [⟨putAt R (needs data.size), gapOf R.g R.next (needs data.size) + needs data.size, 0, data.data.toList⟩], next := (putAt R (needs data.size) + needs data.size) % R.g })) := by show _ = _; unfold putP; rw [hdl, if_neg (by rw [hs]; decide), if_neg h2, if_neg h3]
        clear hs
        have hgp : gapOf R.g R.next (needs data.size) ≤ R.g := HG.out
        have hN2 : ¬ R.g < 2 * needs data.size := h2
        go_enter Tryz.func95, Tryz.ntmps95
        go_wp2_with fail
        refine (granulesFor_any data.size hd _).mono ?_
        rintro e w1 ⟨rfl, e1⟩
        obtain rfl := e1.symm
        generalize needs data.size = N at *
        have hI0 : ¬ (R.g : Int) < 2 * (N : Int) := by omega
        go_wp2_with fail
        refine (granules_any H.out).mono ?_
        rintro e w1 ⟨rfl, e1⟩
        obtain rfl := e1.symm
        go_wp2_with fail
        refine (gap_any H.out HT.out.next N (by omega)).mono ?_
        rintro e w1 ⟨rfl, hF1⟩
        have HF1 := hide hF1
        have H1 := hide (H.out.quiet hF1)
        clear hF1
        obtain ⟨G, hG⟩ : ∃ G, gapOf R.g R.next N = G := ⟨_, rfl⟩
        rw [hG] at hgp h3 ⊢
        try rw [hG] at HU
        have HGG := hide hG
        clear hG
        go_wp2_with fail
        refine (granules_any H1.out).mono ?_
        rintro e w2 ⟨rfl, e2⟩
        obtain rfl := e2.symm
        go_wp2_with fail
        refine (taken_any H1.out (by omega) (by have := HT.out.len; omega)).mono ?_
        rintro e w2 ⟨rfl, hF2⟩
        have HF2 := hide (HF1.out.trans hF2)
        have H2 := hide (H1.out.quiet hF2)
        clear hF2
        generalize taken R.fs = T at *
        have hI1 : ¬ (R.g : Int) - (T : Int) < (G : Int) + (N : Int) := by omega
        have n3 := H2.out.at3
        have hnx := HT.out.next
        have hgn := H.out.g2
        have hg0 : ¬ ((R.g : Int) = 0) := by omega
        have hgN : ¬ R.g = 0 := by omega
        have hpos : (0 : Int) ≤ (R.next : Int) + (G : Int) := by omega
        have hwr : IntKind.i64.wrap ((R.next : Int) + (G : Int)) = (R.next : Int) + (G : Int) := by rw [IntKind.wrap_i64]; omega
        have hgz : ((R.g : Int) == 0) = false := beq_eq_false_iff_ne.2 hg0
        have htm : ((R.next : Int) + (G : Int)).tmod (R.g : Int) = ((putAt R N : Nat) : Int) := by
          rw [Int.tmod_eq_emod_of_nonneg hpos]
          unfold putAt
          rw [HGG.out]
          simp
        have hA : ((R.next : Int) + (G : Int)) % (R.g : Int) = ((putAt R N : Nat) : Int) := by unfold putAt; rw [HGG.out]; simp
        have hAl := HFit.out
        generalize putAt R N = A at *
        go_wp2_with fail
        refine wp_region_held_drew (S := fun W => W = w2.drew) (by kernel_rfl) rfl (fun hT => ?_)
        refine wtake0 (by kernel_rfl) (by kernel_rfl) (by kernel_rfl) (fun _ _ _ h => h) (Or.inl ⟨by rfl, fun W hW => by subst hW; go_simp; try with_reducible rfl⟩) rfl ?_
        try simp only [Act.put, List.setIfInBounds_toArray, List.set_cons_zero, List.set_cons_succ]
        refine wtake1 (by kernel_rfl) (by kernel_rfl) (by kernel_rfl) (fun _ _ _ h => h) (Or.inl ⟨by rfl, fun W hW => by subst hW; go_simp; try with_reducible rfl⟩) rfl ?_
        try simp only [Act.put, List.setIfInBounds_toArray, List.set_cons_zero, List.set_cons_succ]
        refine wtake2 (by kernel_rfl) (by kernel_rfl) (by kernel_rfl) (fun _ _ _ h => h) (Or.inl ⟨by rfl, fun W hW => by subst hW; go_simp; try with_reducible rfl⟩) rfl ?_
        try simp only [Act.put, List.setIfInBounds_toArray, List.set_cons_zero, List.set_cons_succ]
        refine wtake3 (by kernel_rfl) (by kernel_rfl) (by kernel_rfl) (fun _ _ _ h => h) (Or.inl ⟨by rfl, fun W hW => by subst hW; go_simp; try with_reducible rfl⟩) rfl ?_
        try simp only [Act.put, List.setIfInBounds_toArray, List.set_cons_zero, List.set_cons_succ]
        refine wtake4 (by kernel_rfl) (by kernel_rfl) (by kernel_rfl) (fun _ _ _ h => h) (Or.inl ⟨by rfl, fun W hW => by subst hW; go_simp; try with_reducible rfl⟩) rfl ?_
        try simp only [Act.put, List.setIfInBounds_toArray, List.set_cons_zero, List.set_cons_succ]
        refine wtake5 (by kernel_rfl) (by kernel_rfl) (by kernel_rfl) (fun _ _ _ h => h) (Or.inl ⟨by rfl, fun W hW => by subst hW; go_simp; try with_reducible rfl⟩) rfl ?_
        try simp only [Act.put, List.setIfInBounds_toArray, List.set_cons_zero, List.set_cons_succ]
        refine wtake6 (by kernel_rfl) (by kernel_rfl) (by kernel_rfl) (fun _ _ _ h => h) (Or.inl ⟨by rfl, fun W hW => by subst hW; go_simp; try with_reducible rfl⟩) rfl ?_
        try simp only [Act.put, List.setIfInBounds_toArray, List.set_cons_zero, List.set_cons_succ]
        refine wpAnyH_ready (rs := [7]) (by kernel_rfl) (by simp) ?_
        refine wcons7 (fun K hK => ?_) AllReadyH.nil
        go_simp
        refine (granules_any (H2.out.quiet (Fr.drew Zero w2))).mono ?_
        rintro e w3 ⟨rfl, e3⟩
        obtain rfl := e3.symm
        go_wp2_with fail
        refine hK.out _ _ rfl (fun _ => ?_)
        clear hK K
        try simp only [Act.put, List.setIfInBounds_toArray, List.set_cons_zero, List.set_cons_succ]
        refine wtake8 (by kernel_rfl) (by kernel_rfl) (by kernel_rfl) (fun _ _ _ h => h) (Or.inl ⟨by rfl, fun W hW => by subst hW; go_simp; try with_reducible rfl⟩) rfl ?_
        try simp only [Act.put, List.setIfInBounds_toArray, List.set_cons_zero, List.set_cons_succ]
        refine wtake9 (by kernel_rfl) (by kernel_rfl) (by kernel_rfl) (fun _ _ _ h => h) (Or.inl ⟨by rfl, fun W hW => by subst hW; go_simp; try with_reducible rfl⟩) rfl ?_
        try simp only [Act.put, List.setIfInBounds_toArray, List.set_cons_zero, List.set_cons_succ]
        refine wpAnyH_done (by kernel_rfl) ?_ _
        have HF3 := hide (HF2.out.trans (Fr.drew Zero w2))
        have H3 := hide (H2.out.quiet (Fr.drew Zero w2))
        generalize w2.drew = w3 at *
        clear n3 hA htm hpos hwr hgz
        go_wp2_with fail
        refine (write_any H3.out A data (by have := HN.out; omega)).mono ?_
        rintro e w4 ⟨rfl, hR4, hF4⟩
        have HR4 := hide (RFr.of H3.out hR4 (hF4.mono (fun k _ e => .inr (.inl e))) (fun _ _ e => e))
        have HM4 := hide hR4
        clear hF4 hR4
        have k1 := HM4.out.at1
        have kf1 := HM4.out.free 1
        have HFz : Hid (Fr Zero w4 (w4.alloc (.cells #[.int .i64 A, .int .i64 ((G : Int) + (N : Int)), .int .i64 0] 266))) := Fr.alloc _ _ _
        have HM5 := hide (HM4.out.quiet HFz.out)
        have HSR : Hid (Src Tryz.prog 3 260 (.slice (some ⟨w4.heap.size, 0, none⟩) 1 1) 1 (fcells ⟨A, G + N, 0, data.data.toList⟩) (w4.alloc (.cells #[.int .i64 A, .int .i64 ((G : Int) + (N : Int)), .int .i64 0] 266))) := src_frame ⟨A, G + N, 0, data.data.toList⟩ (heap_new_at rfl _)
        have hfl := HT.out.len
        obtain ⟨fa, fc, rfl⟩ := HM5.out.f.len
        go_wp2_with (at_builtin; refine wpList_fappend rfl (.tmp 49) (.tmp 55) 260 rfl ⟨A, G + N, 0, data.data.toList⟩ rfl rfl HM5.out.f HSR.out ?hl6 ?_)
        case hl6 => show R.fs.length ≤ _; omega
        intro v6 w6 hA6 hF6 hv6
        have HE := hide (HM5.out.setf hA6 hF6 (by simpa using hv6))
        have q1 : w6.cell? ⟨rb, 1, none⟩ = _ := (hF6.cell (a := ⟨rb, 1, none⟩) HM5.out.lt (fun e => HM5.out.fner e rfl)).trans HM5.out.at1
        have q2 : w6.frozen? ⟨rb, 1, none⟩ = false := free_of_heap (hF6.keep HM5.out.r (fun e => HM5.out.fner e rfl))
        obtain ⟨va, vc, rfl⟩ := hA6.len
        clear hA6 hF6 hv6 k1 kf1
        go_wp2_with fail
        have HM7 := hide HE.out.1
        have HF7 := hide ((((RFr.quiet HF3.out hlt).trans HR4.out).trans (RFr.quiet HFz.out HM4.out.lt)).trans HE.out.2)
        simp only [List.length_append, List.length_cons, List.length_nil, Nat.zero_add] at HM7 HF7
        refine (granules_any HM7.out).mono ?_
        rintro e w7 ⟨rfl, e7⟩
        obtain rfl := e7.symm
        clear HE q1 q2
        generalize w6.setCell ⟨rb, 1, none⟩ (.slice va (R.fs.length + 1) vc) = w7 at *
        have k3 := HM7.out.at3
        have kf3 := HM7.out.free 3
        have HM8 := hide (HM7.out.setn ((A + N) % R.g))
        have htm2 : ((A : Int) + (N : Int)) % (R.g : Int) = (((A + N) % R.g : Nat) : Int) := by simp
        generalize (A + N) % R.g = X at *
        go_wp2_with fail
        go_ret
        rw [HU.out]
        exact ⟨rfl, HF7.out.trans HM8.out.2, _, HM8.out.1⟩

end Go.Proofs.YtdcjogpkogidaaaGreatDoor.Q
