/- A step of the script; what is looked at in the end. -/
import Derived.Test.YtnhkalnihjkoeaaGreatDoorRgSWorld
namespace Go.Proofs.YtnhkalnihjkoeaaGreatDoor.Q
open Go.RowKit

def pickN (c : Int) (n : Nat) : Nat := ((if c < 0 then -(c + 1) else c) % (n : Int)).toNat
theorem pickN_lt (c : Int) {n : Nat} (h : 0 < n) : pickN c n < n := by
  unfold pickN
  have h1 := Int.emod_nonneg (if c < 0 then -(c + 1) else c) (show (n : Int) ≠ 0 by omega)
  have h2 := Int.emod_lt_of_pos (if c < 0 then -(c + 1) else c) (show (0 : Int) < n by omega)
  omega
theorem pickN_cast (c : Int) {n : Nat} (h : 0 < n) : ((pickN c n : Nat) : Int) = (if c < 0 then -(c + 1) else c) % (n : Int) := by
  unfold pickN
  have h1 := Int.emod_nonneg (if c < 0 then -(c + 1) else c) (show (n : Int) ≠ 0 by omega)
  omega

set_option maxHeartbeats 4000000 in
theorem lpick_any (c : Int) (h1 : -9223372036854775808 ≤ c) (h2 : c ≤ 9223372036854775807) (n : Nat) (hn : 0 < n) (hn2 : n ≤ 3000000000000) (w : World) :
    Calls Tryz.prog 78 #[.int .i64 c, .int .i64 n] w fun e w' => e = .returned (.int .i64 (pickN c n : Nat)) ∧ w' = w := by
  have hp := pickN_cast c hn
  have HP := hide hp
  have hnz : ¬ (n = 0) := by omega
  have hnI : ¬ ((n : Int) = 0) := by omega
  by_cases hc : c < 0
  · rw [if_pos hc] at HP hp
    have ht : (-(c + 1)).tmod (n : Int) = ((pickN c n : Nat) : Int) := by rw [Int.tmod_eq_emod_of_nonneg (by omega)]; exact HP.out.symm
    have hpos : (0 : Int) ≤ -(c + 1) := by omega
    generalize pickN c n = P at *
    clear hp
    go_enter Tryz.func78, Tryz.ntmps78
    go_wp2_with fail
    go_ret
    refine ⟨?_, rfl⟩
    first | rfl | (rw [HP.out]; rfl) | (simp only [HP.out]; rfl)
  · rw [if_neg hc] at HP hp
    have ht : c.tmod (n : Int) = ((pickN c n : Nat) : Int) := by rw [Int.tmod_eq_emod_of_nonneg (by omega)]; exact HP.out.symm
    have hpos : (0 : Int) ≤ c := by omega
    have hcd : decide (c < 0) = false := decide_eq_false hc
    generalize pickN c n = P at *
    clear hp
    go_enter Tryz.func78, Tryz.ntmps78
    go_wp2_with fail
    go_ret
    refine ⟨?_, rfl⟩
    first | rfl | (rw [HP.out]; rfl) | (simp only [HP.out]; rfl)

/-- What a step of the script leaves. -/
def StepPost (w : World) (B wb : Nat) (L : List RP) (M : Nat) (e : Ending) (w' : World) : Prop :=
  e = .returned (.bool true) ∧ Fr (From B) w w' ∧ ∃ (L' : List RP) (rv' qv' : Value), WM w' B wb L' (M + 1) rv' qv' ∧ L'.length ≤ L.length + 1 ∧ 0 < L'.length

set_option maxHeartbeats 16000000 in
set_option maxRecDepth 100000 in
theorem step_ring {w : World} {B wb M : Nat} {L : List RP} {rv qv : Value} (h : WM w B wb L M rv qv) (hL : 0 < L.length) (hL2 : L.length ≤ 2800000000000) (hM : M ≤ 2700000000000) (k a b c g : Int) (s : ByteArray) (ho : OpOk k a b c g s) (hk1 : k ≠ 1) (hk2 : k < 11) :
    Calls Tryz.prog 47 #[.pointer (some ⟨wb, 0, none⟩), opV k a b c g s] w fun e w' => StepPost w B wb L M e w' := by
  have H := hide h
  have HB0 : Hid ((w.alloc (.cells (opC k a b c g s) 98)).heap[w.heap.size]? = some (.cells (opC k a b c g s) 98 (0, 0))) := heap_new_at rfl _
  have HZ : Hid (Fr Zero w (w.alloc (.cells (opC k a b c g s) 98))) := Fr.alloc _ _ _
  have H0 := hide (h.quiet HZ.out)
  have a0 := H0.out.at0
  have a1 := H0.out.at1
  have hwl := H0.out.lt
  have HO := hide ho
  have hg1 := ho.g1
  have hg2 := ho.g2
  have hP := pickN_lt g hL
  obtain ⟨ra, rc, rfl⟩ := h.rs.len
  have k1 : (k == 1) = false := beq_eq_false_iff_ne.2 hk1
  have k11 : (k == 11) = false := beq_eq_false_iff_ne.2 (by omega)
  have hLI : (0 : Int) < (L.length : Int) := by omega
  clear h ho
  unfold opV
  unfold opC at HB0 HZ H0 a0 a1 hwl
  go_enter Tryz.func47, Tryz.ntmps47
  go_wp2_with fail
  generalize w.alloc (.cells #[.int .i64 k, .int .i64 a, .int .i64 b, .int .i64 c, .int .i64 g, .string s] 98) = w0 at *
  have HD : Hid (Fr Zero w0 w0.drew) := Fr.drew _ _
  have g4 : w0.drew.cell? ⟨w.heap.size, 4, none⟩ = some (.int .i64 g) := (cell_of_heap (o := 4) HB0.out).trans rfl
  have a0 : w0.drew.cell? ⟨wb, 0, none⟩ = some (.slice ra L.length rc) := a0
  refine wp_region_held_drew (S := fun W => W = w0.drew) (by kernel_rfl) rfl (fun hT => ?_)
  refine wtake0 (by kernel_rfl) (by kernel_rfl) (by kernel_rfl) (fun _ _ _ h => h) (Or.inl ⟨by rfl, fun W hW => by subst hW; go_simp; try with_reducible rfl⟩) rfl ?_
  try simp only [Act.put, List.setIfInBounds_toArray, List.set_cons_zero, List.set_cons_succ]
  refine wtake1 (by kernel_rfl) (by kernel_rfl) (by kernel_rfl) (fun _ _ _ h => h) (Or.inl ⟨by rfl, fun W hW => by subst hW; go_simp; try with_reducible rfl⟩) rfl ?_
  try simp only [Act.put, List.setIfInBounds_toArray, List.set_cons_zero, List.set_cons_succ]
  refine wtake2 (by kernel_rfl) (by kernel_rfl) (by kernel_rfl) (fun _ _ _ h => h) (Or.inl ⟨by rfl, fun W hW => by subst hW; go_simp; try with_reducible rfl⟩) rfl ?_
  try simp only [Act.put, List.setIfInBounds_toArray, List.set_cons_zero, List.set_cons_succ]
  refine wtake3 (by kernel_rfl) (by kernel_rfl) (by kernel_rfl) (fun _ _ _ h => h) (Or.inl ⟨by rfl, fun W hW => by subst hW; go_simp; try with_reducible rfl⟩) rfl ?_
  try simp only [Act.put, List.setIfInBounds_toArray, List.set_cons_zero, List.set_cons_succ]
  refine wtake4 (by kernel_rfl) (by kernel_rfl) (by kernel_rfl) (fun _ _ _ h => h) (Or.inl ⟨by rfl, fun W hW => by subst hW; go_simp; try with_reducible rfl⟩) rfl ?_
  try simp only [Act.put, List.setIfInBounds_toArray, List.set_cons_zero, List.set_cons_succ]
  refine wtake5 (by kernel_rfl) (by kernel_rfl) (by kernel_rfl) (fun _ _ _ h => h) (Or.inl ⟨by rfl, fun W hW => by subst hW; go_simp; try with_reducible rfl⟩) rfl ?_
  try simp only [Act.put, List.setIfInBounds_toArray, List.set_cons_zero, List.set_cons_succ]
  refine wtake6 (by kernel_rfl) (by kernel_rfl) (by kernel_rfl) (fun _ _ _ h => h) (Or.inl ⟨by rfl, fun W hW => by subst hW; go_simp; try with_reducible rfl⟩) rfl ?_
  try simp only [Act.put, List.setIfInBounds_toArray, List.set_cons_zero, List.set_cons_succ]
  refine wpAnyH_ready (rs := [7]) (by kernel_rfl) (by simp) ?_
  refine wcons7 (fun K hK => ?_) AllReadyH.nil
  go_simp
  refine (lpick_any g hg1 hg2 L.length hL (by omega) _).mono ?_
  rintro e w1 ⟨rfl, e1⟩
  obtain rfl := e1.symm
  go_wp2_with fail
  refine hK.out _ _ rfl (fun _ => ?_)
  clear hK K
  try simp only [Act.put, List.setIfInBounds_toArray, List.set_cons_zero, List.set_cons_succ]
  refine wtake8 (by kernel_rfl) (by kernel_rfl) (by kernel_rfl) (fun _ _ _ h => h) (Or.inl ⟨by rfl, fun W hW => by subst hW; go_simp; try with_reducible rfl⟩) rfl ?_
  try simp only [Act.put, List.setIfInBounds_toArray, List.set_cons_zero, List.set_cons_succ]
  refine wpAnyH_done (by kernel_rfl) ?_ _
  have H1 := hide (H0.out.quiet (HD.out.trans (Fr.drew Zero w0.drew)))
  have HZ1 := hide (HZ.out.trans (HD.out.trans (Fr.drew Zero w0.drew)))
  have HB1 : Hid (w0.drew.drew.heap[w.heap.size]? = some (.cells #[.int .i64 k, .int .i64 a, .int .i64 b, .int .i64 c, .int .i64 g, .string s] 98 (0, 0))) := HB0
  clear a0 a1 g4 H0 HZ HB0 HD hwl
  generalize hPP : pickN g L.length = P at *
  have HPP := hide hPP
  clear hPP
  obtain ⟨p, hp⟩ : ∃ p, L[P]? = some p := ⟨_, List.getElem?_eq_getElem hP⟩
  obtain ⟨fb, fo, fcap, fe, fcell⟩ := H1.out.rs.at_ (j := P) (u := rptr p) (by rw [List.getElem?_map, hp]; rfl)
  obtain ⟨gb, go, gcap, ge, gcell⟩ := H1.out.qs.at_ (j := P) (u := qptr p) (by rw [List.getElem?_map, hp]; rfl)
  obtain ⟨rfl, rfl⟩ : ra = some ⟨fb, fo, none⟩ ∧ rc = fcap := by simp at fe; exact fe
  subst ge
  have hPI : (P : Int) < (L.length : Int) := by omega
  have b0 := H1.out.at0
  have b1 := H1.out.at1
  have hPM := H1.out.each P p hp
  have HPM := hide hPM
  have HPL := hide (H1.out.lens P p hp)
  have HI := hide hp
  have hfl : fb < w0.drew.drew.heap.size := World.block_lt_of_cell? _ _ fcell
  have hgl : gb < w0.drew.drew.heap.size := World.block_lt_of_cell? _ _ gcell
  have hwl := H1.out.lt
  have hol := lt_of_heap HB1.out
  have hfx : Hid (¬ PX w0.drew.drew p fb) := by
    obtain ⟨cu, ce⟩ := H1.out.rs.typed (g := fb) (by simp [blockOf])
    exact hPM.notX ce (by decide) (by decide) (by decide) (by decide) (by decide)
  have hgx : Hid (¬ PX w0.drew.drew p gb) := by
    obtain ⟨cu, ce⟩ := H1.out.qs.typed (g := gb) (by simp [blockOf])
    exact hPM.notX ce (by decide) (by decide) (by decide) (by decide) (by decide)
  have hwx : Hid (¬ PX w0.drew.drew p wb) := hPM.notX H1.out.blk (by decide) (by decide) (by decide) (by decide) (by decide)
  have hox : Hid (¬ PX w0.drew.drew p w.heap.size) := hPM.notX HB1.out (by decide) (by decide) (by decide) (by decide) (by decide)
  have o0 : w0.drew.drew.cell? ⟨w.heap.size, 0, none⟩ = some (.int .i64 k) := (cell_of_heap (o := 0) HB1.out).trans rfl
  have o1 : w0.drew.drew.cell? ⟨w.heap.size, 1, none⟩ = some (.int .i64 a) := (cell_of_heap (o := 1) HB1.out).trans rfl
  have o2 : w0.drew.drew.cell? ⟨w.heap.size, 2, none⟩ = some (.int .i64 b) := (cell_of_heap (o := 2) HB1.out).trans rfl
  have o3 : w0.drew.drew.cell? ⟨w.heap.size, 3, none⟩ = some (.int .i64 c) := (cell_of_heap (o := 3) HB1.out).trans rfl
  have o4 : w0.drew.drew.cell? ⟨w.heap.size, 4, none⟩ = some (.int .i64 g) := (cell_of_heap (o := 4) HB1.out).trans rfl
  have o5 : w0.drew.drew.cell? ⟨w.heap.size, 5, none⟩ = some (.string s) := (cell_of_heap (o := 5) HB1.out).trans rfl
  unfold rptr at fcell
  unfold qptr at gcell
  clear hPM hp fe
  go_wp2_with fail
  refine wp_region_held_drew (S := fun W => W.cell? ⟨wb, 0, none⟩ = some (.slice (some ⟨fb, fo, none⟩) L.length rc) ∧ W.cell? ⟨wb, 1, none⟩ = some (.slice (some ⟨gb, go, none⟩) L.length gcap) ∧ W.cell? ⟨fb, fo + P, none⟩ = some (.pointer (some ⟨p.sb, 0, none⟩)) ∧ W.cell? ⟨gb, go + P, none⟩ = some (.pointer (some ⟨p.qb, 0, none⟩)) ∧ W.cell? ⟨w.heap.size, 0, none⟩ = some (.int .i64 k) ∧ W.cell? ⟨w.heap.size, 1, none⟩ = some (.int .i64 a) ∧ W.cell? ⟨w.heap.size, 2, none⟩ = some (.int .i64 b) ∧ W.cell? ⟨w.heap.size, 3, none⟩ = some (.int .i64 c) ∧ W.cell? ⟨w.heap.size, 4, none⟩ = some (.int .i64 g) ∧ W.cell? ⟨w.heap.size, 5, none⟩ = some (.string s)) (by kernel_rfl) ⟨b0, b1, fcell, gcell, o0, o1, o2, o3, o4, o5⟩ (fun hT => ?_)
  generalize w0.drew.drew = w2 at *
  have sS := (⟨b0, b1, fcell, gcell, o0, o1, o2, o3, o4, o5⟩ : w2.cell? ⟨wb, 0, none⟩ = some (.slice (some ⟨fb, fo, none⟩) L.length rc) ∧ w2.cell? ⟨wb, 1, none⟩ = some (.slice (some ⟨gb, go, none⟩) L.length gcap) ∧ w2.cell? ⟨fb, fo + P, none⟩ = some (.pointer (some ⟨p.sb, 0, none⟩)) ∧ w2.cell? ⟨gb, go + P, none⟩ = some (.pointer (some ⟨p.qb, 0, none⟩)) ∧ w2.cell? ⟨w.heap.size, 0, none⟩ = some (.int .i64 k) ∧ w2.cell? ⟨w.heap.size, 1, none⟩ = some (.int .i64 a) ∧ w2.cell? ⟨w.heap.size, 2, none⟩ = some (.int .i64 b) ∧ w2.cell? ⟨w.heap.size, 3, none⟩ = some (.int .i64 c) ∧ w2.cell? ⟨w.heap.size, 4, none⟩ = some (.int .i64 g) ∧ w2.cell? ⟨w.heap.size, 5, none⟩ = some (.string s))
  have SS := hide sS
  clear sS
  refine wtake0 (by kernel_rfl) (by kernel_rfl) (by kernel_rfl) (fun _ _ _ h => h) (Or.inl ⟨by rfl, fun W hW => by obtain ⟨z0, z1, z2, z3, z4, z5, z6, z7, z8, z9⟩ := hW; go_simp; try with_reducible rfl⟩) SS.out ?_
  try simp only [Act.put, List.setIfInBounds_toArray, List.set_cons_zero, List.set_cons_succ]
  refine wtake1 (by kernel_rfl) (by kernel_rfl) (by kernel_rfl) (fun _ _ _ h => h) (Or.inl ⟨by rfl, fun W hW => by obtain ⟨z0, z1, z2, z3, z4, z5, z6, z7, z8, z9⟩ := hW; go_simp; try with_reducible rfl⟩) SS.out ?_
  try simp only [Act.put, List.setIfInBounds_toArray, List.set_cons_zero, List.set_cons_succ]
  refine wtake2 (by kernel_rfl) (by kernel_rfl) (by kernel_rfl) (fun _ _ _ h => h) (Or.inl ⟨by rfl, fun W hW => by obtain ⟨z0, z1, z2, z3, z4, z5, z6, z7, z8, z9⟩ := hW; go_simp; try with_reducible rfl⟩) SS.out ?_
  try simp only [Act.put, List.setIfInBounds_toArray, List.set_cons_zero, List.set_cons_succ]
  refine wtake3 (by kernel_rfl) (by kernel_rfl) (by kernel_rfl) (fun _ _ _ h => h) (Or.inl ⟨by rfl, fun W hW => by obtain ⟨z0, z1, z2, z3, z4, z5, z6, z7, z8, z9⟩ := hW; go_simp; try with_reducible rfl⟩) SS.out ?_
  try simp only [Act.put, List.setIfInBounds_toArray, List.set_cons_zero, List.set_cons_succ]
  refine wtake4 (by kernel_rfl) (by kernel_rfl) (by kernel_rfl) (fun _ _ _ h => h) (Or.inl ⟨by rfl, fun W hW => by obtain ⟨z0, z1, z2, z3, z4, z5, z6, z7, z8, z9⟩ := hW; go_simp; try with_reducible rfl⟩) SS.out ?_
  try simp only [Act.put, List.setIfInBounds_toArray, List.set_cons_zero, List.set_cons_succ]
  refine wtake5 (by kernel_rfl) (by kernel_rfl) (by kernel_rfl) (fun _ _ _ h => h) (Or.inl ⟨by rfl, fun W hW => by obtain ⟨z0, z1, z2, z3, z4, z5, z6, z7, z8, z9⟩ := hW; go_simp; try with_reducible rfl⟩) SS.out ?_
  try simp only [Act.put, List.setIfInBounds_toArray, List.set_cons_zero, List.set_cons_succ]
  refine wtake6 (by kernel_rfl) (by kernel_rfl) (by kernel_rfl) (fun _ _ _ h => h) (Or.inl ⟨by rfl, fun W hW => by obtain ⟨z0, z1, z2, z3, z4, z5, z6, z7, z8, z9⟩ := hW; go_simp; try with_reducible rfl⟩) SS.out ?_
  try simp only [Act.put, List.setIfInBounds_toArray, List.set_cons_zero, List.set_cons_succ]
  refine wtake7 (by kernel_rfl) (by kernel_rfl) (by kernel_rfl) (fun _ _ _ h => h) (Or.inl ⟨by rfl, fun W hW => by obtain ⟨z0, z1, z2, z3, z4, z5, z6, z7, z8, z9⟩ := hW; go_simp; try with_reducible rfl⟩) SS.out ?_
  try simp only [Act.put, List.setIfInBounds_toArray, List.set_cons_zero, List.set_cons_succ]
  refine wtake8 (by kernel_rfl) (by kernel_rfl) (by kernel_rfl) (fun _ _ _ h => h) (Or.inl ⟨by rfl, fun W hW => by obtain ⟨z0, z1, z2, z3, z4, z5, z6, z7, z8, z9⟩ := hW; go_simp; try with_reducible rfl⟩) SS.out ?_
  try simp only [Act.put, List.setIfInBounds_toArray, List.set_cons_zero, List.set_cons_succ]
  refine wtake9 (by kernel_rfl) (by kernel_rfl) (by kernel_rfl) (fun _ _ _ h => h) (Or.inl ⟨by rfl, fun W hW => by obtain ⟨z0, z1, z2, z3, z4, z5, z6, z7, z8, z9⟩ := hW; go_simp; try with_reducible rfl⟩) SS.out ?_
  try simp only [Act.put, List.setIfInBounds_toArray, List.set_cons_zero, List.set_cons_succ]
  refine wtake10 (by kernel_rfl) (by kernel_rfl) (by kernel_rfl) (fun _ _ _ h => h) (Or.inl ⟨by rfl, fun W hW => by obtain ⟨z0, z1, z2, z3, z4, z5, z6, z7, z8, z9⟩ := hW; go_simp; try with_reducible rfl⟩) SS.out ?_
  try simp only [Act.put, List.setIfInBounds_toArray, List.set_cons_zero, List.set_cons_succ]
  refine wtake11 (by kernel_rfl) (by kernel_rfl) (by kernel_rfl) (fun _ _ _ h => h) (Or.inl ⟨by rfl, fun W hW => by obtain ⟨z0, z1, z2, z3, z4, z5, z6, z7, z8, z9⟩ := hW; go_simp; try with_reducible rfl⟩) SS.out ?_
  try simp only [Act.put, List.setIfInBounds_toArray, List.set_cons_zero, List.set_cons_succ]
  refine wtake12 (by kernel_rfl) (by kernel_rfl) (by kernel_rfl) (fun _ _ _ h => h) (Or.inl ⟨by rfl, fun W hW => by obtain ⟨z0, z1, z2, z3, z4, z5, z6, z7, z8, z9⟩ := hW; go_simp; try with_reducible rfl⟩) SS.out ?_
  try simp only [Act.put, List.setIfInBounds_toArray, List.set_cons_zero, List.set_cons_succ]
  refine wtake13 (by kernel_rfl) (by kernel_rfl) (by kernel_rfl) (fun _ _ _ h => h) (Or.inl ⟨by rfl, fun W hW => by obtain ⟨z0, z1, z2, z3, z4, z5, z6, z7, z8, z9⟩ := hW; go_simp; try with_reducible rfl⟩) SS.out ?_
  try simp only [Act.put, List.setIfInBounds_toArray, List.set_cons_zero, List.set_cons_succ]
  refine wtake14 (by kernel_rfl) (by kernel_rfl) (by kernel_rfl) (fun _ _ _ h => h) (Or.inl ⟨by rfl, fun W hW => by obtain ⟨z0, z1, z2, z3, z4, z5, z6, z7, z8, z9⟩ := hW; go_simp; try with_reducible rfl⟩) SS.out ?_
  try simp only [Act.put, List.setIfInBounds_toArray, List.set_cons_zero, List.set_cons_succ]
  refine wpAnyH_ready (rs := [15]) (by kernel_rfl) (by simp) ?_
  refine wcons15 (fun K hK => ?_) AllReadyH.nil
  go_simp
  refine (ring_any HPM.out (by have := HPL.out; omega) k a b c g s HO.out).mono ?_
  rintro e w3 ⟨rfl, p', hp', hf'⟩
  have HN := hide (H1.out.step (M' := M + 1) HI.out hp' hf' (Nat.le_succ _) (Nat.le_trans hf'.len (Nat.succ_le_succ HPL.out)))
  have HF := hide hf'
  have y0 : w3.cell? ⟨wb, 0, none⟩ = some (.slice (some ⟨fb, fo, none⟩) L.length rc) := (hf'.fr.cell (a := ⟨wb, 0, none⟩) hwl hwx.out).trans b0
  have y1 : w3.cell? ⟨wb, 1, none⟩ = some (.slice (some ⟨gb, go, none⟩) L.length gcap) := (hf'.fr.cell (a := ⟨wb, 1, none⟩) hwl hwx.out).trans b1
  have y2 : w3.cell? ⟨fb, fo + P, none⟩ = some (.pointer (some ⟨p.sb, 0, none⟩)) := (hf'.fr.cell (a := ⟨fb, fo + P, none⟩) hfl hfx.out).trans fcell
  have y3 : w3.cell? ⟨gb, go + P, none⟩ = some (.pointer (some ⟨p.qb, 0, none⟩)) := (hf'.fr.cell (a := ⟨gb, go + P, none⟩) hgl hgx.out).trans gcell
  have q0 : w3.cell? ⟨w.heap.size, 0, none⟩ = some (.int .i64 k) := (hf'.fr.cell (a := ⟨w.heap.size, 0, none⟩) hol hox.out).trans o0
  have q1 : w3.cell? ⟨w.heap.size, 1, none⟩ = some (.int .i64 a) := (hf'.fr.cell (a := ⟨w.heap.size, 1, none⟩) hol hox.out).trans o1
  have q2 : w3.cell? ⟨w.heap.size, 2, none⟩ = some (.int .i64 b) := (hf'.fr.cell (a := ⟨w.heap.size, 2, none⟩) hol hox.out).trans o2
  have q3 : w3.cell? ⟨w.heap.size, 3, none⟩ = some (.int .i64 c) := (hf'.fr.cell (a := ⟨w.heap.size, 3, none⟩) hol hox.out).trans o3
  have q4 : w3.cell? ⟨w.heap.size, 4, none⟩ = some (.int .i64 g) := (hf'.fr.cell (a := ⟨w.heap.size, 4, none⟩) hol hox.out).trans o4
  have q5 : w3.cell? ⟨w.heap.size, 5, none⟩ = some (.string s) := (hf'.fr.cell (a := ⟨w.heap.size, 5, none⟩) hol hox.out).trans o5
  clear hp' hf'
  go_wp2_with fail
  refine hK.out _ _ ⟨y0, y1, y2, y3, q0, q1, q2, q3, q4, q5⟩ (fun _ => ?_)
  clear hK K
  try simp only [Act.put, List.setIfInBounds_toArray, List.set_cons_zero, List.set_cons_succ]
  refine wtake16 (by kernel_rfl) (by kernel_rfl) (by kernel_rfl) (fun _ _ _ h => h) (Or.inl ⟨by rfl, fun W hW => by obtain ⟨z0, z1, z2, z3, z4, z5, z6, z7, z8, z9⟩ := hW; go_simp; try with_reducible rfl⟩) ⟨y0, y1, y2, y3, q0, q1, q2, q3, q4, q5⟩ ?_
  try simp only [Act.put, List.setIfInBounds_toArray, List.set_cons_zero, List.set_cons_succ]
  refine wpAnyH_done (by kernel_rfl) ?_ _
  go_wp2_with fail
  go_ret
  exact ⟨rfl, HZ1.out.of0.trans HN.out.2, _, _, _, HN.out.1, by rw [List.length_set]; omega, by rw [List.length_set]; exact hL⟩

end Go.Proofs.YtnhkalnihjkoeaaGreatDoor.Q
