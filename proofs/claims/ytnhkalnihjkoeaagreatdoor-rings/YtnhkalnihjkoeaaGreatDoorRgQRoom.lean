/- Room. -/
import Derived.Test.YtnhkalnihjkoeaaGreatDoorRgQRel
namespace Go.Proofs.YtnhkalnihjkoeaaGreatDoor.Q
open Go.RowKit

theorem Fr.four (X : Nat → Prop) (w : World) (b : Nat) (v0 v1 v2 v3 : Value) (hx : X b) : Fr X w ((((w.setCell ⟨b, 0, none⟩ v0).setCell ⟨b, 1, none⟩ v1).setCell ⟨b, 2, none⟩ v2).setCell ⟨b, 3, none⟩ v3) :=
  (((Fr.setCell X w ⟨b, 0, none⟩ v0 hx).trans (Fr.setCell X _ ⟨b, 1, none⟩ v1 hx)).trans (Fr.setCell X _ ⟨b, 2, none⟩ v2 hx)).trans (Fr.setCell X _ ⟨b, 3, none⟩ v3 hx)
theorem heap_four {w : World} {b : Nat} {a0 a1 a2 a3 : Value} {t : TypeId} {f : Nat × Nat} (h : w.heap[b]? = some (.cells #[a0, a1, a2, a3] t f)) (v0 v1 v2 v3 : Value) :
    ((((w.setCell ⟨b, 0, none⟩ v0).setCell ⟨b, 1, none⟩ v1).setCell ⟨b, 2, none⟩ v2).setCell ⟨b, 3, none⟩ v3).heap[b]? = some (.cells #[v0, v1, v2, v3] t f) := by
  rw [heap_setCell_same (heap_setCell_same (heap_setCell_same (heap_setCell_same h)))]; rfl
theorem heap_four_ne {w : World} {b k : Nat} (hk : k ≠ b) (v0 v1 v2 v3 : Value) :
    ((((w.setCell ⟨b, 0, none⟩ v0).setCell ⟨b, 1, none⟩ v1).setCell ⟨b, 2, none⟩ v2).setCell ⟨b, 3, none⟩ v3).heap[k]? = w.heap[k]? := by
  rw [Below.heap_setCell _ _ _ _ hk, Below.heap_setCell _ _ _ _ hk, Below.heap_setCell _ _ _ _ hk, Below.heap_setCell _ _ _ _ hk]

theorem results_cell1 {fn : Func} {p : Tmp} {t1 : TypeId} (h : fn.results = #[.cell p t1]) (tmps : Array Value) (P : Program) (w : World) :
    (results fn tmps).run P w = ((asAddr (tmps.getD p undef)).run P w).andThen fun a w₁ => (loadVar t1 a).run P w₁ := by
  simp only [results, h]
  simp [Sem.run_bind, Result.andThen]

/-- What Room tells: granules taken, frames that wait, that are held, whether it is shut. -/
def roomV (R : PR) : Value := .agg #[.int .i64 (taken R.fs), .int .i64 (countOf 0 R.fs), .int .i64 (countOf 1 R.fs), .bool R.shut]

set_option maxHeartbeats 8000000 in
set_option maxRecDepth 100000 in
theorem room_any {w : World} {rb yb : Nat} {R : PR} {fv : Value} (h : RM w rb yb R fv) (ht : taken R.fs ≤ 1000000) (hl : R.fs.length ≤ 1000000) :
    Calls Tryz.prog 164 #[.pointer (some ⟨rb, 0, none⟩)] w fun e w' => e = .returned (roomV R) ∧ Fr Zero w w' := by
  have H := hide h
  have HF0 : Hid (Fr Zero w (w.alloc (.cells #[.int .i64 0, .int .i64 0, .int .i64 0, .bool false] 187)).drew) := (Fr.alloc _ _ _).trans (Fr.drew _ _)
  have HB0 : Hid ((w.alloc (.cells #[.int .i64 0, .int .i64 0, .int .i64 0, .bool false] 187)).drew.heap[w.heap.size]? = some (.cells #[.int .i64 0, .int .i64 0, .int .i64 0, .bool false] 187 (0, 0))) := heap_new_at rfl _
  have HM0 := hide (h.quiet HF0.out)
  have s0 := HM0.out.at4
  clear h
  go_enter Tryz.func164, Tryz.ntmps164
  go_wp2_with fail
  refine wp_region_held_drew (S := fun W => W.cell? ⟨rb, 4, none⟩ = some (.bool R.shut)) (by kernel_rfl) s0 (fun hT => ?_)
  refine wtake0 (by kernel_rfl) (by kernel_rfl) (by kernel_rfl) (fun _ _ _ h => h) (Or.inl ⟨by rfl, fun W hW => by go_simp; try with_reducible rfl⟩) s0 ?_
  try simp only [Act.put, List.setIfInBounds_toArray, List.set_cons_zero, List.set_cons_succ]
  refine wtake2 (by kernel_rfl) (by kernel_rfl) (by kernel_rfl) (fun _ _ _ h => h) (Or.inl ⟨by rfl, fun W hW => by go_simp; try with_reducible rfl⟩) s0 ?_
  try simp only [Act.put, List.setIfInBounds_toArray, List.set_cons_zero, List.set_cons_succ]
  refine wtake4 (by kernel_rfl) (by kernel_rfl) (by kernel_rfl) (fun _ _ _ h => h) (Or.inl ⟨by rfl, fun W hW => by go_simp; try with_reducible rfl⟩) s0 ?_
  try simp only [Act.put, List.setIfInBounds_toArray, List.set_cons_zero, List.set_cons_succ]
  refine wtake6 (by kernel_rfl) (by kernel_rfl) (by kernel_rfl) (fun _ _ _ h => h) (Or.inl ⟨by rfl, fun W hW => by go_simp; try with_reducible rfl⟩) s0 ?_
  try simp only [Act.put, List.setIfInBounds_toArray, List.set_cons_zero, List.set_cons_succ]
  refine wtake7 (by kernel_rfl) (by kernel_rfl) (by kernel_rfl) (fun _ _ _ h => h) (Or.inl ⟨by rfl, fun W hW => by go_simp; try with_reducible rfl⟩) s0 ?_
  try simp only [Act.put, List.setIfInBounds_toArray, List.set_cons_zero, List.set_cons_succ]
  refine wtake8 (by kernel_rfl) (by kernel_rfl) (by kernel_rfl) (fun _ _ _ h => h) (Or.inl ⟨by rfl, fun W hW => by go_simp; try with_reducible rfl⟩) s0 ?_
  try simp only [Act.put, List.setIfInBounds_toArray, List.set_cons_zero, List.set_cons_succ]
  refine wtake9 (by kernel_rfl) (by kernel_rfl) (by kernel_rfl) (fun _ _ _ h => h) (Or.inl ⟨by rfl, fun W hW => by go_simp; try with_reducible rfl⟩) s0 ?_
  try simp only [Act.put, List.setIfInBounds_toArray, List.set_cons_zero, List.set_cons_succ]
  generalize (w.alloc (.cells #[.int .i64 0, .int .i64 0, .int .i64 0, .bool false] 187)).drew = w0 at *
  refine wpAnyH_ready (rs := [1]) (by kernel_rfl) (by simp) ?_
  refine wcons1 (fun K hK => ?_) AllReadyH.nil
  go_simp
  refine (taken_any HM0.out ht hl).mono ?_
  rintro e w1 ⟨rfl, hF⟩
  have HF1 := hide (HF0.out.trans hF)
  have HB1 := hide (hF.keep HB0.out (fun h => h))
  have HM1 := hide (HM0.out.quiet hF)
  have s1 := HM1.out.at4
  clear hF
  go_wp2_with fail
  refine hK.out _ _ s1 (fun _ => ?_)
  clear hK K
  try simp only [Act.put, List.setIfInBounds_toArray, List.set_cons_zero, List.set_cons_succ]
  refine wpAnyH_ready (rs := [3]) (by kernel_rfl) (by simp) ?_
  refine wcons3 (fun K hK => ?_) AllReadyH.nil
  go_simp
  refine (count_any HM1.out hl 0 (by omega)).mono ?_
  rintro e w2 ⟨rfl, hF⟩
  have HF2 := hide (HF1.out.trans hF)
  have HB2 := hide (hF.keep HB1.out (fun h => h))
  have HM2 := hide (HM1.out.quiet hF)
  have s2 := HM2.out.at4
  clear hF
  go_wp2_with fail
  refine hK.out _ _ s2 (fun _ => ?_)
  clear hK K
  try simp only [Act.put, List.setIfInBounds_toArray, List.set_cons_zero, List.set_cons_succ]
  refine wpAnyH_ready (rs := [5]) (by kernel_rfl) (by simp) ?_
  refine wcons5 (fun K hK => ?_) AllReadyH.nil
  go_simp
  refine (count_any HM2.out hl 1 (by omega)).mono ?_
  rintro e w3 ⟨rfl, hF⟩
  have HF3 := hide (HF2.out.trans hF)
  have HB3 := hide (hF.keep HB2.out (fun h => h))
  have HM3 := hide (HM2.out.quiet hF)
  have s3 := HM3.out.at4
  clear hF
  go_wp2_with fail
  refine hK.out _ _ s3 (fun _ => ?_)
  clear hK K
  try simp only [Act.put, List.setIfInBounds_toArray, List.set_cons_zero, List.set_cons_succ]
  have c0 : w3.cell? ⟨w.heap.size, 0, none⟩ = some (.int .i64 0) := by rw [cell_of_heap HB3.out]; rfl
  have c1 : w3.cell? ⟨w.heap.size, 1, none⟩ = some (.int .i64 0) := by rw [cell_of_heap HB3.out]; rfl
  have c2 : w3.cell? ⟨w.heap.size, 2, none⟩ = some (.int .i64 0) := by rw [cell_of_heap HB3.out]; rfl
  have c3 : w3.cell? ⟨w.heap.size, 3, none⟩ = some (.bool false) := by rw [cell_of_heap HB3.out]; rfl
  have f0 : ∀ o, w3.frozen? ⟨w.heap.size, o, none⟩ = false := fun o => free_of_heap HB3.out
  have f00 := f0 0
  have f01 := f0 1
  have f02 := f0 2
  have f03 := f0 3
  refine wtake10 (by kernel_rfl) (by kernel_rfl) (by kernel_rfl) (fun _ _ _ h => h) (Or.inl ⟨by rfl, fun W hW => by go_simp; try with_reducible rfl⟩) s3 ?_
  try simp only [Act.put, List.setIfInBounds_toArray, List.set_cons_zero, List.set_cons_succ]
  refine wpAnyH_ready (rs := [11]) (by kernel_rfl) (by simp) ?_
  refine wcons11 (fun K hK => ?_) AllReadyH.nil
  go_simp
  refine hK.out _ _ (by rw [World.cell?_of_block (heap_four_ne (show rb ≠ w.heap.size by have := H.out.lt; omega) _ _ _ _)]; exact s3) (fun _ => ?_)
  clear hK K
  try simp only [Act.put, List.setIfInBounds_toArray, List.set_cons_zero, List.set_cons_succ]
  refine wpAnyH_done (by kernel_rfl) ?_ _
  go_wp2_with fail
  refine bodyPost_ret (v := roomV R) ?_ rfl ⟨rfl, ?_⟩
  · rw [results_cell1 rfl]
    have e := heap_four HB3.out (.int .i64 (taken R.fs)) (.int .i64 (countOf 0 R.fs)) (.int .i64 (countOf 1 R.fs)) (.bool R.shut)
    have d0 := cell_of_heap (o := 0) e
    have d1 := cell_of_heap (o := 1) e
    have d2 := cell_of_heap (o := 2) e
    have d3 := cell_of_heap (o := 3) e
    go_simp
    try rfl
  · exact HF3.out.past (Fr.four (fun b => w.heap.size ≤ b) w3 w.heap.size _ _ _ _ (Nat.le_refl _))

end Go.Proofs.YtnhkalnihjkoeaaGreatDoor.Q
