/- Rows in memory that may be pieces of greater ones: what an append makes of them, what is cut off them. -/
import Derived.Deep.OwnRows
import Derived.Laws.OwnMore
import Derived.Test.YtcmkjdpmlmmjcaaGreatDoorPsQRel
section
namespace Go.Proofs.YtcmkjdpmlmmjcaaGreatDoor.Q
open Go.RowKit

theorem Fr.four (X : Nat → Prop) (w : World) (b : Nat) (v0 v1 v2 v3 : Value) (hx : X b) : Fr X w ((((w.setCell ⟨b, 0, none⟩ v0).setCell ⟨b, 1, none⟩ v1).setCell ⟨b, 2, none⟩ v2).setCell ⟨b, 3, none⟩ v3) :=
  (((Fr.setCell X w ⟨b, 0, none⟩ v0 hx).trans (Fr.setCell X _ ⟨b, 1, none⟩ v1 hx)).trans (Fr.setCell X _ ⟨b, 2, none⟩ v2 hx)).trans (Fr.setCell X _ ⟨b, 3, none⟩ v3 hx)
theorem heap_four {w : World} {b : Nat} {a0 a1 a2 a3 : Value} {t : TypeId} {f : Nat × Nat} (h : w.heap[b]? = some (.cells #[a0, a1, a2, a3] t f)) (v0 v1 v2 v3 : Value) :
    ((((w.setCell ⟨b, 0, none⟩ v0).setCell ⟨b, 1, none⟩ v1).setCell ⟨b, 2, none⟩ v2).setCell ⟨b, 3, none⟩ v3).heap[b]? = some (.cells #[v0, v1, v2, v3] t f) := by
  rw [heap_setCell_same (heap_setCell_same (heap_setCell_same (heap_setCell_same h)))]; rfl
theorem heap_four_ne {w : World} {b k : Nat} (hk : k ≠ b) (v0 v1 v2 v3 : Value) :
    ((((w.setCell ⟨b, 0, none⟩ v0).setCell ⟨b, 1, none⟩ v1).setCell ⟨b, 2, none⟩ v2).setCell ⟨b, 3, none⟩ v3).heap[k]? = w.heap[k]? := by
  rw [Below.heap_setCell _ _ _ _ hk, Below.heap_setCell _ _ _ _ hk, Below.heap_setCell _ _ _ _ hk, Below.heap_setCell _ _ _ _ hk]

theorem results_cell1 {fn : Func} {p : Tmp} {t1 : TypeId} (h : fn.results = #[.cell p t1]) (tmps : Array Value) (P : Program) (w : World) :
    (results fn tmps).run P w = ((asAddr (tmps.getD p undef)).run P w).andThen fun a w₁ => (loadVar t1 a).run P w₁ := by
  simp only [results, h]
  simp [Sem.run_bind, Result.andThen]

/-- What Room tells: granules taken, frames that wait, that are held, whether it is shut. -/
def roomV (R : PR) : Value := .agg #[.int .i64 (taken R.fs), .int .i64 (countOf 0 R.fs), .int .i64 (countOf 1 R.fs), .bool R.shut]

set_option maxHeartbeats 8000000 in
set_option maxRecDepth 100000 in
theorem room_any {w : World} {rb yb : Nat} {R : PR} {fv : Value} (h : RM w rb yb R fv) (ht : taken R.fs ≤ 1000000) (hl : R.fs.length ≤ 1000000) :
    Calls Tryz.prog 19 #[.pointer (some ⟨rb, 0, none⟩)] w fun e w' => e = .returned (roomV R) ∧ Fr Zero w w' := by
  have H := hide h
  have HF0 : Hid (Fr Zero w (w.alloc (.cells #[.int .i64 0, .int .i64 0, .int .i64 0, .bool false] 32)).drew) := (Fr.alloc _ _ _).trans (Fr.drew _ _)
  have HB0 : Hid ((w.alloc (.cells #[.int .i64 0, .int .i64 0, .int .i64 0, .bool false] 32)).drew.heap[w.heap.size]? = some (.cells #[.int .i64 0, .int .i64 0, .int .i64 0, .bool false] 32 (0, 0))) := heap_new_at rfl _
  have HM0 := hide (h.quiet HF0.out)
  have s0 := HM0.out.at4
  clear h
  go_enter Tryz.func19, Tryz.ntmps19
  go_wp2_with fail
  refine wp_region_held_drew (S := fun W => W.cell? ⟨rb, 4, none⟩ = some (.bool R.shut)) (by kernel_rfl) s0 (fun hT => ?_)
  refine wtake0 (by kernel_rfl) (by kernel_rfl) (by kernel_rfl) (fun _ _ _ h => h) (Or.inl ⟨by rfl, fun W hW => by go_simp; try with_reducible rfl⟩) s0 ?_
  try simp only [Act.put, List.setIfInBounds_toArray, List.set_cons_zero, List.set_cons_succ]
  refine wtake2 (by kernel_rfl) (by kernel_rfl) (by kernel_rfl) (fun _ _ _ h => h) (Or.inl ⟨by rfl, fun W hW => by go_simp; try with_reducible rfl⟩) s0 ?_
  try simp only [Act.put, List.setIfInBounds_toArray, List.set_cons_zero, List.set_cons_succ]
  refine wtake4 (by kernel_rfl) (by kernel_rfl) (by kernel_rfl) (fun _ _ _ h => h) (Or.inl ⟨by rfl, fun W hW => by go_simp; try with_reducible rfl⟩) s0 ?_
  try simp only [Act.put, List.setIfInBounds_toArray, List.set_cons_zero, List.set_cons_succ]
  refine wtake6 (by kernel_rfl) (by kernel_rfl) (by kernel_rfl) (fun _ _ _ h => h) (Or.inl ⟨by rfl, fun W hW => by go_simp; try with_reducible rfl⟩) s0 ?_
  try simp only [Act.put, List.setIfInBounds_toArray, List.set_cons_zero, List.set_cons_succ]
  refine wtake7 (by kernel_rfl) (by kernel_rfl) (by kernel_rfl) (fun _ _ _ h => h) (Or.inl ⟨by rfl, fun W hW => by go_simp; try with_reducible rfl⟩) s0 ?_
  try simp only [Act.put, List.setIfInBounds_toArray, List.set_cons_zero, List.set_cons_succ]
  refine wtake8 (by kernel_rfl) (by kernel_rfl) (by kernel_rfl) (fun _ _ _ h => h) (Or.inl ⟨by rfl, fun W hW => by go_simp; try with_reducible rfl⟩) s0 ?_
  try simp only [Act.put, List.setIfInBounds_toArray, List.set_cons_zero, List.set_cons_succ]
  refine wtake9 (by kernel_rfl) (by kernel_rfl) (by kernel_rfl) (fun _ _ _ h => h) (Or.inl ⟨by rfl, fun W hW => by go_simp; try with_reducible rfl⟩) s0 ?_
  try simp only [Act.put, List.setIfInBounds_toArray, List.set_cons_zero, List.set_cons_succ]
  generalize (w.alloc (.cells #[.int .i64 0, .int .i64 0, .int .i64 0, .bool false] 32)).drew = w0 at *
  refine wpAnyH_ready (rs := [1]) (by kernel_rfl) (by simp) ?_
  refine wcons1 (fun K hK => ?_) AllReadyH.nil
  go_simp
  refine (taken_any HM0.out ht hl).mono ?_
  rintro e w1 ⟨rfl, hF⟩
  have HF1 := hide (HF0.out.trans hF)
  have HB1 := hide (hF.keep HB0.out (fun h => h))
  have HM1 := hide (HM0.out.quiet hF)
  have s1 := HM1.out.at4
  clear hF
  go_wp2_with fail
  refine hK.out _ _ s1 (fun _ => ?_)
  clear hK K
  try simp only [Act.put, List.setIfInBounds_toArray, List.set_cons_zero, List.set_cons_succ]
  refine wpAnyH_ready (rs := [3]) (by kernel_rfl) (by simp) ?_
  refine wcons3 (fun K hK => ?_) AllReadyH.nil
  go_simp
  refine (count_any HM1.out hl 0 (by omega)).mono ?_
  rintro e w2 ⟨rfl, hF⟩
  have HF2 := hide (HF1.out.trans hF)
  have HB2 := hide (hF.keep HB1.out (fun h => h))
  have HM2 := hide (HM1.out.quiet hF)
  have s2 := HM2.out.at4
  clear hF
  go_wp2_with fail
  refine hK.out _ _ s2 (fun _ => ?_)
  clear hK K
  try simp only [Act.put, List.setIfInBounds_toArray, List.set_cons_zero, List.set_cons_succ]
  refine wpAnyH_ready (rs := [5]) (by kernel_rfl) (by simp) ?_
  refine wcons5 (fun K hK => ?_) AllReadyH.nil
  go_simp
  refine (count_any HM2.out hl 1 (by omega)).mono ?_
  rintro e w3 ⟨rfl, hF⟩
  have HF3 := hide (HF2.out.trans hF)
  have HB3 := hide (hF.keep HB2.out (fun h => h))
  have HM3 := hide (HM2.out.quiet hF)
  have s3 := HM3.out.at4
  clear hF
  go_wp2_with fail
  refine hK.out _ _ s3 (fun _ => ?_)
  clear hK K
  try simp only [Act.put, List.setIfInBounds_toArray, List.set_cons_zero, List.set_cons_succ]
  have c0 : w3.cell? ⟨w.heap.size, 0, none⟩ = some (.int .i64 0) := by rw [cell_of_heap HB3.out]; rfl
  have c1 : w3.cell? ⟨w.heap.size, 1, none⟩ = some (.int .i64 0) := by rw [cell_of_heap HB3.out]; rfl
  have c2 : w3.cell? ⟨w.heap.size, 2, none⟩ = some (.int .i64 0) := by rw [cell_of_heap HB3.out]; rfl
  have c3 : w3.cell? ⟨w.heap.size, 3, none⟩ = some (.bool false) := by rw [cell_of_heap HB3.out]; rfl
  have f0 : ∀ o, w3.frozen? ⟨w.heap.size, o, none⟩ = false := fun o => free_of_heap HB3.out
  have f00 := f0 0
  have f01 := f0 1
  have f02 := f0 2
  have f03 := f0 3
  refine wtake10 (by kernel_rfl) (by kernel_rfl) (by kernel_rfl) (fun _ _ _ h => h) (Or.inl ⟨by rfl, fun W hW => by go_simp; try with_reducible rfl⟩) s3 ?_
  try simp only [Act.put, List.setIfInBounds_toArray, List.set_cons_zero, List.set_cons_succ]
  refine wpAnyH_ready (rs := [11]) (by kernel_rfl) (by simp) ?_
  refine wcons11 (fun K hK => ?_) AllReadyH.nil
  go_simp
  refine hK.out _ _ (by rw [World.cell?_of_block (heap_four_ne (show rb ≠ w.heap.size by have := H.out.lt; omega) _ _ _ _)]; exact s3) (fun _ => ?_)
  clear hK K
  try simp only [Act.put, List.setIfInBounds_toArray, List.set_cons_zero, List.set_cons_succ]
  refine wpAnyH_done (by kernel_rfl) ?_ _
  go_wp2_with fail
  refine bodyPost_ret (v := roomV R) ?_ rfl ⟨rfl, ?_⟩
  · rw [results_cell1 rfl]
    have e := heap_four HB3.out (.int .i64 (taken R.fs)) (.int .i64 (countOf 0 R.fs)) (.int .i64 (countOf 1 R.fs)) (.bool R.shut)
    have d0 := cell_of_heap (o := 0) e
    have d1 := cell_of_heap (o := 1) e
    have d2 := cell_of_heap (o := 2) e
    have d3 := cell_of_heap (o := 3) e
    go_simp
    try rfl
  · exact HF3.out.past (Fr.four (fun b => w.heap.size ≤ b) w3 w.heap.size _ _ _ _ (Nat.le_refl _))

end Go.Proofs.YtcmkjdpmlmmjcaaGreatDoor.Q
end
section
namespace Go.Proofs.YtcmkjdpmlmmjcaaGreatDoor.Q
open Go.RowKit

def newR (g : Nat) : PR := ⟨g, List.replicate (8 * g) 0, [], 1, 0, false⟩

theorem RM.notX {w : World} {rb yb : Nat} {R : PR} {fv : Value} (h : RM w rb yb R fv) {k : Nat} {cs : Array Value} {t : TypeId} {f : Nat × Nat} (hk : w.heap[k]? = some (.cells cs t f)) (h1 : t ≠ 64) (h2 : t ≠ 5) (h3 : t ≠ 105) : ¬ RX w rb yb k := fun e => by
  rcases RX.of h e with e | e | e
  · rw [e, h.r] at hk; simp at hk; exact h1 hk.2.1.symm
  · rw [e, h.y] at hk; simp at hk; exact h2 hk.2.1.symm
  · rcases h.f with ⟨q, _⟩ | ⟨fb, off, cap, cur, q1, q2, _⟩
    · rw [q] at e; simp [blockOf] at e
    · rw [q1] at e
      simp [blockOf] at e
      rw [← e, q2] at hk
      simp at hk
      exact h3 hk.2.1.symm

set_option maxHeartbeats 4000000 in
set_option maxRecDepth 100000 in
theorem new_any (g : Nat) (h2 : 2 ≤ g) (h64 : g ≤ 64) (w : World) :
    Calls Tryz.prog 13 #[.int .i64 g] w fun e w' => e = .returned (.tuple #[.pointer (some ⟨w.heap.size + 1, 0, none⟩), .int .i64 0]) ∧ Fr Zero w w' ∧ RM w' (w.heap.size + 1) w.heap.size (newR g) (.slice none 0 0) := by
  have hI1 : ¬ (g : Int) < 2 := by omega
  have hI2 : ¬ (64 : Int) < (g : Int) := by omega
  have hrun := run_make_row' (P := Tryz.prog) 61 5 (.int .u8 0) 1 Tryz.underlying61 (by kernel_rfl) rfl .i64 .i64 (8 * g) (by omega) (by omega) w
  rw [show (((8 * g : Nat)) : Int) = (g : Int) * 8 by omega] at hrun
  have HM : Hid (madeCells #[Value.int .u8 0] (8 * g) = (Lib.byteCells (List.replicate (8 * g) 0)).toArray) := by
    show _ = _
    apply Array.ext'
    rw [toList_madeCells_one]
    simp [Lib.byteCells]
  rw [HM.out] at hrun
  go_enter Tryz.func13, Tryz.ntmps13
  go_wp2_with fail
  go_ret2
  refine ⟨rfl, (Fr.alloc _ _ _).trans (Fr.alloc _ _ _), ⟨heap_new_at (by simp) _, ?_, .inl ⟨rfl, rfl⟩, h2, h64, by simp [newR]⟩⟩
  rw [Below.heap_alloc _ _ _ (by simp)]
  exact heap_new_at rfl _

end Go.Proofs.YtcmkjdpmlmmjcaaGreatDoor.Q
end
section
namespace Go.Proofs.YtcmkjdpmlmmjcaaGreatDoor.Q
open Go.RowKit

/-- A row of n values of sz cells each, from some cell of a block on. -/
def PRow (w : World) (ty : TypeId) (sz : Nat) (v : Value) (n : Nat) (xs : List Value) : Prop :=
  xs.length = n * sz ∧ ((v = .slice none 0 0 ∧ n = 0) ∨ ∃ (fb off cap : Nat) (cur : Array Value), v = .slice (some ⟨fb, off, none⟩) n cap ∧ w.heap[fb]? = some (.cells cur ty (0, 0)) ∧ n ≤ cap ∧ off + cap * sz ≤ cur.size ∧ cap ≤ maxLen ∧ ∀ j u, xs[j]? = some u → cur[off + j]? = some u)

section
variable {w w' : World} {ty : TypeId} {sz : Nat} {v : Value} {n : Nat} {xs : List Value}
theorem PRow.keep {X : Nat → Prop} (h : PRow w ty sz v n xs) (hf : Fr X w w') (hx : ∀ g, blockOf v = some g → ¬ X g) : PRow w' ty sz v n xs := by
  obtain ⟨h0, h⟩ := h
  refine ⟨h0, ?_⟩
  rcases h with h | ⟨fb, off, cap, cur, h1, h2, h3⟩
  · exact .inl h
  · exact .inr ⟨fb, off, cap, cur, h1, hf.keep h2 (hx fb (by rw [h1]; rfl)), h3⟩
theorem PRow.nil (w : World) (ty : TypeId) (sz : Nat) : PRow w ty sz (.slice none 0 0) 0 [] := ⟨by simp, .inl ⟨rfl, rfl⟩⟩
theorem PRow.len (h : PRow w ty sz v n xs) : ∃ a cap, v = .slice a n cap := by
  rcases h.2 with ⟨rfl, rfl⟩ | ⟨fb, off, cap, cur, rfl, _⟩
  · exact ⟨none, 0, rfl⟩
  · exact ⟨_, cap, rfl⟩
theorem PRow.at_ (h : PRow w ty sz v n xs) {j : Nat} {u : Value} (hj : xs[j]? = some u) : ∃ fb off cap, v = .slice (some ⟨fb, off, none⟩) n cap ∧ w.cell? ⟨fb, off + j, none⟩ = some u := by
  obtain ⟨h0, h⟩ := h
  rcases h with ⟨_, rfl⟩ | ⟨fb, off, cap, cur, rfl, h2, _, _, _, h6⟩
  · have := (List.getElem?_eq_some_iff.1 hj).1
    omega
  · exact ⟨fb, off, cap, rfl, by rw [cell_of_heap h2]; exact h6 _ _ hj⟩
theorem PRow.ne (h : PRow w ty sz v n xs) {k : Nat} {cs : Array Value} {t : TypeId} {f : Nat × Nat} (hk : w.heap[k]? = some (.cells cs t f)) (ht : ty ≠ t) : blockOf v ≠ some k := fun e => by
  rcases h.2 with ⟨q, _⟩ | ⟨fb, off, cap, cur, q1, q2, _⟩
  · rw [q] at e; simp [blockOf] at e
  · rw [q1] at e
    simp [blockOf] at e
    rw [e, hk] at q2
    simp at q2
    exact ht q2.2.1.symm
/-- The first m of it. -/
theorem PRow.take (h : PRow w ty sz v n xs) {m : Nat} (hm : m ≤ n) : ∃ a cap, v = .slice a n cap ∧ (0 < n → n ≤ cap ∧ PRow w ty sz (.slice a m cap) m (xs.take (m * sz))) := by
  obtain ⟨h0, h⟩ := h
  rcases h with ⟨rfl, rfl⟩ | ⟨fb, off, cap, cur, rfl, h2, h3, h4, h5, h6⟩
  · exact ⟨none, 0, rfl, fun h => by omega⟩
  · refine ⟨_, cap, rfl, fun _ => ⟨h3, ?_, .inr ⟨fb, off, cap, cur, rfl, h2, by omega, h4, h5, fun j u hj => ?_⟩⟩⟩
    · rw [List.length_take, h0]
      exact Nat.min_eq_left (Nat.mul_le_mul_right _ hm)
    · rw [List.getElem?_take] at hj
      split at hj
      · exact h6 j u hj
      · simp at hj
/-- What is left behind the first m. -/
theorem PRow.drop (h : PRow w ty sz v n xs) {m : Nat} (hm : m ≤ n) (h0n : 0 < n) : ∃ fb off cap, v = .slice (some ⟨fb, off, none⟩) n cap ∧ n ≤ cap ∧ (m < cap → PRow w ty sz (.slice (some ⟨fb, off + m * sz, none⟩) (n - m) (cap - m)) (n - m) (xs.drop (m * sz))) ∧ (m = cap → PRow w ty sz (.slice (some ⟨fb, off, none⟩) 0 0) 0 (xs.drop (m * sz))) := by
  obtain ⟨h0, h⟩ := h
  rcases h with ⟨_, h⟩ | ⟨fb, off, cap, cur, rfl, h2, h3, h4, h5, h6⟩
  · omega
  · have hms : m * sz ≤ n * sz := Nat.mul_le_mul_right _ hm
    refine ⟨fb, off, cap, rfl, h3, fun hmc => ⟨?_, .inr ⟨fb, off + m * sz, cap - m, cur, rfl, h2, by omega, ?_, by omega, fun j u hj => ?_⟩⟩, fun hmc => ⟨?_, .inr ⟨fb, off, 0, cur, rfl, h2, by omega, by omega, by unfold maxLen; omega, fun j u hj => ?_⟩⟩⟩
    · rw [List.length_drop, h0, Nat.sub_mul]
    · have e : (cap - m) * sz = cap * sz - m * sz := Nat.sub_mul _ _ _
      have : m * sz ≤ cap * sz := Nat.mul_le_mul_right _ (by omega)
      omega
    · rw [List.getElem?_drop] at hj
      have := h6 _ u hj
      rw [show off + m * sz + j = off + (m * sz + j) by omega]
      exact this
    · rw [List.length_drop, h0]
      have : m = n := by omega
      subst this
      simp
    · rw [List.getElem?_drop] at hj
      have hl := (List.getElem?_eq_some_iff.1 hj).1
      have : m = n := by omega
      subst this
      omega
end

end Go.Proofs.YtcmkjdpmlmmjcaaGreatDoor.Q
end
