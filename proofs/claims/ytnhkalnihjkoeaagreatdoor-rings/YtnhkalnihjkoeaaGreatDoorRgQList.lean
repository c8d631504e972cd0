/- Rows in memory that may be pieces of greater ones: what an append makes of them, what is cut off them. -/
import Derived.Test.YtnhkalnihjkoeaaGreatDoorRgQFace
namespace Go.Proofs.YtnhkalnihjkoeaaGreatDoor.Q
open Go.RowKit

/-- A row of n values of sz cells each, from some cell of a block on. -/
def PRow (w : World) (ty : TypeId) (sz : Nat) (v : Value) (n : Nat) (xs : List Value) : Prop :=
  xs.length = n * sz ∧ ((v = .slice none 0 0 ∧ n = 0) ∨ ∃ (fb off cap : Nat) (cur : Array Value), v = .slice (some ⟨fb, off, none⟩) n cap ∧ w.heap[fb]? = some (.cells cur ty (0, 0)) ∧ n ≤ cap ∧ off + cap * sz ≤ cur.size ∧ cap ≤ maxLen ∧ ∀ j u, xs[j]? = some u → cur[off + j]? = some u)

section
variable {w w' : World} {ty : TypeId} {sz : Nat} {v : Value} {n : Nat} {xs : List Value}
theorem PRow.keep {X : Nat → Prop} (h : PRow w ty sz v n xs) (hf : Fr X w w') (hx : ∀ g, blockOf v = some g → ¬ X g) : PRow w' ty sz v n xs := by
  obtain ⟨h0, h⟩ := h
  refine ⟨h0, ?_⟩
  rcases h with h | ⟨fb, off, cap, cur, h1, h2, h3⟩
  · exact .inl h
  · exact .inr ⟨fb, off, cap, cur, h1, hf.keep h2 (hx fb (by rw [h1]; rfl)), h3⟩
theorem PRow.nil (w : World) (ty : TypeId) (sz : Nat) : PRow w ty sz (.slice none 0 0) 0 [] := ⟨by simp, .inl ⟨rfl, rfl⟩⟩
theorem PRow.len (h : PRow w ty sz v n xs) : ∃ a cap, v = .slice a n cap := by
  rcases h.2 with ⟨rfl, rfl⟩ | ⟨fb, off, cap, cur, rfl, _⟩
  · exact ⟨none, 0, rfl⟩
  · exact ⟨_, cap, rfl⟩
theorem PRow.at_ (h : PRow w ty sz v n xs) {j : Nat} {u : Value} (hj : xs[j]? = some u) : ∃ fb off cap, v = .slice (some ⟨fb, off, none⟩) n cap ∧ w.cell? ⟨fb, off + j, none⟩ = some u := by
  obtain ⟨h0, h⟩ := h
  rcases h with ⟨_, rfl⟩ | ⟨fb, off, cap, cur, rfl, h2, _, _, _, h6⟩
  · have := (List.getElem?_eq_some_iff.1 hj).1
    omega
  · exact ⟨fb, off, cap, rfl, by rw [cell_of_heap h2]; exact h6 _ _ hj⟩
theorem PRow.ne (h : PRow w ty sz v n xs) {k : Nat} {cs : Array Value} {t : TypeId} {f : Nat × Nat} (hk : w.heap[k]? = some (.cells cs t f)) (ht : ty ≠ t) : blockOf v ≠ some k := fun e => by
  rcases h.2 with ⟨q, _⟩ | ⟨fb, off, cap, cur, q1, q2, _⟩
  · rw [q] at e; simp [blockOf] at e
  · rw [q1] at e
    simp [blockOf] at e
    rw [e, hk] at q2
    simp at q2
    exact ht q2.2.1.symm
/-- The first m of it. -/
theorem PRow.take (h : PRow w ty sz v n xs) {m : Nat} (hm : m ≤ n) : ∃ a cap, v = .slice a n cap ∧ (0 < n → n ≤ cap ∧ PRow w ty sz (.slice a m cap) m (xs.take (m * sz))) := by
  obtain ⟨h0, h⟩ := h
  rcases h with ⟨rfl, rfl⟩ | ⟨fb, off, cap, cur, rfl, h2, h3, h4, h5, h6⟩
  · exact ⟨none, 0, rfl, fun h => by omega⟩
  · refine ⟨_, cap, rfl, fun _ => ⟨h3, ?_, .inr ⟨fb, off, cap, cur, rfl, h2, by omega, h4, h5, fun j u hj => ?_⟩⟩⟩
    · rw [List.length_take, h0]
      exact Nat.min_eq_left (Nat.mul_le_mul_right _ hm)
    · rw [List.getElem?_take] at hj
      split at hj
      · exact h6 j u hj
      · simp at hj
/-- What is left behind the first m. -/
theorem PRow.drop (h : PRow w ty sz v n xs) {m : Nat} (hm : m ≤ n) (h0n : 0 < n) : ∃ fb off cap, v = .slice (some ⟨fb, off, none⟩) n cap ∧ n ≤ cap ∧ (m < cap → PRow w ty sz (.slice (some ⟨fb, off + m * sz, none⟩) (n - m) (cap - m)) (n - m) (xs.drop (m * sz))) ∧ (m = cap → PRow w ty sz (.slice (some ⟨fb, off, none⟩) 0 0) 0 (xs.drop (m * sz))) := by
  obtain ⟨h0, h⟩ := h
  rcases h with ⟨_, h⟩ | ⟨fb, off, cap, cur, rfl, h2, h3, h4, h5, h6⟩
  · omega
  · have hms : m * sz ≤ n * sz := Nat.mul_le_mul_right _ hm
    refine ⟨fb, off, cap, rfl, h3, fun hmc => ⟨?_, .inr ⟨fb, off + m * sz, cap - m, cur, rfl, h2, by omega, ?_, by omega, fun j u hj => ?_⟩⟩, fun hmc => ⟨?_, .inr ⟨fb, off, 0, cur, rfl, h2, by omega, by omega, by unfold maxLen; omega, fun j u hj => ?_⟩⟩⟩
    · rw [List.length_drop, h0, Nat.sub_mul]
    · have e : (cap - m) * sz = cap * sz - m * sz := Nat.sub_mul _ _ _
      have : m * sz ≤ cap * sz := Nat.mul_le_mul_right _ (by omega)
      omega
    · rw [List.getElem?_drop] at hj
      have := h6 _ u hj
      rw [show off + m * sz + j = off + (m * sz + j) by omega]
      exact this
    · rw [List.length_drop, h0]
      have : m = n := by omega
      subst this
      simp
    · rw [List.getElem?_drop] at hj
      have hl := (List.getElem?_eq_some_iff.1 hj).1
      have : m = n := by omega
      subst this
      omega
end

/-- An append. -/
theorem run_pappend {w : World} {t ty : TypeId} {sz bytes : Nat} {z : Value} (ht : Tryz.prog.underlying t = some (.slice ty)) (hinfo : (Tryz.prog.info? ty).map (fun i => (i.zero, i.size, i.bytes)) = some (some z, sz, bytes)) (hzc : z.cells.size = sz) {v : Value} {n : Nat} {xs : List Value} (h : PRow w ty sz v n xs) (tx tr : TypeId) (x : Value) (m : Nat) (news : List Value) (hs : Src Tryz.prog sz tx x m news w) (hl : (n + m) * bytes ≤ 140737488355328) (h63 : n + m ≤ 4000000000000) :
    ∃ v' w', (Builtin.append_ #[t, tx] tr #[v, x]).run Tryz.prog w = .ok v' w' ∧ PRow w' ty sz v' (n + m) (xs ++ news) ∧ Fr (Owns v) w w' ∧ (∀ k, k < w.heap.size → blockOf v' = some k → blockOf v = some k) := by
  obtain ⟨i, hi, hz, hsize, hby⟩ := info_parts hinfo
  have hs' := hs
  rw [← hsize] at hs'
  have hnl := hs.newsLen
  obtain ⟨h0, h⟩ := h
  have hxl : (xs ++ news).length = (n + m) * sz := by rw [List.length_append, h0, hnl, Nat.add_mul]
  have grown : ∀ (base : Option Addr) (cap : Nat), cap < n + m → v = .slice base n cap → (Builtin.firstCells i.size n (.slice base n cap)).run Tryz.prog w.drew = .ok xs.toArray w.drew →
      ∃ v' w', (Builtin.append_ #[t, tx] tr #[v, x]).run Tryz.prog w = .ok v' w' ∧ PRow w' ty sz v' (n + m) (xs ++ news) ∧ Fr (Owns v) w w' ∧ (∀ k, k < w.heap.size → blockOf v' = some k → blockOf v = some k) := by
    intro base cap hcap hsv hold
    subst hsv
    have hr := run_append_grow_src (P := Tryz.prog) w t tx tr ty i z ht hi hz base n cap xs hold x m news hs' hcap (by omega) (by rw [hby]; exact growslice_fits hcap hl)
    have hge := grownCap_ge w (n + m) cap ty
    have hcm : grownCap w (n + m) cap ty ≤ maxLen := grownCap_le_maxLen w (n + m) cap ty (by unfold maxLen; omega)
    refine ⟨_, _, hr, ⟨hxl, .inr ⟨w.heap.size, 0, grownCap w (n + m) cap ty, _, rfl, heap_alloc_new w.drew _, hge, ?_, hcm, fun j u hj => ?_⟩⟩, ⟨rfl, rfl, rfl, by simp, fun k hk _ => Below.heap_alloc w.drew _ _ hk⟩, fun k hk e => by simp [blockOf] at e; omega⟩
    · simp only [Array.size_append, List.size_toArray, size_zeroCells, hxl, hzc]
      have e : (grownCap w (n + m) cap ty - (n + m)) * sz = grownCap w (n + m) cap ty * sz - (n + m) * sz := Nat.sub_mul _ _ _
      have e2 : (n + m) * sz ≤ grownCap w (n + m) cap ty * sz := Nat.mul_le_mul_right _ hge
      omega
    · rw [Nat.zero_add]
      have hjl : j < (xs ++ news).length := (List.getElem?_eq_some_iff.1 hj).1
      rw [Array.getElem?_append_left (by simpa using hjl)]
      simpa using hj
  rcases h with ⟨rfl, rfl⟩ | ⟨fb, off, cap, cur, rfl, h2, h3, h4, h5, h6⟩
  · have hx0 : xs = [] := List.eq_nil_of_length_eq_zero (by omega)
    subst hx0
    by_cases hm : m = 0
    · subst hm
      have hn0 : news = [] := List.eq_nil_of_length_eq_zero (by omega)
      subst hn0
      refine ⟨.slice none 0 0, w, ?_, PRow.nil _ _ _, Fr.refl _ _, fun k _ e => e⟩
      have hc := hs'.cells
      have hl0 := hs'.len w
      rcases hs'.kind with ⟨e', hk⟩ | hk <;> simp [Builtin.append_, run_underlying ht, run_underlying hk, sizeOf, typeInfo, hi, hl0, hc]
    · exact grown none 0 (by omega) rfl (run_firstCells_none w.drew i.size 0 0 0)
  · by_cases hroom : n + m ≤ cap
    · have hns : n * i.size + news.length = (n + m) * i.size := by rw [hnl, hsize, Nat.add_mul]
      have hcc : (n + m) * i.size ≤ cap * i.size := Nat.mul_le_mul_right _ hroom
      have hfit : off + n * i.size + news.length ≤ cur.size := by rw [hsize] at hns hcc ⊢; omega
      have hst := run_storeCells_at Tryz.prog fb (off + n * i.size) ty news 0 cur w h2 (by simpa using hfit) hs.one
      simp only [Nat.add_zero] at hst
      have hr : (Builtin.append_ #[t, tx] tr #[.slice (some ⟨fb, off, none⟩) n cap, x]).run Tryz.prog w = .ok (.slice (some ⟨fb, off, none⟩) (n + m) cap) (w.setRow fb (cur.toList.take (off + n * i.size) ++ news ++ cur.toList.drop (off + n * i.size + news.length)).toArray) := by
        rcases hs'.kind with ⟨e', hk⟩ | hk <;> simp [Builtin.append_, run_underlying ht, run_underlying hk, sizeOf, typeInfo, hi, hs'.len, hroom, hs'.cells, Addr.add_lit, hst]
      refine ⟨_, _, hr, ⟨hxl, .inr ⟨fb, off, cap, _, rfl, setRow_heap w fb cur _ ty _ h2, hroom, ?_, h5, fun j u hj => ?_⟩⟩, ⟨rfl, rfl, rfl, by simp, fun k _ hk => setRow_other w fb k _ (fun e => hk (by subst e; rfl))⟩, fun k _ e => by simpa [blockOf] using e⟩
      · simp only [List.size_toArray, List.length_append, List.length_take, List.length_drop, Array.length_toList]
        omega
      · rw [hsize] at hfit ⊢
        have hcl : (cur.toList.take (off + n * sz)).length = off + n * sz := by
          have e : cur.toList.length = cur.size := Array.length_toList
          rw [List.length_take, e]
          exact Nat.min_eq_left (by omega)
        rw [List.getElem?_toArray]
        rcases Nat.lt_or_ge j (n * sz) with q | q
        · rw [List.getElem?_append_left (by rw [List.length_append, hcl]; omega), List.getElem?_append_left (by rw [hcl]; omega), List.getElem?_take_of_lt (by omega)]
          rw [List.getElem?_append_left (by rw [h0]; exact q)] at hj
          rw [Array.getElem?_toList]
          exact h6 j u hj
        · rw [List.getElem?_append_right (by rw [h0]; exact q), h0] at hj
          have hj3 : j - n * sz < news.length := (List.getElem?_eq_some_iff.1 hj).1
          rw [List.getElem?_append_left (by rw [List.length_append, hcl]; omega), List.getElem?_append_right (by rw [hcl]; omega), hcl, show off + j - (off + n * sz) = j - n * sz by omega]
          exact hj
    · exact grown _ cap (by omega) rfl (run_firstCells_some w.drew i.size n _ _ _ xs (by rw [h0, hsize]) (fun j u hj => by
        have e : (⟨fb, off, none⟩ : Addr).add j = ⟨fb, off + j, none⟩ := by simp [Addr.add]
        rw [e]
        show w.cell? _ = _
        rw [cell_of_heap h2]
        exact h6 j u hj))

theorem wpList_pappend {w : World} {ops : Array Oper} {rest : List Oper} {o : Oper} {a : Act} {Q : Exit → Act → World → Prop}
    (hg : o.guard = none) (s x : Operand) (t tx : TypeId) (hop : o.op = Op.call { callee := Callee.builtin Builtin.append, args := #[s, x], argTypes := #[t, tx] })
    {ty : TypeId} {sz bytes : Nat} {z : Value} (ht : Tryz.prog.underlying t = some (.slice ty)) (hinfo : (Tryz.prog.info? ty).map (fun i => (i.zero, i.size, i.bytes)) = some (some z, sz, bytes)) (hzc : z.cells.size = sz)
    {sv xv : Value} {n : Nat} {xs : List Value} (m : Nat) (news : List Value) (hs : a.eval s = sv) (hx : a.eval x = xv) (h : PRow w ty sz sv n xs) (hsrc : Src Tryz.prog sz tx xv m news w) (hl : (n + m) * bytes ≤ 140737488355328) (h63 : n + m ≤ 4000000000000)
    (hK : ∀ v' w', PRow w' ty sz v' (n + m) (xs ++ news) → Fr (Owns sv) w w' → (∀ k, k < w.heap.size → blockOf v' = some k → blockOf sv = some k) → wpList Tryz.prog ops Q rest (a.put o.dst v') w') :
    wpList Tryz.prog ops Q (o :: rest) a w := by
  refine wpList_plain hg fun K hK' => ?_
  obtain ⟨v', w', hrun, r1, r2, r3⟩ := run_pappend ht hinfo hzc h tx o.type xv m news hsrc hl h63
  unfold Oper.wp
  simp [execOp, hop, resolve, invoke, builtin, hs, hx, hrun, Result.andThen]
  exact hK' _ _ (hK v' w' r1 r2 r3)
end Go.Proofs.YtnhkalnihjkoeaaGreatDoor.Q
