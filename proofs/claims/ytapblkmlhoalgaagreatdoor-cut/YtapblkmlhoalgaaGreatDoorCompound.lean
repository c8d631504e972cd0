/- What compound makes of a row of parts. -/
import Derived.Test.YtapblkmlhoalgaaGreatDoorState
namespace Go.Proofs.YtapblkmlhoalgaaGreatDoor
open Go.RowKit

theorem maxDepth_snoc (l : List (ByteArray × PT)) (q : ByteArray × PT) : maxDepth (l ++ [q]) = max (maxDepth l) q.2.depth := by
  simp [maxDepth, List.foldl_append]
theorem maxDepth_take (l : List (ByteArray × PT)) (k : Nat) (q : ByteArray × PT) (h : l[k]? = some q) : maxDepth (l.take (k + 1)) = max (maxDepth (l.take k)) q.2.depth := by
  obtain ⟨hk, he⟩ := List.getElem?_eq_some_iff.1 h
  rw [List.take_succ_eq_append_getElem hk, he, maxDepth_snoc]
theorem maxDepth_le (l : List (ByteArray × PT)) (D : Nat) (h : ∀ q ∈ l, q.2.depth ≤ D) : maxDepth l ≤ D := by
  have : ∀ (m : List Nat) (a : Nat), a ≤ D → (∀ x ∈ m, x ≤ D) → m.foldl max a ≤ D := by
    intro m
    induction m with
    | nil => intro a ha _; exact ha
    | cons x m ih => intro a ha hm; exact ih (max a x) (by have := hm x (by simp); omega) (fun y hy => hm y (by simp [hy]))
  unfold maxDepth
  exact this _ 0 (by omega) (fun x hx => by obtain ⟨q, hq, rfl⟩ := List.mem_map.1 hx; exact h q hq)

theorem maxInt (a b : Nat) : (if a < b then (b : Int) else (a : Int)) = ((max a b : Nat) : Int) := by split <;> omega
theorem ownsRow_base {w : World} {base : Nat} {e : TypeId} {size : Nat} {v : Value} {n : Nat} {xs : List Value} (h : w.ownsRow base e size v n xs) : w.ownsRow 0 e size v n xs := by
  refine ⟨h.1, ?_⟩
  rcases h.2 with h' | ⟨g, cap, cur, hv, hb, r⟩
  · exact .inl h'
  · exact .inr ⟨g, cap, cur, hv, Nat.zero_le _, r⟩

theorem TR.depth {w : World} {X : Nat → Prop} {a : Addr} {t : PT} (h : TR w X a t) : ∃ b, a = ⟨b, 0, none⟩ ∧ b < w.heap.size ∧ ¬ X b ∧ w.cell? ⟨b, 2, none⟩ = some (.int .i64 t.depth) := by
  obtain ⟨k, h⟩ := h
  cases k with
  | zero => exact h.elim
  | succ k =>
    obtain ⟨b, sv, rows, h1, h2, h3, _⟩ := h
    exact ⟨b, h1, lt_of_heap h2, h3, by rw [cell_of_heap h2]; rfl⟩

theorem TR.compound {w : World} {X : Nat → Prop} (kind : Nat) {sv : Value} {rows : List (ByteArray × Addr)} {l : List (ByteArray × PT)} (hL : LinesR w X rows l) (hO : w.ownsRow 0 180 2 sv rows.length (rowCells rows)) (hx : ∀ g, sv.ownBlock = some g → ¬ X g)
    {b : Nat} (hb : w.heap[b]? = some (.cells #[.int .i64 kind, sv, .int .i64 ((maxDepth l + 1 : Nat) : Int)] 196 (0, 0))) (hbx : ¬ X b) : TR w X ⟨b, 0, none⟩ (compoundT kind l) := by
  have : ∀ m : Nat, m ≤ rows.length → ∃ k, ∀ j, j < m → ∀ p q, rows[j]? = some p → l[j]? = some q → TRep w X k p.2 q.2 := by
    intro m
    induction m with
    | zero => intro _; exact ⟨0, fun j hj => by omega⟩
    | succ m ih =>
      intro hm
      obtain ⟨k, hk⟩ := ih (by omega)
      have hlen := hL.length
      obtain ⟨k2, hk2⟩ := hL.2 m rows[m] (l[m]'(by omega)) (by simp) (by simp)
      refine ⟨max k k2, fun j hj p q hp hq => ?_⟩
      by_cases e : j < m
      · exact TRep.mono _ _ _ (hk j e p q hp hq) _ (by omega)
      · have : j = m := by omega
        subst this
        obtain ⟨_, rfl⟩ := List.getElem?_eq_some_iff.1 hp
        obtain ⟨_, rfl⟩ := List.getElem?_eq_some_iff.1 hq
        exact TRep.mono _ _ _ hk2 _ (by omega)
  obtain ⟨k, hk⟩ := this rows.length (Nat.le_refl _)
  refine ⟨k + 1, b, sv, rows, rfl, hb, hbx, hO, hx, hL.1, by simp [compoundT, hL.length], fun j p u hp hu => ?_⟩
  simp only [compoundT, List.getElem?_map, Option.map_eq_some_iff] at hu
  obtain ⟨q, hq, rfl⟩ := hu
  exact hk j (List.getElem?_eq_some_iff.1 hp).1 p q hp hq

set_option maxHeartbeats 1000000 in
theorem compound_row (kind g cap base : Nat) (rows : List (ByteArray × Addr)) (l : List (ByteArray × PT)) (X : Nat → Prop) (w : World) (hlen : rows.length ≤ 1000) (hD : ∀ q ∈ l, q.2.depth ≤ 1000000) (hL : LinesR w X rows l)
    (hO : w.ownsRow base 180 2 (.slice (some ⟨g, 0, none⟩) rows.length cap) rows.length (rowCells rows)) (hgx : ¬ X g) (hXlt : ∀ b, X b → b < w.heap.size) :
    Calls Tryz.prog 270 #[.int .i64 kind, .slice (some ⟨g, 0, none⟩) rows.length cap] w fun e w' => Fr Zero w w' ∧ ∃ a, e = .returned (.pointer (some a)) ∧ TR w' X a (compoundT kind l) := by
  have hg : g < w.heap.size := (hO.lt g rfl).2
  have HLL := hide hL.length
  have HL := hide hL
  have HD := hide hD
  have HO := hide hO
  have HX := hide hXlt
  clear hL hD hO hXlt
  go_enter Tryz.func270, Tryz.ntmps270
  go_wp2_with fail
  go_loopw [5, 10] (fun d i wr => ∃ k : Nat, k ≤ rows.length ∧ i = .int .i64 k ∧ d = .int .i64 (maxDepth (l.take k)) ∧ Hid (Fr Zero w wr)) (fun _ i _ => rows.length - (intOf i).toNat)
  case atStart => exact ⟨0, by omega, rfl, rfl, Fr.refl _ _⟩
  case round =>
    obtain ⟨k, hk, rfl, rfl, HF⟩ := hrel
    have hmd : maxDepth (l.take k) ≤ 1000000 := maxDepth_le _ _ (fun q hq => HD q (List.mem_of_mem_take hq))
    by_cases hlt : k < rows.length
    · obtain ⟨p, hp⟩ : ∃ p, rows[k]? = some p := ⟨rows[k], by simp [hlt]⟩
      obtain ⟨q, hq⟩ : ∃ q, l[k]? = some q := ⟨l[k]'(by have := HLL.out; omega), by simp⟩
      obtain ⟨b, hb, hblt, hbx, hdc⟩ := (HL.out.2 k p q hp hq).depth
      have hc0 : wr.cell? ⟨g, k * 2, none⟩ = some (.string p.1) := by
        rw [HF.out.cell (a := ⟨g, k * 2, none⟩) hg (by intro h; exact h), HO.out.cellAt (k * 2) (by omega)]
        exact (rowCells_get rows k p hp).1
      have hc1 : wr.cell? ⟨g, k * 2 + 1, none⟩ = some (.pointer (some ⟨b, 0, none⟩)) := by
        rw [HF.out.cell (a := ⟨g, k * 2 + 1, none⟩) hg (by intro h; exact h), HO.out.cellAt (k * 2 + 1) (by omega), ← hb]
        exact (rowCells_get rows k p hp).2
      have hc2 : wr.cell? ⟨b, 2, none⟩ = some (.int .i64 q.2.depth) := by
        rw [HF.out.cell (a := ⟨b, 2, none⟩) hblt (by intro h; exact h)]; exact hdc
      have hbl : b < wr.heap.size := Nat.lt_of_lt_of_le hblt HF.out.size
      have hqd := HD.out q (List.mem_of_getElem? hq)
      have HPp := hide hp
      have HQq := hide hq
      clear hp hq hb hdc hblt hbx
      go_wp2_with fail
      exact ⟨⟨k + 1, by omega, by go_num, by rw [maxDepth_take l k q HQq, maxInt], HF.out.trans (Fr.alloc _ _ _)⟩, by simp [intOf]; omega⟩
    · have hkl : k = rows.length := by omega
      subst hkl
      have HT : Hid (l.take rows.length = l) := by rw [HLL.out]; exact List.take_length
      rw [HT.out]
      rw [HT.out] at hmd
      go_wp2_with fail
      go_ret
      refine ⟨HF.out.trans (Fr.alloc _ _ _), ⟨wr.heap.size, 0, none⟩, rfl, ?_⟩
      have hFw : Fr X w (wr.alloc (.cells #[.int .i64 kind, .slice (some ⟨g, 0, none⟩) rows.length cap, .int .i64 ((maxDepth l : Int) + 1)] 196)) := (HF.out.trans (Fr.alloc _ _ _)).of0
      refine TR.compound kind (HL.out.keep hFw) (ownsRow_keep (ownsRow_base HO.out) hFw (fun g' hg' => ?_)) (fun g' hg' => ?_) (heap_new_at rfl _) (fun hx => ?_)
      · simp [Value.ownBlock] at hg'; subst hg'; exact hgx
      · simp [Value.ownBlock] at hg'; subst hg'; exact hgx
      · have := HX wr.heap.size hx
        have := HF.out.size
        omega

theorem compound_any (kind base : Nat) (v : Value) (rows : List (ByteArray × Addr)) (l : List (ByteArray × PT)) (X : Nat → Prop) (w : World) (hlen : rows.length ≤ 1000) (hpos : 0 < rows.length) (hD : ∀ q ∈ l, q.2.depth ≤ 1000000) (hL : LinesR w X rows l)
    (hO : w.ownsRow base 180 2 v rows.length (rowCells rows)) (hgx : ∀ g, v.ownBlock = some g → ¬ X g) (hXlt : ∀ b, X b → b < w.heap.size) :
    Calls Tryz.prog 270 #[.int .i64 kind, v] w fun e w' => Fr Zero w w' ∧ ∃ a, e = .returned (.pointer (some a)) ∧ TR w' X a (compoundT kind l) := by
  rcases hO.2 with ⟨_, h0⟩ | ⟨g, cap, cur, rfl, _⟩
  · omega
  · exact compound_row kind g cap base rows l X w hlen hD hL hO (hgx g rfl) hXlt

end Go.Proofs.YtapblkmlhoalgaaGreatDoor
