/- Readers of values, and values, in memory. -/
import Derived.Test.YtnhkalnihjkoeaaGreatDoorRgParse
import Derived.Test.YtnhkalnihjkoeaaGreatDoorRgVal
namespace Go.Proofs.YtnhkalnihjkoeaaGreatDoor
open Go.RowKit

/-! ### What is left of a text -/

def ba (l : Bs) : ByteArray := ⟨l.toArray⟩
def tl (s : ByteArray) (n : Nat) : Bs := s.data.toList.drop n

theorem ba_list (l : Bs) : (ba l).data.toList = l := by simp [ba]
theorem ba_data (s : ByteArray) : ba s.data.toList = s := by apply bytes_data; simp [ba]
theorem ba_size (l : Bs) : (ba l).size = l.length := by show l.toArray.size = _; simp
theorem tl_cons {s : ByteArray} {n : Nat} (h : n < s.size) : tl s n = s[n] :: tl s (n + 1) := by
  unfold tl
  rw [List.drop_eq_getElem_cons (by rw [Array.length_toList]; exact h)]
  rfl
/-- Where a reader stands that has this left. -/
def pos (s : ByteArray) (l : Bs) : Nat := s.size - l.length

/-- A reader in memory: its bytes, and what is left. -/
structure RB (ty : TypeId) (w : World) (rb : Nat) (s : ByteArray) (l : Bs) : Prop where
  len : l.length ≤ s.size
  tail : tl s (pos s l) = l
  block : w.heap[rb]? = some (.cells #[.int .i64 (pos s l), .string s] ty (0, 0))

section
variable {ty : TypeId} {w w' : World} {rb : Nat} {s : ByteArray} {l : Bs}
theorem RB.at0 (h : RB ty w rb s l) : w.cell? ⟨rb, 0, none⟩ = some (.int .i64 (pos s l)) := by rw [cell_of_heap h.block]; rfl
theorem RB.at1 (h : RB ty w rb s l) : w.cell? ⟨rb, 1, none⟩ = some (.string s) := by rw [cell_of_heap h.block]; rfl
theorem RB.free (h : RB ty w rb s l) (o : Nat) : w.frozen? ⟨rb, o, none⟩ = false := free_of_heap h.block
theorem RB.keep (h : RB ty w rb s l) {X : Nat → Prop} (hf : Fr X w w') (hx : ¬ X rb) : RB ty w' rb s l := ⟨h.len, h.tail, hf.keep h.block hx⟩
theorem RB.drewN (h : RB ty w rb s l) (k : Nat) : RB ty (w.drewN k) rb s l := ⟨h.len, h.tail, h.block⟩
theorem RB.lt (h : RB ty w rb s l) : rb < w.heap.size := lt_of_heap h.block
theorem RB.next {b : UInt8} {r : Bs} (h : RB ty w rb s (b :: r)) : pos s (b :: r) < s.size ∧ pos s r = pos s (b :: r) + 1 ∧ tl s (pos s r) = r ∧ (∀ hn : pos s (b :: r) < s.size, s[pos s (b :: r)] = b) := by
  have hl := h.len
  have ht := h.tail
  simp only [List.length_cons] at hl
  have hp : pos s (b :: r) < s.size := by simp only [pos, List.length_cons]; omega
  have hp1 : pos s r = pos s (b :: r) + 1 := by simp only [pos, List.length_cons]; omega
  rw [tl_cons hp] at ht
  simp only [List.cons.injEq] at ht
  exact ⟨hp, hp1, by rw [hp1]; exact ht.2, fun _ => ht.1⟩
theorem RB.end (h : RB ty w rb s []) : pos s [] = s.size := by have := h.len; simp [pos]
end

/-! ### Values -/

/-- The four cells of a value. -/
structure VC where
  a : Addr
  n : Int
  b : Bs
  sv : Value

def VC.cells (c : VC) : List Value := [.pointer (some c.a), .int .i64 c.n, .string (ba c.b), c.sv]
def vCells (l : List VC) : List Value := l.flatMap VC.cells

/-- A value in memory, at most k deep; none of its blocks is in X. -/
def VRep (w : World) (X : Nat → Prop) : Nat → VC → PV → Prop
  | 0, _, _ => False
  | k + 1, c, p => TR w X c.a p.of ∧ c.n = p.num ∧ c.b = p.bytes ∧ ∃ rows : List VC, w.ownsRow 0 135 4 c.sv rows.length (vCells rows) ∧ (∀ g, c.sv.ownBlock = some g → ¬ X g) ∧ rows.length = p.parts.length ∧
      ∀ (j : Nat) (r : VC) (u : PV), rows[j]? = some r → p.parts[j]? = some u → VRep w X k r u

def VR (w : World) (X : Nat → Prop) (c : VC) (p : PV) : Prop := ∃ k, VRep w X k c p

theorem VRep.mono {w : World} {X : Nat → Prop} : ∀ (k : Nat) (c : VC) (p : PV), VRep w X k c p → ∀ k', k ≤ k' → VRep w X k' c p := by
  intro k
  induction k with
  | zero => intro c p h; exact h.elim
  | succ k ih =>
    intro c p h k' hk
    obtain ⟨k'', rfl⟩ : ∃ k'', k' = k'' + 1 := ⟨k' - 1, by omega⟩
    obtain ⟨h1, h2, h3, rows, h4, h5, h6, h7⟩ := h
    exact ⟨h1, h2, h3, rows, h4, h5, h6, fun j r u hr hu => ih r u (h7 j r u hr hu) k'' (by omega)⟩
theorem VRep.keep {w w' : World} {X : Nat → Prop} (hf : Fr X w w') : ∀ (k : Nat) (c : VC) (p : PV), VRep w X k c p → VRep w' X k c p := by
  intro k
  induction k with
  | zero => intro c p h; exact h.elim
  | succ k ih =>
    intro c p h
    obtain ⟨h1, h2, h3, rows, h4, h5, h6, h7⟩ := h
    exact ⟨h1.keep hf, h2, h3, rows, ownsRow_keep h4 hf h5, h5, h6, fun j r u hr hu => ih r u (h7 j r u hr hu)⟩
theorem VR.keep {w w' : World} {X : Nat → Prop} {c : VC} {p : PV} (h : VR w X c p) (hf : Fr X w w') : VR w' X c p := by
  obtain ⟨k, h⟩ := h; exact ⟨k, VRep.keep hf k c p h⟩
/-- A row of values in memory. -/
def VL (w : World) (X : Nat → Prop) (rows : List VC) (vs : List PV) : Prop :=
  rows.length = vs.length ∧ ∀ (j : Nat) (r : VC) (u : PV), rows[j]? = some r → vs[j]? = some u → VR w X r u

theorem VL.nil (w : World) (X : Nat → Prop) : VL w X [] [] := ⟨rfl, fun j r u h => by simp at h⟩
theorem VL.keep {w w' : World} {X : Nat → Prop} {rows : List VC} {vs : List PV} (h : VL w X rows vs) (hf : Fr X w w') : VL w' X rows vs :=
  ⟨h.1, fun j r u hr hu => (h.2 j r u hr hu).keep hf⟩
theorem VL.snoc {w : World} {X : Nat → Prop} {rows : List VC} {vs : List PV} (h : VL w X rows vs) {c : VC} {v : PV} (hv : VR w X c v) : VL w X (rows ++ [c]) (vs ++ [v]) := by
  have hl := h.1
  refine ⟨by simp [hl], fun j r u hr hu => ?_⟩
  by_cases hj : j < rows.length
  · rw [List.getElem?_append_left hj] at hr
    rw [List.getElem?_append_left (by omega)] at hu
    exact h.2 j r u hr hu
  · rw [List.getElem?_append_right (by omega)] at hr hu
    have hj0 : j - rows.length = 0 := by
      rcases Nat.eq_zero_or_pos (j - rows.length) with e | e
      · exact e
      · rw [List.getElem?_eq_none (by simp; omega)] at hr; cases hr
    rw [← hl, hj0] at hu
    rw [hj0] at hr
    simp at hr hu
    subst hr hu
    exact hv

end Go.Proofs.YtnhkalnihjkoeaaGreatDoor
