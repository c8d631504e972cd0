/- How values are read of a text. -/
import Derived.Test.YtnhkalnihjkoeaaGreatDoorGtVCase
namespace Go.Proofs.YtnhkalnihjkoeaaGreatDoor
open Go.RowKit

theorem ba_nil : ba [] = (⟨#[]⟩ : ByteArray) := rfl

theorem blk4 {w : World} {b : Nat} {x0 x1 x2 x3 : Value} {t : TypeId} (h : w.heap[b]? = some (.cells #[x0, x1, x2, x3] t (0, 0))) : w.cell? ⟨b, 0, none⟩ = some x0 ∧ w.cell? ⟨b, 1, none⟩ = some x1 ∧ w.cell? ⟨b, 2, none⟩ = some x2 ∧ w.cell? ⟨b, 3, none⟩ = some x3 ∧
    w.frozen? ⟨b, 0, none⟩ = false ∧ w.frozen? ⟨b, 1, none⟩ = false ∧ w.frozen? ⟨b, 2, none⟩ = false ∧ w.frozen? ⟨b, 3, none⟩ = false := by
  refine ⟨?_, ?_, ?_, ?_, free_of_heap h, free_of_heap h, free_of_heap h, free_of_heap h⟩ <;> rw [cell_of_heap h] <;> rfl

/-- A world in which the four cells of a block were written. -/
def set4 (w : World) (b : Nat) (c : VC) : World := (((w.setCell ⟨b, 0, none⟩ (.pointer (some c.a))).setCell ⟨b, 1, none⟩ (.int .i64 c.n)).setCell ⟨b, 2, none⟩ (.string (ba c.b))).setCell ⟨b, 3, none⟩ c.sv
theorem set4_at {w : World} {b : Nat} {x0 x1 x2 x3 : Value} {t : TypeId} (h : w.heap[b]? = some (.cells #[x0, x1, x2, x3] t (0, 0))) (c : VC) : (set4 w b c).heap[b]? = some (.cells #[.pointer (some c.a), .int .i64 c.n, .string (ba c.b), c.sv] t (0, 0)) := by
  unfold set4
  rw [heap_setCell_same (heap_setCell_same (heap_setCell_same (heap_setCell_same h)))]
  rfl
theorem Fr.set4 (w : World) (b : Nat) (c : VC) : Fr (One b) w (set4 w b c) :=
  ((Fr.setCell (One b) _ ⟨b, 0, none⟩ _ rfl).trans (Fr.setCell (One b) _ ⟨b, 1, none⟩ _ rfl)).trans ((Fr.setCell (One b) _ ⟨b, 2, none⟩ _ rfl).trans (Fr.setCell (One b) _ ⟨b, 3, none⟩ _ rfl))

/-- X, and the two blocks that a reader of a value lays first. -/
def X2 (X : Nat → Prop) (n : Nat) : Nat → Prop := fun b => X b ∨ b = n ∨ b = n + 1

theorem TR.two {w w' : World} {X : Nat → Prop} {a : Addr} {t : PT} (h : TR w X a t) (hf : Fr Zero w w') : TR w' (X2 X w.heap.size) a t :=
  (h.avoid (Y := X2 X w.heap.size) (fun b hb hx => by rcases hx with hx | hx; exact hx; omega)).keep hf.of0

def zeroO : Obj := .cells #[.pointer none, .int .i64 0, .string ⟨#[]⟩, .slice none 0 0] 135
def firstO (a : Addr) : Obj := .cells #[.pointer (some a), .int .i64 0, .string ⟨#[]⟩, .slice none 0 0] 135

theorem value_fin {ty : TypeId} {w w2 W : World} {X : Nat → Prop} {rb : Nat} {s : ByteArray} {res : Option PV × Bs} {a : Addr} {q : Bool} (c : VC) (hrb : rb < w.heap.size) (_hXlt : ∀ b, X b → b < w.heap.size) (hF2 : Fr (One rb) ((w.alloc zeroO).alloc (firstO a)) w2) (hR2 : RB ty w2 rb s res.2) (hW : Fr (One (w.heap.size + 1)) w2 W)
    (hc : ∃ o n k, c.sv = .slice o n k) (hv : ∀ v, res.1 = some v → VR w2 (X2 X w.heap.size) c v) (hq : res.1.isSome = q) : ValPost ty w X rb s res (.returned (.tuple #[c.val, .bool q])) (set4 W w.heap.size c) := by
  subst hq
  have h0 : Fr (fun b => b = w.heap.size ∨ b = w.heap.size + 1) w2 (set4 W w.heap.size c) := (hW.mono (fun k _ e => .inr e)).trans ((Fr.set4 W w.heap.size c).mono (fun k _ e => .inl e))
  have h1 : Fr (One rb) w w2 := (((Fr.alloc _ _ _).trans (Fr.alloc _ _ _)).trans hF2)
  refine ⟨h1.past (h0.mono (fun k _ e => by rcases e with e | e <;> omega)), hR2.keep h0 (by omega), c, hc, rfl, fun v hx => ?_⟩
  exact ((hv v hx).keep (h0.mono (fun k _ e => .inr e))).avoid (fun b _ hb => .inl hb)
theorem value_keep {w w2 : World} {rb : Nat} {a : Addr} (hrb : rb < w.heap.size) (hF2 : Fr (One rb) ((w.alloc zeroO).alloc (firstO a)) w2) : w2.heap[w.heap.size]? = some (.cells #[.pointer none, .int .i64 0, .string ⟨#[]⟩, .slice none 0 0] 135 (0, 0)) ∧ w2.heap[w.heap.size + 1]? = some (.cells #[.pointer (some a), .int .i64 0, .string ⟨#[]⟩, .slice none 0 0] 135 (0, 0)) :=
  ⟨hF2.keep (by rw [Below.heap_alloc _ _ _ (by simp)]; exact heap_new_at rfl _) (fun e => by have e' : w.heap.size = rb := e; omega), hF2.keep (heap_new_at (by simp) _) (fun e => by have e' : w.heap.size + 1 = rb := e; omega)⟩
/-- The cells that are written last. -/
theorem value_cells {w2 W : World} {n : Nat} {x0 x1 x2 x3 : Value} (hz : w2.heap[n]? = some (.cells #[x0, x1, x2, x3] 135 (0, 0))) (hW : Fr (One (n + 1)) w2 W) (c : VC) : (set4 W n c).cell? ⟨n, 0, none⟩ = some (.pointer (some c.a)) ∧ (set4 W n c).cell? ⟨n, 1, none⟩ = some (.int .i64 c.n) ∧ (set4 W n c).cell? ⟨n, 2, none⟩ = some (.string (ba c.b)) ∧ (set4 W n c).cell? ⟨n, 3, none⟩ = some c.sv := by
  obtain ⟨h1, h2, h3, h4, _⟩ := blk4 (set4_at (hW.keep hz (fun e => by have e' : n = n + 1 := e; omega)) c)
  exact ⟨h1, h2, h3, h4⟩

theorem X2.lt {w w' : World} {X : Nat → Prop} (h : ∀ b, X b → b < w.heap.size) (hs : w.heap.size + 2 ≤ w'.heap.size) : ∀ b, X2 X w.heap.size b → b < w'.heap.size := fun b hb => by
  rcases hb with hb | hb
  · have := h b hb; omega
  · omega
theorem X2.no {n : Nat} {X : Nat → Prop} (h : ∀ b, X b → b < n) {g : Nat} (hg : n + 2 ≤ g) : ¬ X2 X n g := fun hb => by
  rcases hb with hb | hb
  · have := h g hb; omega
  · omega
theorem own_some {w : World} {e : TypeId} {size : Nat} {v : Value} {n : Nat} {xs : List Value} (h : w.ownsRow 0 e size v n xs) (h0 : 0 < n) : ∃ g cap, v = .slice (some ⟨g, 0, none⟩) n cap := by
  rcases h.2 with ⟨_, hz⟩ | ⟨g, cap, cur, rfl, _⟩
  · omega
  · exact ⟨g, cap, rfl⟩
end Go.Proofs.YtnhkalnihjkoeaaGreatDoor
