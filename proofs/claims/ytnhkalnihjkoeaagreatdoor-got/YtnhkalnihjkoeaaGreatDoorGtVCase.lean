/- How choices are read of a text. -/
import Derived.Deep.Cut
import Derived.Deep.CutRange
import Derived.Deep.RegionHeld3
import Derived.Test.YtnhkalnihjkoeaaGreatDoorGtVWrite
section
namespace Go.Proofs.YtnhkalnihjkoeaaGreatDoor
open Go.RowKit

theorem ba_append (x y : Bs) : ba x ++ ba y = ba (x ++ y) := by
  apply bytes_data
  simp [ba]
theorem RB.same {ty : TypeId} {w w' : World} {rb : Nat} {s : ByteArray} {l : Bs} (h : RB ty w rb s l) (e : w'.heap = w.heap) : RB ty w' rb s l := ⟨h.len, h.tail, by rw [e]; exact h.block⟩
theorem Fr.drew (X : Nat → Prop) (w : World) : Fr X w w.drew := ⟨rfl, rfl, rfl, Nat.le_refl _, fun _ _ _ => rfl⟩
theorem conv_at {b : UInt8} {k : Nat} {w : World} (h : w.heap[k]? = some (.cells #[.int .u8 b.toNat] 5 (0, 0))) : (convert 32 9 (.slice (some ⟨k, 0, none⟩) 1 1)).run Tryz.prog w = .ok (.string (ba [b])) w := by
  refine run_convert_bytes_back (P := Tryz.prog) _ 32 9 5 ⟨k, 0, none⟩ 1 [b] Tryz.underlying32 Tryz.underlying5 Tryz.underlying9 (fun j hj => ?_)
  have : j = 0 := by simp at hj; omega
  subst this
  show w.cell? ⟨k, 0, none⟩ = _
  rw [cell_of_heap h]; rfl

end Go.Proofs.YtnhkalnihjkoeaaGreatDoor
end
section
namespace Go.Proofs.YtnhkalnihjkoeaaGreatDoor
open Go.RowKit

theorem Tryz.info69 : (Tryz.prog.info? 135).map (fun i => (i.zero, i.size, i.bytes)) = some (some (.agg #[.pointer none, .int .i64 0, .string ⟨#[]⟩, .slice none 0 0]), 4, 56) := by kernel_rfl

/-- What a reader of a value leaves. -/
def ValPost (ty : TypeId) (w : World) (X : Nat → Prop) (rb : Nat) (s : ByteArray) (res : Option PV × Bs) (e : Ending) (w' : World) : Prop :=
  Fr (One rb) w w' ∧ RB ty w' rb s res.2 ∧ ∃ c : VC, (∃ o n k, c.sv = .slice o n k) ∧ e = .returned (.tuple #[c.val, .bool res.1.isSome]) ∧ (∀ v, res.1 = some v → VR w' X c v)

/-- What a reader of parts leaves. -/
def PartsPost (ty : TypeId) (w : World) (X : Nat → Prop) (rb : Nat) (s : ByteArray) (res : Option (List PV) × Bs) (e : Ending) (w' : World) : Prop :=
  Fr (One rb) w w' ∧ RB ty w' rb s res.2 ∧ ∃ sv : Value, (∃ o n k, sv = .slice o n k) ∧ e = .returned (.tuple #[sv, .bool res.1.isSome]) ∧ (∀ vs, res.1 = some vs → ∃ rows : List VC, w'.ownsRow 0 135 4 sv rows.length (vCells rows) ∧ (∀ g, sv.ownBlock = some g → w.heap.size ≤ g) ∧ VL w' (XO X sv) rows vs)

theorem TR.past {w : World} {X : Nat → Prop} {a : Addr} {t : PT} (h : TR w X a t) : TR w (fun b => X b ∨ w.heap.size ≤ b) a t :=
  h.avoid (fun b hb hx => by rcases hx with hx | hx; exact hx; omega)
theorem TR.open_ {w w' : World} {X : Nat → Prop} {rb B : Nat} {v : Value} {a : Addr} {t : PT} (h : TR w (fun b => X b ∨ B ≤ b) a t) (hX : X rb) (hf : Fr (One rb) w w') (hv : ∀ g, v.ownBlock = some g → B ≤ g) : TR w' (XO X v) a t :=
  (h.keep (hf.mono (fun k _ e => .inl (by have e' : k = rb := e; rw [e']; exact hX)))).avoid (fun b _ hx => by
    rcases hx with hx | hx
    · exact .inl hx
    · exact .inr (hv b hx))
theorem XO.lt {w w' : World} {X : Nat → Prop} {v : Value} {n : Nat} {xs : List Value} {e : TypeId} {size : Nat} (hX : ∀ b, X b → b < w.heap.size) (hO : w'.ownsRow 0 e size v n xs) (hs : w.heap.size ≤ w'.heap.size) : ∀ b, XO X v b → b < w'.heap.size := fun b hb => by
  rcases hb with h | h
  · exact Nat.lt_of_lt_of_le (hX b h) hs
  · exact (hO.lt b h).2
/-- What is there avoids what comes later. -/
theorem VR.past {w w' : World} {X : Nat → Prop} {sv : Value} {c : VC} {p : PV} (h : VR w X c p) (hf : Fr Zero w w') (hv : ∀ g, sv.ownBlock = some g → w.heap.size ≤ g) : VR w' (XO X sv) c p :=
  ((h.avoid (Y := fun b => X b ∨ w.heap.size ≤ b) (fun b hb hx => by rcases hx with hx | hx; exact hx; omega)).keep hf.of0).avoid (fun b _ hx => by
    rcases hx with hx | hx
    · exact .inl hx
    · exact .inr (hv b hx))
/-- A row of one value in a block of its own. -/
theorem own_one {w : World} {g : Nat} {c : VC} (h : w.heap[g]? = some (.cells #[.pointer (some c.a), .int .i64 c.n, .string (ba c.b), c.sv] 135 (0, 0))) : w.ownsRow 0 135 4 (.slice (some ⟨g, 0, none⟩) 1 1) 1 (vCells [c]) :=
  ⟨rfl, .inr ⟨g, 1, _, rfl, Nat.zero_le _, h, by omega, by decide, rfl, rfl⟩⟩
theorem own_slice {w : World} {base : Nat} {e : TypeId} {size : Nat} {v : Value} {n : Nat} {xs : List Value} (h : w.ownsRow base e size v n xs) : ∃ a cap, v = .slice a n cap := by
  rcases h.2 with ⟨rfl, rfl⟩ | ⟨g, cap, cur, rfl, _⟩
  · exact ⟨none, 0, rfl⟩
  · exact ⟨_, cap, rfl⟩

/-- Reading by a function, of the types t. -/
def Said (ty : TypeId) (f : FuncId) (rd : PT → Bs → Option PV × Bs) (t : PT) (s : ByteArray) : Prop :=
  ∀ (w : World) (X : Nat → Prop) (rb : Nat) (a : Addr) (l : Bs), RB ty w rb s l → X rb → (∀ b, X b → b < w.heap.size) → TR w X a t →
    Calls Tryz.prog f #[.pointer (some ⟨rb, 0, none⟩), .pointer (some a)] w fun e w' => ValPost ty w X rb s (rd t l) e w'

end Go.Proofs.YtnhkalnihjkoeaaGreatDoor
end
section
namespace Go.Proofs.YtnhkalnihjkoeaaGreatDoor
open Go.RowKit

theorem Tryz.info9 : (Tryz.prog.info? 9).map (fun i => (i.zero, i.size, i.bytes)) = some (some (.string ⟨#[]⟩), 1, 16) := by kernel_rfl

/-- What a reader of a choice leaves. -/
def CasePost (ty : TypeId) (w : World) (X : Nat → Prop) (rb : Nat) (s : ByteArray) (res : Option (Nat × PV) × Bs) (e : Ending) (w' : World) : Prop :=
  Fr (One rb) w w' ∧ RB ty w' rb s res.2 ∧ ∃ (n : Int) (sv : Value), (∃ o m k, sv = .slice o m k) ∧ e = .returned (.tuple #[.int .i64 n, sv, .bool res.1.isSome]) ∧ (∀ i v, res.1 = some (i, v) → n = i ∧ ∃ rows : List VC, w'.ownsRow 0 135 4 sv rows.length (vCells rows) ∧ (∀ g, sv.ownBlock = some g → w.heap.size ≤ g) ∧ VL w' (XO X sv) rows [v])

end Go.Proofs.YtnhkalnihjkoeaaGreatDoor
end
