/- What wordType tells of a word, and of what is none. An append that tells whether its array is the old one or a new one. What find finds in a row of parts, and refuseName, refuseDepth. Types as trees: what a description's text is read as, and how such a tree lies in memory. -/
import Derived.ArgAppend
import Derived.Test.YtnhkalnihjkoeaaGreatDoorRgReader
namespace Go.Proofs.YtnhkalnihjkoeaaGreatDoor
open Go.RowKit

/-- The words that mean types, by their numbers. -/
def wd : Nat → ByteArray
  | 0 => ⟨#[98, 121, 116, 101]⟩
  | 1 => ⟨#[115, 104, 111, 114, 116]⟩
  | 2 => ⟨#[119, 111, 114, 100]⟩
  | 3 => ⟨#[105, 110, 116]⟩
  | 4 => ⟨#[98, 111, 111, 108]⟩
  | 5 => ⟨#[116, 101, 120, 116]⟩
  | 6 => ⟨#[98, 121, 116, 101, 115]⟩
  | _ => ⟨#[]⟩

/-- The table of words lies in memory. -/
def Words (w : World) : Prop := ∀ i, i < 7 → w.cell? ⟨4, i, none⟩ = some (.string (wd i))

theorem Words.keep {w w' : World} {X : Nat → Prop} (h : Words w) (hf : Fr X w w') (hx : ¬ X 4) : Words w' := fun i hi =>
  (hf.cell (a := ⟨4, i, none⟩) (World.block_lt_of_cell? w _ (h 0 (by omega)) : 4 < w.heap.size) hx).trans (h i hi)

end Go.Proofs.YtnhkalnihjkoeaaGreatDoor

namespace Go.Proofs.YtnhkalnihjkoeaaGreatDoor
open Go.RowKit

end Go.Proofs.YtnhkalnihjkoeaaGreatDoor

namespace Go.Proofs.YtnhkalnihjkoeaaGreatDoor
open Go.RowKit

/-- The cells of a row of parts. -/
def rowCells (l : List (ByteArray × Addr)) : List Value := l.flatMap fun p => [.string p.1, .pointer (some p.2)]

/-- A refusal that is kept: none, or one of this number at this place. -/
def RefV (w : World) (errno : Int) (v : Value) : Option Nat → Prop
  | none => v = .pointer none
  | some n => ∃ b, v = .pointer (some ⟨b, 0, none⟩) ∧ w.heap[b]? = some (.cells #[.int .i64 errno, .int .i64 n] 132 (0, 0))

theorem RefV.keep {w w' : World} {errno : Int} {v : Value} {r : Option Nat} {pb : Nat} {s : ByteArray} {n : Nat} {lv bn td : Value} (h : RefV w errno v r) (hP : PB w pb s n lv bn td) (hf : Fr (One pb) w w') : RefV w' errno v r := by
  cases r with
  | none => exact h
  | some m =>
    obtain ⟨b, hv, hb⟩ := h
    exact ⟨b, hv, hf.keep hb (hP.ne hb (by decide))⟩

end Go.Proofs.YtnhkalnihjkoeaaGreatDoor

namespace Go.Proofs.YtnhkalnihjkoeaaGreatDoor
open Go.RowKit

/-- A type: its kind and depth, the names and the types of its parts. -/
structure PT where
  kind : Nat
  depth : Nat
  names : List ByteArray
  subs : List PT

/-! ### How a tree lies in memory -/

/-- A tree in memory, at most k deep; none of its blocks is in X. -/
def TRep (w : World) (X : Nat → Prop) : Nat → Addr → PT → Prop
  | 0, _, _ => False
  | k + 1, a, t => ∃ (b : Nat) (sv : Value) (rows : List (ByteArray × Addr)), a = ⟨b, 0, none⟩ ∧ w.heap[b]? = some (.cells #[.int .i64 t.kind, sv, .int .i64 t.depth] 317 (0, 0)) ∧ ¬ X b ∧
      w.ownsRow 0 218 2 sv rows.length (rowCells rows) ∧ (∀ g, sv.ownBlock = some g → ¬ X g) ∧ rows.map (·.1) = t.names ∧ rows.length = t.subs.length ∧
      ∀ (j : Nat) (p : ByteArray × Addr) (u : PT), rows[j]? = some p → t.subs[j]? = some u → TRep w X k p.2 u

def TR (w : World) (X : Nat → Prop) (a : Addr) (t : PT) : Prop := ∃ k, TRep w X k a t

theorem ownsRow_keep {X : Nat → Prop} {w w' : World} {base : Nat} {e : TypeId} {size : Nat} {v : Value} {n : Nat} {xs : List Value} (h : w.ownsRow base e size v n xs) (hf : Fr X w w') (hx : ∀ g, v.ownBlock = some g → ¬ X g) : w'.ownsRow base e size v n xs := by
  refine ⟨h.1, ?_⟩
  rcases h.2 with h' | ⟨g, cap, cur, hv, hb, hg, r⟩
  · exact .inl h'
  · exact .inr ⟨g, cap, cur, hv, hb, hf.keep hg (hx g (by rw [hv]; rfl)), r⟩

theorem TRep.mono {w : World} {X : Nat → Prop} : ∀ (k : Nat) (a : Addr) (t : PT), TRep w X k a t → ∀ k', k ≤ k' → TRep w X k' a t := by
  intro k
  induction k with
  | zero => intro a t h; exact h.elim
  | succ k ih =>
    intro a t h k' hk
    obtain ⟨k'', rfl⟩ : ∃ k'', k' = k'' + 1 := ⟨k' - 1, by omega⟩
    obtain ⟨b, sv, rows, h1, h2, h3, h4, h5, h6, h7, h8⟩ := h
    exact ⟨b, sv, rows, h1, h2, h3, h4, h5, h6, h7, fun j p u hp hu => ih p.2 u (h8 j p u hp hu) k'' (by omega)⟩

theorem TRep.keep {w w' : World} {X : Nat → Prop} (hf : Fr X w w') : ∀ (k : Nat) (a : Addr) (t : PT), TRep w X k a t → TRep w' X k a t := by
  intro k
  induction k with
  | zero => intro a t h; exact h.elim
  | succ k ih =>
    intro a t h
    obtain ⟨b, sv, rows, h1, h2, h3, h4, h5, h6, h7, h8⟩ := h
    exact ⟨b, sv, rows, h1, hf.keep h2 h3, h3, ownsRow_keep h4 hf h5, h5, h6, h7, fun j p u hp hu => ih p.2 u (h8 j p u hp hu)⟩

theorem TR.keep {w w' : World} {X : Nat → Prop} {a : Addr} {t : PT} (h : TR w X a t) (hf : Fr X w w') : TR w' X a t := by
  obtain ⟨k, h⟩ := h; exact ⟨k, TRep.keep hf k a t h⟩
/-- Rows of parts in memory, and their trees. -/
def LinesR (w : World) (X : Nat → Prop) (rows : List (ByteArray × Addr)) (lines : List (ByteArray × PT)) : Prop :=
  rows.map (·.1) = lines.map (·.1) ∧ ∀ (j : Nat) (p : ByteArray × Addr) (q : ByteArray × PT), rows[j]? = some p → lines[j]? = some q → TR w X p.2 q.2

theorem LinesR.keep {w w' : World} {X : Nat → Prop} {rows : List (ByteArray × Addr)} {lines : List (ByteArray × PT)} (h : LinesR w X rows lines) (hf : Fr X w w') : LinesR w' X rows lines :=
  ⟨h.1, fun j p q hp hq => (h.2 j p q hp hq).keep hf⟩
theorem LinesR.length {w : World} {X : Nat → Prop} {rows : List (ByteArray × Addr)} {lines : List (ByteArray × PT)} (h : LinesR w X rows lines) : rows.length = lines.length := by
  have := congrArg List.length h.1
  simpa using this
theorem LinesR.snoc {w : World} {X : Nat → Prop} {rows : List (ByteArray × Addr)} {lines : List (ByteArray × PT)} (h : LinesR w X rows lines) {nm : ByteArray} {a : Addr} {t : PT} (ht : TR w X a t) : LinesR w X (rows ++ [(nm, a)]) (lines ++ [(nm, t)]) := by
  have hl := h.length
  refine ⟨by simp [h.1], fun j p q hp hq => ?_⟩
  by_cases hj : j < rows.length
  · rw [List.getElem?_append_left hj] at hp
    rw [List.getElem?_append_left (by omega)] at hq
    exact h.2 j p q hp hq
  · rw [List.getElem?_append_right (by omega)] at hp hq
    have hj0 : j - rows.length = 0 := by
      rcases Nat.eq_zero_or_pos (j - rows.length) with e | e
      · exact e
      · rw [List.getElem?_eq_none (by simp; omega)] at hp; cases hp
    rw [← hl, hj0] at hq
    rw [hj0] at hp
    simp at hp hq
    subst hp hq
    exact ht

/-- A parser in memory: where it stands, its lines, the first name and the first depth that are wrong. -/
def PS (w : World) (X : Nat → Prop) (pb : Nat) (s : ByteArray) (n : Nat) (lv : Value) (lines : List (ByteArray × PT)) (bad deep : Option Nat) : Prop :=
  ∃ (bn td : Value) (rows : List (ByteArray × Addr)), PB w pb s n lv bn td ∧ w.ownsRow 0 218 2 lv rows.length (rowCells rows) ∧ (∀ g, lv.ownBlock = some g → X g) ∧ LinesR w X rows lines ∧ RefV w 3 bn bad ∧ RefV w 4 td deep

theorem owned_ne {w : World} {pb : Nat} {s : ByteArray} {n : Nat} {lv bn td : Value} {base k size : Nat} {v : Value} {xs : List Value} (hP : PB w pb s n lv bn td) (h : w.ownsRow base 218 size v k xs) : ∀ g, v.ownBlock = some g → ¬ One pb g := by
  intro g hg
  rcases h.2 with ⟨rfl, _⟩ | ⟨g', cap, cur, rfl, hb, hh, r⟩
  · simp [Value.ownBlock] at hg
  · simp [Value.ownBlock] at hg
    subst hg
    exact hP.ne hh (by decide)

theorem Fr.one {X : Nat → Prop} {pb : Nat} {w w' : World} (h : Fr (One pb) w w') (hx : X pb) : Fr X w w' := h.mono (fun k _ e => by have e' : k = pb := e; rw [e']; exact hx)

/-- The parser's block alone has turned: its place. -/
theorem PS.step {w w' : World} {X : Nat → Prop} {pb : Nat} {s : ByteArray} {n m : Nat} {lv bn td : Value} {rows : List (ByteArray × Addr)} {lines : List (ByteArray × PT)} {bad deep : Option Nat} (hX : X pb)
    (hP : PB w pb s n lv bn td) (hO : w.ownsRow 0 218 2 lv rows.length (rowCells rows)) (hlx : ∀ g, lv.ownBlock = some g → X g) (hL : LinesR w X rows lines) (hb : RefV w 3 bn bad) (hd : RefV w 4 td deep)
    (hf : Fr (One pb) w w') (hP' : PB w' pb s m lv bn td) : PS w' X pb s m lv lines bad deep :=
  ⟨bn, td, rows, hP', ownsRow_keep hO hf (owned_ne hP hO), hlx, hL.keep (hf.one hX), hb.keep hP hf, hd.keep hP hf⟩

end Go.Proofs.YtnhkalnihjkoeaaGreatDoor
