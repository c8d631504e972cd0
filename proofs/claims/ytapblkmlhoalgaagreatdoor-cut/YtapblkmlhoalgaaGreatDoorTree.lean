/- Types as trees: what a description's text is read as, and how such a tree lies in memory. -/
import Derived.Test.YtapblkmlhoalgaaGreatDoorFind
namespace Go.Proofs.YtapblkmlhoalgaaGreatDoor
open Go.RowKit

/-- A type: its kind and depth, the names and the types of its parts. -/
structure PT where
  kind : Nat
  depth : Nat
  names : List ByteArray
  subs : List PT

def PT.word (k : Nat) : PT := ⟨k, 1, [], []⟩
def PT.dummy : PT := ⟨0, 0, [], []⟩

def maxDepth (l : List (ByteArray × PT)) : Nat := (l.map fun p => p.2.depth).foldl max 0
def compoundT (kind : Nat) (l : List (ByteArray × PT)) : PT := ⟨kind, maxDepth l + 1, l.map (·.1), l.map (·.2)⟩

structure Res where
  ok : Bool
  t : PT
  n : Nat
  bad : Option Nat

def noRes (n : Nat) (bad : Option Nat) : Res := ⟨false, PT.dummy, n, bad⟩

def wordIdx (nm : ByteArray) : Option Nat := (List.range 7).find? fun i => decide (wd i = nm)

def lineOf (nm : ByteArray) : List (ByteArray × PT) → Option PT
  | [] => none
  | p :: r => if p.1 = nm then some p.2 else lineOf nm r

def nameAt (s : ByteArray) (n : Nat) : ByteArray := s.extract n (lettersTo s n 6)

def pNamed (s : ByteArray) (lines : List (ByteArray × PT)) (n : Nat) (bad : Option Nat) : Res :=
  if lettersTo s n 6 = n then noRes n bad else
  match wordIdx (nameAt s n) with
  | some k => ⟨true, PT.word k, lettersTo s n 6, bad⟩
  | none => match lineOf (nameAt s n) lines with
    | some t => ⟨true, t, lettersTo s n 6, bad⟩
    | none => ⟨true, PT.dummy, lettersTo s n 6, orElse bad n⟩

/-- A new name that is none of some others: is it one? What is told of it if it is one of them? -/
def nameOk (s : ByteArray) (n : Nat) : Bool := !(decide (lettersTo s n 6 = n)) && (wordIdx (nameAt s n)).isNone
def nameBad (s : ByteArray) (others : List ByteArray) (n : Nat) (bad : Option Nat) : Option Nat := if others.any (fun x => decide (x = nameAt s n)) then orElse bad n else bad

def pPart (rd : Nat → Option Nat → Res) (s : ByteArray) (others : List ByteArray) (sign : Nat) (n : Nat) (bad : Option Nat) : Res :=
  if nameOk s n = false then noRes (lettersTo s n 6) bad else
  if byteAt s (lettersTo s n 6) = sign then rd (lettersTo s n 6 + 1) (nameBad s others n bad) else noRes (lettersTo s n 6) (nameBad s others n bad)

def pParts (rd : Nat → Option Nat → Res) (s : ByteArray) (kind between close : Nat) : Nat → List (ByteArray × PT) → Nat → Option Nat → Res
  | 0, _, n, bad => noRes n bad
  | k + 1, acc, n, bad =>
    let r := pPart rd s (acc.map (·.1)) 58 n bad
    if r.ok = false then noRes r.n r.bad else
    if byteAt s r.n = close then ⟨true, compoundT kind (acc ++ [(nameAt s n, r.t)]), r.n + 1, r.bad⟩ else
    if acc.length + 1 = 6 ∨ byteAt s r.n ≠ between then noRes r.n r.bad else
    pParts rd s kind between close k (acc ++ [(nameAt s n, r.t)]) (r.n + 1) r.bad

def pTyp (s : ByteArray) (lines : List (ByteArray × PT)) : Nat → Nat → Option Nat → Res
  | 0 => fun n bad => noRes n bad
  | f + 1 => fun n bad =>
    if byteAt s n = 91 then
      let r := pTyp s lines f (n + 1) bad
      if r.ok = false then noRes r.n r.bad else
      if byteAt s r.n = 93 then ⟨true, compoundT 7 [(⟨#[]⟩, r.t)], r.n + 1, r.bad⟩ else noRes r.n r.bad
    else if byteAt s n = 63 then
      let r := pTyp s lines f (n + 1) bad
      if r.ok = false then noRes r.n r.bad else ⟨true, compoundT 8 [(⟨#[]⟩, r.t)], r.n, r.bad⟩
    else if byteAt s n = 123 then pParts (pTyp s lines f) s 9 44 125 6 [] (n + 1) bad
    else if byteAt s n = 60 then pParts (pTyp s lines f) s 10 124 62 6 [] (n + 1) bad
    else pNamed s lines n bad

theorem wordIdx_some {nm : ByteArray} {k : Nat} (h : wordIdx nm = some k) : k < 7 ∧ wd k = nm := by
  have h1 := List.mem_of_find?_eq_some h
  have h2 := List.find?_some h
  simp at h1 h2
  exact ⟨h1, h2⟩
theorem wordIdx_none {nm : ByteArray} (h : wordIdx nm = none) : ∀ i, i < 7 → wd i ≠ nm := by
  intro i hi
  have := List.find?_eq_none.1 h i (by simp [hi])
  simpa using this

/-! ### How a tree lies in memory -/

/-- A tree in memory, at most k deep; none of its blocks is in X. -/
def TRep (w : World) (X : Nat → Prop) : Nat → Addr → PT → Prop
  | 0, _, _ => False
  | k + 1, a, t => ∃ (b : Nat) (sv : Value) (rows : List (ByteArray × Addr)), a = ⟨b, 0, none⟩ ∧ w.heap[b]? = some (.cells #[.int .i64 t.kind, sv, .int .i64 t.depth] 196 (0, 0)) ∧ ¬ X b ∧
      w.ownsRow 0 180 2 sv rows.length (rowCells rows) ∧ (∀ g, sv.ownBlock = some g → ¬ X g) ∧ rows.map (·.1) = t.names ∧ rows.length = t.subs.length ∧
      ∀ (j : Nat) (p : ByteArray × Addr) (u : PT), rows[j]? = some p → t.subs[j]? = some u → TRep w X k p.2 u

def TR (w : World) (X : Nat → Prop) (a : Addr) (t : PT) : Prop := ∃ k, TRep w X k a t

theorem ownsRow_keep {X : Nat → Prop} {w w' : World} {base : Nat} {e : TypeId} {size : Nat} {v : Value} {n : Nat} {xs : List Value} (h : w.ownsRow base e size v n xs) (hf : Fr X w w') (hx : ∀ g, v.ownBlock = some g → ¬ X g) : w'.ownsRow base e size v n xs := by
  refine ⟨h.1, ?_⟩
  rcases h.2 with h' | ⟨g, cap, cur, hv, hb, hg, r⟩
  · exact .inl h'
  · exact .inr ⟨g, cap, cur, hv, hb, hf.keep hg (hx g (by rw [hv]; rfl)), r⟩

theorem TRep.mono {w : World} {X : Nat → Prop} : ∀ (k : Nat) (a : Addr) (t : PT), TRep w X k a t → ∀ k', k ≤ k' → TRep w X k' a t := by
  intro k
  induction k with
  | zero => intro a t h; exact h.elim
  | succ k ih =>
    intro a t h k' hk
    obtain ⟨k'', rfl⟩ : ∃ k'', k' = k'' + 1 := ⟨k' - 1, by omega⟩
    obtain ⟨b, sv, rows, h1, h2, h3, h4, h5, h6, h7, h8⟩ := h
    exact ⟨b, sv, rows, h1, h2, h3, h4, h5, h6, h7, fun j p u hp hu => ih p.2 u (h8 j p u hp hu) k'' (by omega)⟩

theorem TRep.keep {w w' : World} {X : Nat → Prop} (hf : Fr X w w') : ∀ (k : Nat) (a : Addr) (t : PT), TRep w X k a t → TRep w' X k a t := by
  intro k
  induction k with
  | zero => intro a t h; exact h.elim
  | succ k ih =>
    intro a t h
    obtain ⟨b, sv, rows, h1, h2, h3, h4, h5, h6, h7, h8⟩ := h
    exact ⟨b, sv, rows, h1, hf.keep h2 h3, h3, ownsRow_keep h4 hf h5, h5, h6, h7, fun j p u hp hu => ih p.2 u (h8 j p u hp hu)⟩

theorem TRep.avoid {w : World} {X Y : Nat → Prop} (hxy : ∀ b, b < w.heap.size → Y b → X b) : ∀ (k : Nat) (a : Addr) (t : PT), TRep w X k a t → TRep w Y k a t := by
  intro k
  induction k with
  | zero => intro a t h; exact h.elim
  | succ k ih =>
    intro a t h
    obtain ⟨b, sv, rows, h1, h2, h3, h4, h5, h6, h7, h8⟩ := h
    exact ⟨b, sv, rows, h1, h2, fun y => h3 (hxy b (lt_of_heap h2) y), h4, fun g hg y => h5 g hg (hxy g (h4.lt g hg).2 y), h6, h7, fun j p u hp hu => ih p.2 u (h8 j p u hp hu)⟩

theorem TR.keep {w w' : World} {X : Nat → Prop} {a : Addr} {t : PT} (h : TR w X a t) (hf : Fr X w w') : TR w' X a t := by
  obtain ⟨k, h⟩ := h; exact ⟨k, TRep.keep hf k a t h⟩
theorem TR.avoid {w : World} {X Y : Nat → Prop} {a : Addr} {t : PT} (h : TR w X a t) (hxy : ∀ b, b < w.heap.size → Y b → X b) : TR w Y a t := by
  obtain ⟨k, h⟩ := h; exact ⟨k, TRep.avoid hxy k a t h⟩

/-- Rows of parts in memory, and their trees. -/
def LinesR (w : World) (X : Nat → Prop) (rows : List (ByteArray × Addr)) (lines : List (ByteArray × PT)) : Prop :=
  rows.map (·.1) = lines.map (·.1) ∧ ∀ (j : Nat) (p : ByteArray × Addr) (q : ByteArray × PT), rows[j]? = some p → lines[j]? = some q → TR w X p.2 q.2

theorem LinesR.keep {w w' : World} {X : Nat → Prop} {rows : List (ByteArray × Addr)} {lines : List (ByteArray × PT)} (h : LinesR w X rows lines) (hf : Fr X w w') : LinesR w' X rows lines :=
  ⟨h.1, fun j p q hp hq => (h.2 j p q hp hq).keep hf⟩
theorem LinesR.avoid {w : World} {X Y : Nat → Prop} {rows : List (ByteArray × Addr)} {lines : List (ByteArray × PT)} (h : LinesR w X rows lines) (hxy : ∀ b, b < w.heap.size → Y b → X b) : LinesR w Y rows lines :=
  ⟨h.1, fun j p q hp hq => (h.2 j p q hp hq).avoid hxy⟩
theorem LinesR.length {w : World} {X : Nat → Prop} {rows : List (ByteArray × Addr)} {lines : List (ByteArray × PT)} (h : LinesR w X rows lines) : rows.length = lines.length := by
  have := congrArg List.length h.1
  simpa using this
theorem LinesR.snoc {w : World} {X : Nat → Prop} {rows : List (ByteArray × Addr)} {lines : List (ByteArray × PT)} (h : LinesR w X rows lines) {nm : ByteArray} {a : Addr} {t : PT} (ht : TR w X a t) : LinesR w X (rows ++ [(nm, a)]) (lines ++ [(nm, t)]) := by
  have hl := h.length
  refine ⟨by simp [h.1], fun j p q hp hq => ?_⟩
  by_cases hj : j < rows.length
  · rw [List.getElem?_append_left hj] at hp
    rw [List.getElem?_append_left (by omega)] at hq
    exact h.2 j p q hp hq
  · rw [List.getElem?_append_right (by omega)] at hp hq
    have hj0 : j - rows.length = 0 := by
      rcases Nat.eq_zero_or_pos (j - rows.length) with e | e
      · exact e
      · rw [List.getElem?_eq_none (by simp; omega)] at hp; cases hp
    rw [← hl, hj0] at hq
    rw [hj0] at hp
    simp at hp hq
    subst hp hq
    exact ht

/-- find, of rows and of trees. -/
theorem LinesR.find {w : World} {X : Nat → Prop} {nm : ByteArray} : ∀ {rows : List (ByteArray × Addr)} {lines : List (ByteArray × PT)}, LinesR w X rows lines →
    (findRow nm rows = none ∧ lineOf nm lines = none) ∨ ∃ a t, findRow nm rows = some a ∧ lineOf nm lines = some t ∧ TR w X a t := by
  intro rows
  induction rows with
  | nil =>
    intro lines h
    have : lines = [] := List.eq_nil_of_length_eq_zero h.length.symm
    subst this
    exact .inl ⟨rfl, rfl⟩
  | cons p rows ih =>
    intro lines h
    cases lines with
    | nil => have := h.length; simp at this
    | cons q lines =>
      have hn : p.1 = q.1 := by have := h.1; simp at this; exact this.1
      have hr : LinesR w X rows lines := ⟨by have := h.1; simp at this; exact this.2, fun j p' q' hp hq => h.2 (j + 1) p' q' (by simpa using hp) (by simpa using hq)⟩
      by_cases e : p.1 = nm
      · exact .inr ⟨p.2, q.2, by rw [findRow, if_pos e], by rw [lineOf, if_pos (hn ▸ e)], h.2 0 p q rfl rfl⟩
      · rw [findRow, if_neg e, lineOf, if_neg (hn ▸ e)]
        exact ih hr

theorem findRow_mem {nm : ByteArray} : ∀ {rows : List (ByteArray × Addr)}, (findRow nm rows).isSome = (rows.map (·.1)).any (fun x => decide (x = nm)) := by
  intro rows
  induction rows with
  | nil => simp [findRow]
  | cons p rows ih =>
    by_cases e : p.1 = nm
    · rw [findRow, if_pos e]; simp [e]
    · rw [findRow, if_neg e, ih]
      simp [e]

/-- A parser in memory: where it stands, its lines, the first name and the first depth that are wrong. -/
def PS (w : World) (X : Nat → Prop) (pb : Nat) (s : ByteArray) (n : Nat) (lv : Value) (lines : List (ByteArray × PT)) (bad deep : Option Nat) : Prop :=
  ∃ (bn td : Value) (rows : List (ByteArray × Addr)), PB w pb s n lv bn td ∧ w.ownsRow 0 180 2 lv rows.length (rowCells rows) ∧ (∀ g, lv.ownBlock = some g → X g) ∧ LinesR w X rows lines ∧ RefV w 3 bn bad ∧ RefV w 4 td deep

theorem owned_ne {w : World} {pb : Nat} {s : ByteArray} {n : Nat} {lv bn td : Value} {base k size : Nat} {v : Value} {xs : List Value} (hP : PB w pb s n lv bn td) (h : w.ownsRow base 180 size v k xs) : ∀ g, v.ownBlock = some g → ¬ One pb g := by
  intro g hg
  rcases h.2 with ⟨rfl, _⟩ | ⟨g', cap, cur, rfl, hb, hh, r⟩
  · simp [Value.ownBlock] at hg
  · simp [Value.ownBlock] at hg
    subst hg
    exact hP.ne hh (by decide)

theorem Fr.one {X : Nat → Prop} {pb : Nat} {w w' : World} (h : Fr (One pb) w w') (hx : X pb) : Fr X w w' := h.mono (fun k _ e => by have e' : k = pb := e; rw [e']; exact hx)

/-- The parser's block alone has turned: its place. -/
theorem PS.step {w w' : World} {X : Nat → Prop} {pb : Nat} {s : ByteArray} {n m : Nat} {lv bn td : Value} {rows : List (ByteArray × Addr)} {lines : List (ByteArray × PT)} {bad deep : Option Nat} (hX : X pb)
    (hP : PB w pb s n lv bn td) (hO : w.ownsRow 0 180 2 lv rows.length (rowCells rows)) (hlx : ∀ g, lv.ownBlock = some g → X g) (hL : LinesR w X rows lines) (hb : RefV w 3 bn bad) (hd : RefV w 4 td deep)
    (hf : Fr (One pb) w w') (hP' : PB w' pb s m lv bn td) : PS w' X pb s m lv lines bad deep :=
  ⟨bn, td, rows, hP', ownsRow_keep hO hf (owned_ne hP hO), hlx, hL.keep (hf.one hX), hb.keep hP hf, hd.keep hP hf⟩

theorem PS.not1 {w : World} {X : Nat → Prop} {pb : Nat} {s : ByteArray} {n : Nat} {lv : Value} {lines : List (ByteArray × PT)} {bad deep : Option Nat} (h : PS w X pb s n lv lines bad deep) (hw : Words w) : ¬ One pb 5 := by
  obtain ⟨bn, td, rows, hP, _⟩ := h
  intro e
  have e' : 5 = pb := e
  subst e'
  have h1 := hP.at0
  rw [hw 0 (by omega)] at h1
  simp at h1

/-- What a reader of a type leaves. -/
def TypPost (w : World) (X : Nat → Prop) (pb : Nat) (s : ByteArray) (lv : Value) (lines : List (ByteArray × PT)) (deep : Option Nat) (r : Res) (e : Ending) (w' : World) : Prop :=
  Fr (One pb) w w' ∧ r.n ≤ s.size ∧ (∃ bad', PS w' X pb s r.n lv lines bad' deep ∧ (r.ok = true → bad' = r.bad)) ∧
    ∃ a : Option Addr, e = .returned (.tuple #[.pointer a, .bool r.ok]) ∧ (r.ok = true → ∃ a', a = some a' ∧ TR w' X a' r.t)

def TypSaid (s : ByteArray) (lines : List (ByteArray × PT)) (f : Nat) : Prop :=
  ∀ (w : World) (X : Nat → Prop) (pb n : Nat) (lv : Value) (bad deep : Option Nat), PS w X pb s n lv lines bad deep → Words w → X pb → (∀ b, X b → b < w.heap.size) → n ≤ s.size → s.size < n + f →
    Calls Tryz.prog 230 #[.pointer (some ⟨pb, 0, none⟩)] w fun e w' => TypPost w X pb s lv lines deep (pTyp s lines f n bad) e w'

end Go.Proofs.YtapblkmlhoalgaaGreatDoor
