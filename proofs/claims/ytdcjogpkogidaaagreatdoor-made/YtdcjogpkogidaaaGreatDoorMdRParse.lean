/- The other reader's parse. The other reader's parse. The other reader's named. The other reader's wrong. -/
import Derived.Deep.RegionLaw
import Derived.Test.YtdcjogpkogidaaaGreatDoorMdParse
section
namespace Go.Proofs.YtdcjogpkogidaaaGreatDoor
open Go.RowKit

/-- A row of the table of types: its kind, what it is made of, names, places. -/
structure RT where
  kind : Nat
  of : List Nat
  names : List ByteArray
  ats : List Nat

/-- Such a row as it lies in memory. -/
structure RV where
  k : Nat
  o : Value
  n : Value
  a : Value

def rvCells (l : List RV) : List Value := l.flatMap fun r => [.int .i64 r.k, r.o, r.n, r.a]
def ints (l : List Nat) : List Value := l.map fun (x : Nat) => .int .i64 (x : Int)
def texts (l : List ByteArray) : List Value := l.map .string

theorem rvCells_get (l : List RV) : ∀ (j : Nat) (r : RV), l[j]? = some r → (rvCells l)[j * 4]? = some (.int .i64 r.k) ∧ (rvCells l)[j * 4 + 1]? = some r.o ∧ (rvCells l)[j * 4 + 2]? = some r.n ∧ (rvCells l)[j * 4 + 3]? = some r.a := by
  induction l with
  | nil => intro j p h; simp at h
  | cons q l ih =>
    intro j p h
    cases j with
    | zero => simp at h; subst h; exact ⟨rfl, rfl, rfl, rfl⟩
    | succ j =>
      have h' : l[j]? = some p := by simpa using h
      have e : rvCells (q :: l) = .int .i64 q.k :: q.o :: q.n :: q.a :: rvCells l := rfl
      rw [e, show (j + 1) * 4 = j * 4 + 1 + 1 + 1 + 1 by omega]
      exact ih j p h'

/-- A slice of one-cell elements whose array is not in X. -/
def SL (w : World) (X : Nat → Prop) (e : TypeId) (v : Value) (xs : List Value) : Prop := w.ownsRow 0 e 1 v xs.length xs ∧ ∀ g, v.ownBlock = some g → ¬ X g

def RTR (w : World) (X : Nat → Prop) (r : RV) (t : RT) : Prop := r.k = t.kind ∧ SL w X 3 r.o (ints t.of) ∧ SL w X 9 r.n (texts t.names) ∧ SL w X 3 r.a (ints t.ats)

def TabR (w : World) (X : Nat → Prop) (rows : List RV) (tab : List RT) : Prop :=
  rows.length = tab.length ∧ ∀ (j : Nat) (r : RV) (t : RT), rows[j]? = some r → tab[j]? = some t → RTR w X r t

theorem SL.keep {w w' : World} {X : Nat → Prop} {e : TypeId} {v : Value} {xs : List Value} (h : SL w X e v xs) (hf : Fr X w w') : SL w' X e v xs := ⟨ownsRow_keep h.1 hf h.2, h.2⟩
theorem SL.avoid {w : World} {X Y : Nat → Prop} {e : TypeId} {v : Value} {xs : List Value} (h : SL w X e v xs) (hxy : ∀ b, b < w.heap.size → Y b → X b) : SL w Y e v xs := ⟨h.1, fun g hg hy => h.2 g hg (hxy g (h.1.lt g hg).2 hy)⟩
theorem SL.nil (w : World) (X : Nat → Prop) (e : TypeId) : SL w X e (.slice none 0 0) [] := ⟨World.ownsRow_nil _ _ _ _, fun g hg => by simp [Value.ownBlock] at hg⟩
theorem RTR.keep {w w' : World} {X : Nat → Prop} {r : RV} {t : RT} (h : RTR w X r t) (hf : Fr X w w') : RTR w' X r t := ⟨h.1, h.2.1.keep hf, h.2.2.1.keep hf, h.2.2.2.keep hf⟩
theorem RTR.avoid {w : World} {X Y : Nat → Prop} {r : RV} {t : RT} (h : RTR w X r t) (hxy : ∀ b, b < w.heap.size → Y b → X b) : RTR w Y r t := ⟨h.1, h.2.1.avoid hxy, h.2.2.1.avoid hxy, h.2.2.2.avoid hxy⟩
theorem TabR.keep {w w' : World} {X : Nat → Prop} {rows : List RV} {tab : List RT} (h : TabR w X rows tab) (hf : Fr X w w') : TabR w' X rows tab := ⟨h.1, fun j r t hr ht => (h.2 j r t hr ht).keep hf⟩
theorem TabR.avoid {w : World} {X Y : Nat → Prop} {rows : List RV} {tab : List RT} (h : TabR w X rows tab) (hxy : ∀ b, b < w.heap.size → Y b → X b) : TabR w Y rows tab := ⟨h.1, fun j r t hr ht => (h.2 j r t hr ht).avoid hxy⟩
theorem TabR.snoc {w : World} {X : Nat → Prop} {rows : List RV} {tab : List RT} (h : TabR w X rows tab) {r : RV} {t : RT} (ht : RTR w X r t) : TabR w X (rows ++ [r]) (tab ++ [t]) := by
  have hl := h.1
  refine ⟨by simp [hl], fun j p q hp hq => ?_⟩
  by_cases hj : j < rows.length
  · rw [List.getElem?_append_left hj] at hp
    rw [List.getElem?_append_left (by omega)] at hq
    exact h.2 j p q hp hq
  · rw [List.getElem?_append_right (by omega)] at hp hq
    have hj0 : j - rows.length = 0 := by
      rcases Nat.eq_zero_or_pos (j - rows.length) with e | e
      · exact e
      · rw [List.getElem?_eq_none (by simp; omega)] at hp; cases hp
    rw [← hl, hj0] at hq
    rw [hj0] at hp
    simp at hp hq
    subst hp hq
    exact ht

/-- The reader in memory. -/
def DB (w : World) (db : Nat) (s : ByteArray) (n : Nat) (bad : Bool) (tv lv av rv : Value) : Prop :=
  w.heap[db]? = some (.cells #[.string s, .int .i64 n, tv, lv, av, rv, .bool bad] 172 (0, 0))

section
variable {w w' : World} {db : Nat} {s : ByteArray} {n : Nat} {bad : Bool} {tv lv av rv : Value}
theorem DB.at0 (h : DB w db s n bad tv lv av rv) : w.cell? ⟨db, 0, none⟩ = some (.string s) := by rw [cell_of_heap h]; rfl
theorem DB.at1 (h : DB w db s n bad tv lv av rv) : w.cell? ⟨db, 1, none⟩ = some (.int .i64 n) := by rw [cell_of_heap h]; rfl
theorem DB.at2 (h : DB w db s n bad tv lv av rv) : w.cell? ⟨db, 2, none⟩ = some tv := by rw [cell_of_heap h]; rfl
theorem DB.at3 (h : DB w db s n bad tv lv av rv) : w.cell? ⟨db, 3, none⟩ = some lv := by rw [cell_of_heap h]; rfl
theorem DB.at4 (h : DB w db s n bad tv lv av rv) : w.cell? ⟨db, 4, none⟩ = some av := by rw [cell_of_heap h]; rfl
theorem DB.at5 (h : DB w db s n bad tv lv av rv) : w.cell? ⟨db, 5, none⟩ = some rv := by rw [cell_of_heap h]; rfl
theorem DB.free (h : DB w db s n bad tv lv av rv) (o : Nat) : w.frozen? ⟨db, o, none⟩ = false := free_of_heap h
theorem DB.drewN (h : DB w db s n bad tv lv av rv) (k : Nat) : DB (w.drewN k) db s n bad tv lv av rv := h
theorem DB.set2 (h : DB w db s n bad tv lv av rv) (v : Value) : DB (w.setCell ⟨db, 2, none⟩ v) db s n bad v lv av rv := by unfold DB; rw [heap_setCell_same h]; rfl
theorem DB.set3 (h : DB w db s n bad tv lv av rv) (v : Value) : DB (w.setCell ⟨db, 3, none⟩ v) db s n bad tv v av rv := by unfold DB; rw [heap_setCell_same h]; rfl
theorem DB.set4 (h : DB w db s n bad tv lv av rv) (v : Value) : DB (w.setCell ⟨db, 4, none⟩ v) db s n bad tv lv v rv := by unfold DB; rw [heap_setCell_same h]; rfl
theorem DB.alloc (h : DB w db s n bad tv lv av rv) (o : Obj) : DB (w.alloc o) db s n bad tv lv av rv := by unfold DB; rw [Below.heap_alloc _ _ _ (lt_of_heap h)]; exact h
theorem DB.keep (h : DB w db s n bad tv lv av rv) {X : Nat → Prop} (hf : Fr X w w') (hx : ¬ X db) : DB w' db s n bad tv lv av rv := hf.keep h hx
theorem DB.ne (h : DB w db s n bad tv lv av rv) {b : Nat} {c : Array Value} {t : TypeId} {f : Nat × Nat} (hb : w.heap[b]? = some (.cells c t f)) (ht : t ≠ 172) : b ≠ db := by
  intro e'
  subst e'
  unfold DB at h
  rw [h] at hb
  simp at hb
  exact ht hb.2.1.symm
end

def rIs (s : ByteArray) (n : Nat) (bad : Bool) (c : Nat) : Bool := !bad && decide (byteAt s n = c)

def mustN (s : ByteArray) (n : Nat) (bad : Bool) (c : Nat) : Nat := if rIs s n bad c then n + 1 else n
def mustB (s : ByteArray) (n : Nat) (bad : Bool) (c : Nat) : Bool := if rIs s n bad c then false else true

end Go.Proofs.YtdcjogpkogidaaaGreatDoor

namespace Go.Proofs.YtdcjogpkogidaaaGreatDoor
open Go.RowKit

def isLetter (s : ByteArray) (n : Nat) : Bool := decide (97 ≤ byteAt s n ∧ byteAt s n ≤ 122)
/-- Are there more than six letters? -/
def tooMany (s : ByteArray) (n : Nat) : Bool := decide (lettersTo s n 6 = n + 6) && isLetter s (n + 6)
def wordN (s : ByteArray) (n : Nat) (bad : Bool) : Nat := if bad then n else lettersTo s n 6
def wordB (s : ByteArray) (n : Nat) (bad : Bool) : Bool := bad || tooMany s n || decide (lettersTo s n 6 = n)
def wordS (s : ByteArray) (n : Nat) (bad : Bool) : ByteArray := if bad then ByteArray.empty else if tooMany s n then ⟨#[]⟩ else nameAt s n

/-- Where the reader stands. -/
def placeD (db : Nat) (w : World) : Nat := match w.cell? ⟨db, 1, none⟩ with
  | some (.int _ q) => q.toNat
  | _ => 0
theorem DB.place {w : World} {db : Nat} {s : ByteArray} {n : Nat} {bad : Bool} {tv lv av rv : Value} (h : DB w db s n bad tv lv av rv) : placeD db w = n := by
  unfold placeD; rw [h.at1]; simp

end Go.Proofs.YtdcjogpkogidaaaGreatDoor

namespace Go.Proofs.YtdcjogpkogidaaaGreatDoor
open Go.RowKit

end Go.Proofs.YtdcjogpkogidaaaGreatDoor

namespace Go.Proofs.YtdcjogpkogidaaaGreatDoor
open Go.RowKit

def nameB (s : ByteArray) (n : Nat) (bad : Bool) : Bool := wordB s n bad || (wordIdx (wordS s n bad)).isSome

/-- The reader and its table. -/
def DS (w : World) (X : Nat → Prop) (db : Nat) (s : ByteArray) (n : Nat) (bad : Bool) (tv lv av rv : Value) (tab : List RT) : Prop :=
  DB w db s n bad tv lv av rv ∧ ∃ rows : List RV, w.ownsRow 0 250 4 tv rows.length (rvCells rows) ∧ TabR w (XO X tv) rows tab

/-- What a call that adds types may turn. -/
def Ch (db : Nat) (tv : Value) : Nat → Prop := fun k => k = db ∨ tv.ownBlock = some k

theorem owned_neD {w : World} {db : Nat} {s : ByteArray} {n : Nat} {bad : Bool} {tv lv av rv v : Value} {base k size : Nat} {e : TypeId} {xs : List Value} (hD : DB w db s n bad tv lv av rv) (h : w.ownsRow base e size v k xs) (he : e ≠ 172) : ∀ g, v.ownBlock = some g → g ≠ db := by
  intro g hg
  obtain ⟨cur, hh⟩ := own_type h hg
  exact hD.ne hh he

end Go.Proofs.YtdcjogpkogidaaaGreatDoor
end
section
namespace Go.Proofs.YtdcjogpkogidaaaGreatDoor
open Go.RowKit

structure RS where
  n : Nat
  bad : Bool
  tab : List RT

def rMust (s : ByteArray) (c : Nat) (st : RS) : RS := ⟨mustN s st.n st.bad c, mustB s st.n st.bad c, st.tab⟩
def rAdd (st : RS) (t : RT) : RS × Nat := (⟨st.n, st.bad, st.tab ++ [t]⟩, st.tab.length)

def rLoop (rd : RS → RS × Nat) (s : ByteArray) (btw : Nat) : Nat → RT → RS → RT × RS
  | 0, t, st => (t, st)
  | k + 1, t, st =>
    let r := rd (rMust s 58 ⟨wordN s (st.n + 1) false, nameB s (st.n + 1) false, st.tab⟩)
    let t' : RT := ⟨t.kind, t.of ++ [r.2], t.names ++ [wordS s (st.n + 1) false], t.ats ++ [st.n + 1]⟩
    if rIs s r.1.n r.1.bad btw = true ∧ t.of.length + 1 ≠ 6 then rLoop rd s btw k t' r.1 else (t', r.1)

def rParts (rd : RS → RS × Nat) (s : ByteArray) (kind btw close : Nat) (st : RS) : RS × Nat :=
  rAdd (rMust s close (rLoop rd s btw 6 ⟨kind, [], [], []⟩ st).2) (rLoop rd s btw 6 ⟨kind, [], [], []⟩ st).1

def rTyp (s : ByteArray) : Nat → RS → RS × Nat
  | 0 => fun st => (st, 0)
  | f + 1 => fun st =>
    if st.bad then (st, 0) else
    if byteAt s st.n = 91 then rAdd (rMust s 93 (rTyp s f ⟨st.n + 1, false, st.tab⟩).1) ⟨7, [(rTyp s f ⟨st.n + 1, false, st.tab⟩).2], [], []⟩
    else if byteAt s st.n = 63 then rAdd (rTyp s f ⟨st.n + 1, false, st.tab⟩).1 ⟨8, [(rTyp s f ⟨st.n + 1, false, st.tab⟩).2], [], []⟩
    else if byteAt s st.n = 123 then rParts (rTyp s f) s 9 44 125 st
    else if byteAt s st.n = 60 then rParts (rTyp s f) s 10 124 62 st
    else match wordIdx (wordS s st.n false) with
      | some k => rAdd ⟨wordN s st.n false, wordB s st.n false, st.tab⟩ ⟨k, [], [], []⟩
      | none => rAdd ⟨wordN s st.n false, wordB s st.n false, st.tab⟩ ⟨11, [], [wordS s st.n false], [st.n]⟩

/-! ### Places only go on, and there are not more types than places -/
/-! ### The reader and its table, behind other writes -/
theorem DS.other {w w' : World} {X Y : Nat → Prop} {db : Nat} {s : ByteArray} {n : Nat} {bad : Bool} {tv lv av rv : Value} {tab : List RT} (h : DS w X db s n bad tv lv av rv tab) (hf : Fr Y w w') (hyx : ∀ k, Y k → X k) (hyd : ¬ Y db) (hyt : ∀ g, tv.ownBlock = some g → ¬ Y g) : DS w' X db s n bad tv lv av rv tab := by
  obtain ⟨hD, rows, hO, hT⟩ := h
  exact ⟨hf.keep hD hyd, rows, ownsRow_keep hO hf hyt, hT.keep (hf.mono (fun k _ hk => .inl (hyx k hk)))⟩

theorem DS.keep0 {w w' : World} {X : Nat → Prop} {db : Nat} {s : ByteArray} {n : Nat} {bad : Bool} {tv lv av rv : Value} {tab : List RT} (h : DS w X db s n bad tv lv av rv tab) (hf : Fr Zero w w') : DS w' X db s n bad tv lv av rv tab :=
  h.other (Y := Zero) hf (fun _ h => h.elim) (fun h => h) (fun _ _ h => h)

theorem DS.avoid {w : World} {X Y : Nat → Prop} {db : Nat} {s : ByteArray} {n : Nat} {bad : Bool} {tv lv av rv : Value} {tab : List RT} (h : DS w X db s n bad tv lv av rv tab) (hxy : ∀ b, b < w.heap.size → Y b → X b) : DS w Y db s n bad tv lv av rv tab := by
  obtain ⟨hD, rows, hO, hT⟩ := h
  refine ⟨hD, rows, hO, hT.avoid (fun b hb hy => ?_)⟩
  rcases hy with hy | hy
  · exact .inl (hxy b hb hy)
  · exact .inr hy

theorem DS.grow {w w' : World} {X Y : Nat → Prop} {db : Nat} {s : ByteArray} {n : Nat} {bad : Bool} {tv lv av rv : Value} {tab : List RT} {vb : Option Nat} (h : DS w X db s n bad tv lv av rv tab) (hg : w.grownBy w' vb) (hvb : ∀ k, vb = some k → X k ∧ k ≠ db ∧ tv.ownBlock ≠ some k) (hY : ∀ b, Y b → X b ∨ w.heap.size ≤ b) : DS w' Y db s n bad tv lv av rv tab := by
  obtain ⟨hD, rows, hO, hT⟩ := h
  have hf : Fr (fun k => vb = some k) w w' := Fr.grown hg (fun k e _ => e)
  refine ⟨hf.keep hD (fun e => (hvb db e).2.1 rfl), rows, ownsRow_keep hO hf (fun g hg' e => (hvb g e).2.2 hg'), ?_⟩
  have h1 : TabR w (fun b => XO X tv b ∨ w.heap.size ≤ b) rows tab := hT.avoid (fun b hb h => by
    rcases h with h | h
    · exact h
    · omega)
  have h2 := h1.keep (w' := w') (hf.mono (fun k _ e => .inl (.inl (hvb k e).1)))
  refine h2.avoid (fun b _ hy => ?_)
  rcases hy with hy | hy
  · rcases hY b hy with h | h
    · exact .inl (.inl h)
    · exact .inr h
  · exact .inl (.inr hy)

theorem DS.lt {w : World} {X : Nat → Prop} {db : Nat} {s : ByteArray} {n : Nat} {bad : Bool} {tv lv av rv : Value} {tab : List RT} (h : DS w X db s n bad tv lv av rv tab) : ∀ g, tv.ownBlock = some g → g < w.heap.size := by
  obtain ⟨hD, rows, hO, hT⟩ := h
  exact fun g hg => (hO.lt g hg).2

/-- A row of the table while it grows: a struct in memory and its three slices. -/
structure TB (w : World) (B tb : Nat) (t : RT) (o nv a : Value) : Prop where
  box : w.heap[tb]? = some (.cells #[.int .i64 t.kind, o, nv, a] 250 (0, 0))
  so : w.ownsRow 0 3 1 o t.of.length (ints t.of)
  sn : w.ownsRow 0 9 1 nv t.names.length (texts t.names)
  sa : w.ownsRow 0 3 1 a t.ats.length (ints t.ats)
  ne : ∀ g, o.ownBlock = some g → a.ownBlock ≠ some g
  base : B ≤ tb ∧ ∀ g, (o.ownBlock = some g ∨ nv.ownBlock = some g ∨ a.ownBlock = some g) → B ≤ g

theorem TB.lt {w : World} {B tb : Nat} {t : RT} {o nv a : Value} (h : TB w B tb t o nv a) : ∀ g, (g = tb ∨ o.ownBlock = some g ∨ nv.ownBlock = some g ∨ a.ownBlock = some g) → g < w.heap.size := by
  rintro g (rfl | hg | hg | hg)
  · exact lt_of_heap h.box
  · exact (h.so.lt g hg).2
  · exact (h.sn.lt g hg).2
  · exact (h.sa.lt g hg).2

theorem TB.keep {w w' : World} {Y : Nat → Prop} {B tb : Nat} {t : RT} {o nv a : Value} (h : TB w B tb t o nv a) (hf : Fr Y w w') (hy : ∀ g, (g = tb ∨ o.ownBlock = some g ∨ nv.ownBlock = some g ∨ a.ownBlock = some g) → ¬ Y g) : TB w' B tb t o nv a :=
  ⟨hf.keep h.box (hy tb (.inl rfl)), ownsRow_keep h.so hf (fun g hg => hy g (.inr (.inl hg))), ownsRow_keep h.sn hf (fun g hg => hy g (.inr (.inr (.inl hg)))), ownsRow_keep h.sa hf (fun g hg => hy g (.inr (.inr (.inr hg)))), h.ne, h.base⟩

end Go.Proofs.YtdcjogpkogidaaaGreatDoor

namespace Go.Proofs.YtdcjogpkogidaaaGreatDoor
open Go.RowKit

theorem TB.cell {w : World} {B tb : Nat} {t : RT} {o nv a : Value} (h : TB w B tb t o nv a) : w.cell? ⟨tb, 0, none⟩ = some (.int .i64 t.kind) ∧ w.cell? ⟨tb, 1, none⟩ = some o ∧ w.cell? ⟨tb, 2, none⟩ = some nv ∧ w.cell? ⟨tb, 3, none⟩ = some a := by
  refine ⟨?_, ?_, ?_, ?_⟩ <;> (rw [cell_of_heap h.box]; rfl)
theorem TB.free {w : World} {B tb : Nat} {t : RT} {o nv a : Value} (h : TB w B tb t o nv a) (i : Nat) : w.frozen? ⟨tb, i, none⟩ = false := free_of_heap h.box

end Go.Proofs.YtdcjogpkogidaaaGreatDoor

namespace Go.Proofs.YtdcjogpkogidaaaGreatDoor
open Go.RowKit

def RTypPost (w : World) (X : Nat → Prop) (db : Nat) (s : ByteArray) (tv lv av rv : Value) (r : RS × Nat) (e : Ending) (w' : World) : Prop :=
  e = .returned (.int .i64 r.2) ∧ Fr (Ch db tv) w w' ∧ r.1.n ≤ s.size ∧ ∃ tv', DS w' X db s r.1.n r.1.bad tv' lv av rv r.1.tab ∧ (∀ g, tv'.ownBlock = some g → tv.ownBlock = some g ∨ w.heap.size ≤ g)

theorem Tryz.info9 : (Tryz.prog.info? 9).map (fun i => (i.zero, i.size, i.bytes)) = some (some (.string ⟨#[]⟩), 1, 16) := by kernel_rfl

end Go.Proofs.YtdcjogpkogidaaaGreatDoor

namespace Go.Proofs.YtdcjogpkogidaaaGreatDoor
open Go.RowKit

theorem DS.drew {w w' : World} {X : Nat → Prop} {db : Nat} {s : ByteArray} {n : Nat} {bad : Bool} {tv lv av rv : Value} {tab : List RT} (h : DS w X db s n bad tv lv av rv tab) (hw : ∃ k, w' = w.drewN k) : DS w' X db s n bad tv lv av rv tab ∧ Fr Zero w w' := by
  obtain ⟨k, rfl⟩ := hw
  exact ⟨h.keep0 (Fr.drewN _ _ _), Fr.drewN _ _ _⟩

/-- The four looks that typ begins with. -/
theorem RTypPost.after {w w0 : World} {X : Nat → Prop} {db : Nat} {s : ByteArray} {tv lv av rv : Value} {r : RS × Nat} {e : Ending} {w' : World} (h : RTypPost w0 X db s tv lv av rv r e w') (hf : Fr Zero w w0) : RTypPost w X db s tv lv av rv r e w' := by
  obtain ⟨h1, h2, h3, tv', h4, h5⟩ := h
  exact ⟨h1, hf.of0.trans h2, h3, tv', h4, fun g hg => by
    rcases h5 g hg with h | h
    · exact .inl h
    · have := hf.size; exact .inr (by omega)⟩

theorem SL.one {w : World} {X : Nat → Prop} (e : TypeId) (x : Value) (hx : ¬ X w.heap.size) : SL (w.alloc (.cells #[x] e)) X e (.slice (some ⟨w.heap.size, 0, none⟩) 1 1) [x] :=
  ⟨⟨rfl, .inr ⟨w.heap.size, 1, _, rfl, Nat.zero_le _, heap_new_at rfl _, Nat.le_refl _, by unfold maxLen; omega, rfl, rfl⟩⟩, fun g hg => by simp [Value.ownBlock] at hg; subst hg; exact hx⟩

end Go.Proofs.YtdcjogpkogidaaaGreatDoor
end
section
namespace Go.Proofs.YtdcjogpkogidaaaGreatDoor
open Go.RowKit

structure RD where
  n : Nat
  bad : Bool
  tab : List RT
  lines : List ByteArray
  ats : List Nat
  roots : List Nat

def rLineR (s : ByteArray) (d : RD) : RS × Nat := rTyp s (s.size + 2) (rMust s 61 ⟨wordN s d.n false, nameB s d.n false, d.tab⟩)
def rLineD (s : ByteArray) (d : RD) : RD := ⟨(rLineR s d).1.n, (rLineR s d).1.bad, (rLineR s d).1.tab, d.lines ++ [wordS s d.n false], d.ats ++ [d.n], d.roots ++ [(rLineR s d).2]⟩
def rMark (d : RD) : RD := ⟨d.n, true, d.tab, d.lines, d.ats, d.roots⟩
def rFeed (s : ByteArray) (d : RD) : RD := ⟨mustN s d.n d.bad 10, mustB s d.n d.bad 10, d.tab, d.lines, d.ats, d.roots⟩

def rDesc (s : ByteArray) : Nat → RD → RD
  | 0, d => d
  | k + 1, d =>
    if (rLineD s d).bad = true ∨ (rLineD s d).n = s.size then rLineD s d else
    if (rLineD s d).lines.length = 10 then rMark (rLineD s d) else
    if (rFeed s (rLineD s d)).bad = true then rFeed s (rLineD s d) else rDesc s k (rFeed s (rLineD s d))

/-- The lists of lines, places and roots in memory. -/
structure LD (w : World) (B : Nat) (lv av rv : Value) (lines : List ByteArray) (ats roots : List Nat) : Prop where
  sl : w.ownsRow 0 9 1 lv lines.length (texts lines)
  sa : w.ownsRow 0 3 1 av ats.length (ints ats)
  sr : w.ownsRow 0 3 1 rv roots.length (ints roots)
  ne : ∀ g, av.ownBlock = some g → rv.ownBlock ≠ some g
  base : ∀ g, (lv.ownBlock = some g ∨ av.ownBlock = some g ∨ rv.ownBlock = some g) → B ≤ g

theorem LD.lt {w : World} {B : Nat} {lv av rv : Value} {lines : List ByteArray} {ats roots : List Nat} (h : LD w B lv av rv lines ats roots) : ∀ g, (lv.ownBlock = some g ∨ av.ownBlock = some g ∨ rv.ownBlock = some g) → g < w.heap.size := by
  rintro g (hg | hg | hg)
  · exact (h.sl.lt g hg).2
  · exact (h.sa.lt g hg).2
  · exact (h.sr.lt g hg).2

theorem LD.keep {w w' : World} {Y : Nat → Prop} {B : Nat} {lv av rv : Value} {lines : List ByteArray} {ats roots : List Nat} (h : LD w B lv av rv lines ats roots) (hf : Fr Y w w') (hy : ∀ g, (lv.ownBlock = some g ∨ av.ownBlock = some g ∨ rv.ownBlock = some g) → ¬ Y g) : LD w' B lv av rv lines ats roots :=
  ⟨ownsRow_keep h.sl hf (fun g hg => hy g (.inl hg)), ownsRow_keep h.sa hf (fun g hg => hy g (.inr (.inl hg))), ownsRow_keep h.sr hf (fun g hg => hy g (.inr (.inr hg))), h.ne, h.base⟩

end Go.Proofs.YtdcjogpkogidaaaGreatDoor

namespace Go.Proofs.YtdcjogpkogidaaaGreatDoor
open Go.RowKit

end Go.Proofs.YtdcjogpkogidaaaGreatDoor

namespace Go.Proofs.YtdcjogpkogidaaaGreatDoor
open Go.RowKit

/-- The root of the first line of a name. -/
def rFind (nm : ByteArray) : List (ByteArray × Nat) → Option Nat
  | [] => none
  | p :: r => if p.1 = nm then some p.2 else rFind nm r
def rNamed (lines : List ByteArray) (roots : List Nat) (nm : ByteArray) (i : Nat) : Option Nat := rFind nm ((lines.zip roots).take i)
end Go.Proofs.YtdcjogpkogidaaaGreatDoor

namespace Go.Proofs.YtdcjogpkogidaaaGreatDoor
open Go.RowKit

def rowAt (tab : List RT) (x : Nat) : RT := (tab[x]?).getD ⟨0, [], [], []⟩
def textAt (l : List ByteArray) (k : Nat) : ByteArray := (l[k]?).getD ⟨#[]⟩
def numAt (l : List Nat) (k : Nat) : Nat := (l[k]?).getD 0

/-- Is the k-th name one of those ahead of it, from the j-th on? -/
def dupFrom (l : List ByteArray) (k : Nat) : Nat → Nat → Bool
  | 0, _ => false
  | m + 1, j => decide (textAt l j = textAt l k) || dupFrom l k m (j + 1)
def dup (l : List ByteArray) (k : Nat) : Bool := !l.isEmpty && dupFrom l k k 0

def rLoopW (rd : List RT → Nat → Option Nat × List RT) (t : RT) : Nat → Nat → List RT → Option Nat × List RT
  | 0, _, tab => (none, tab)
  | m + 1, k, tab =>
    if dup t.names k = true then (some (numAt t.ats k), tab) else
    match (rd tab (numAt t.of k)).1 with
    | some a => (some a, (rd tab (numAt t.of k)).2)
    | none => rLoopW rd t m (k + 1) (rd tab (numAt t.of k)).2

def rWrong (lines : List ByteArray) (roots : List Nat) (i : Nat) : Nat → List RT → Nat → Option Nat × List RT
  | 0 => fun tab _ => (none, tab)
  | f + 1 => fun tab x =>
    if (rowAt tab x).kind = 11 then
      match rNamed lines roots (textAt (rowAt tab x).names 0) i with
      | none => (some (numAt (rowAt tab x).ats 0), tab)
      | some to => (none, tab.set x ⟨11, [to], (rowAt tab x).names, (rowAt tab x).ats⟩)
    else rLoopW (rWrong lines roots i f) (rowAt tab x) (rowAt tab x).of.length 0 tab

/-- What a table must be, so that no look into it fails. -/
def W1 (tab : List RT) : Prop := ∀ (x : Nat) (t : RT), tab[x]? = some t → (t.kind ≠ 11 → (∀ y ∈ t.of, y < x) ∧ ((t.names = [] ∧ t.kind ≤ 8) ∨ (t.names.length = t.of.length ∧ t.ats.length = t.of.length))) ∧ (t.kind = 11 → t.names.length = 1 ∧ t.ats.length = 1)

theorem W1.set {tab : List RT} (h : W1 tab) {x to : Nat} {t : RT} (hx : tab[x]? = some t) (hk : t.kind = 11) : W1 (tab.set x ⟨11, [to], t.names, t.ats⟩) := by
  intro y u hu
  by_cases e : y = x
  · subst e
    have hlt : y < tab.length := (List.getElem?_eq_some_iff.1 hx).1
    rw [List.getElem?_set_self hlt] at hu
    cases hu
    exact ⟨fun h => absurd rfl h, fun _ => (h y t hx).2 hk⟩
  · rw [List.getElem?_set_ne (fun e' => e e'.symm)] at hu
    exact h y u hu

/-! ### Memory -/
theorem rvCells_set (l : List RV) : ∀ (x : Nat) (r : RV) (o : Value), l[x]? = some r → rvCells (l.set x ⟨r.k, o, r.n, r.a⟩) = (rvCells l).set (x * 4 + 1) o := by
  induction l with
  | nil => intro x r o h; simp at h
  | cons q l ih =>
    intro x r o h
    have e : ∀ (z : RV) (m : List RV), rvCells (z :: m) = .int .i64 z.k :: z.o :: z.n :: z.a :: rvCells m := fun z m => rfl
    cases x with
    | zero => simp at h; subst h; rfl
    | succ x =>
      rw [List.set_cons_succ, e, e, ih x r o (by simpa using h), show (x + 1) * 4 + 1 = (x * 4 + 1) + 1 + 1 + 1 + 1 by omega]
      rfl

theorem TabR.set {w : World} {X : Nat → Prop} {rows : List RV} {tab : List RT} (h : TabR w X rows tab) (x : Nat) {r : RV} {t : RT} (hr : RTR w X r t) : TabR w X (rows.set x r) (tab.set x t) := by
  refine ⟨by simp [h.1], fun j p q hp hq => ?_⟩
  by_cases e : j = x
  · subst e
    have h1 : j < rows.length := by
      have := (List.getElem?_eq_some_iff.1 hp).1
      simpa using this
    rw [List.getElem?_set_self h1] at hp
    rw [List.getElem?_set_self (by rw [← h.1]; exact h1)] at hq
    cases hp; cases hq
    exact hr
  · rw [List.getElem?_set_ne (fun e' => e e'.symm)] at hp hq
    exact h.2 j p q hp hq

/-- A row of the table, in memory. -/
theorem DS.row {w : World} {X : Nat → Prop} {db : Nat} {s : ByteArray} {n : Nat} {bad : Bool} {tv lv av rv : Value} {tab : List RT} (h : DS w X db s n bad tv lv av rv tab) {x : Nat} (hx : x < tab.length) :
    ∃ (g cap : Nat) (o nv a : Value), tv = .slice (some ⟨g, 0, none⟩) tab.length cap ∧ w.cell? ⟨g, x * 4, none⟩ = some (.int .i64 (rowAt tab x).kind) ∧ w.cell? ⟨g, x * 4 + 1, none⟩ = some o ∧ w.cell? ⟨g, x * 4 + 2, none⟩ = some nv ∧ w.cell? ⟨g, x * 4 + 3, none⟩ = some a ∧
      RTR w (XO X tv) ⟨(rowAt tab x).kind, o, nv, a⟩ (rowAt tab x) ∧ (∀ i, w.frozen? ⟨g, i, none⟩ = false) ∧
      (∀ (w' : World) (o' : Value) (t' : RT), Fr Zero w w' → RTR w' (XO X tv) ⟨(rowAt tab x).kind, o', nv, a⟩ t' → DS (w'.setCell ⟨g, x * 4 + 1, none⟩ o') X db s n bad tv lv av rv (tab.set x t')) := by
  obtain ⟨hD, rows, hO, hT⟩ := h
  have hxr : x < rows.length := by rw [hT.1]; exact hx
  obtain ⟨r, hr⟩ : ∃ r, rows[x]? = some r := ⟨rows[x], by simp [hxr]⟩
  have htx : tab[x]? = some (rowAt tab x) := by unfold rowAt; simp [hx]
  have hrt := hT.2 x r _ hr htx
  obtain ⟨rk, ro, rn, ra⟩ := r
  have hrk : rk = (rowAt tab x).kind := hrt.1
  subst hrk
  obtain ⟨q0, q1, q2, q3⟩ := rvCells_get rows x _ hr
  have hne := owned_neD hD hO (by decide)
  rcases hO.2 with ⟨_, e⟩ | ⟨g, cap, cur, htv, hbb, hcur, hrest⟩
  · omega
  · subst htv
    have hlen : ∀ j, j < 4 → x * 4 + j < rows.length * 4 := fun j hj => by omega
    refine ⟨g, cap, ro, rn, ra, by rw [hT.1], ?_, ?_, ?_, ?_, hrt, fun i => hO.frozenAt i, ?_⟩
    · rw [hO.cellAt (x * 4) (hlen 0 (by omega))]; exact q0
    · rw [hO.cellAt _ (hlen 1 (by omega))]; exact q1
    · rw [hO.cellAt _ (hlen 2 (by omega))]; exact q2
    · rw [hO.cellAt _ (hlen 3 (by omega))]; exact q3
    · intro w' o' t' hf hr'
      have hO' := ownsRow_keep hO hf (fun _ _ h => h)
      have hfS : Fr (One g) w' (w'.setCell ⟨g, x * 4 + 1, none⟩ o') := Fr.setCell _ _ _ _ rfl
      refine ⟨hfS.keep (hf.keep hD (fun h => h)) (fun e => hne g rfl e.symm), rows.set x ⟨(rowAt tab x).kind, o', rn, ra⟩, ?_, ?_⟩
      · rw [rvCells_set rows x ⟨(rowAt tab x).kind, ro, rn, ra⟩ o' hr, List.length_set]
        exact (hO'.stored (x * 4 + 1) o').1
      · exact ((hT.keep hf.of0).set x hr').keep (hfS.mono (fun k _ e => .inr (by have e' : k = g := e; rw [e']; rfl)))

end Go.Proofs.YtdcjogpkogidaaaGreatDoor
end
