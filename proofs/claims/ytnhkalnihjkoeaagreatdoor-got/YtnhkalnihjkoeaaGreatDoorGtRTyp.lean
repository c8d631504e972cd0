/- The other reader's types, as it reads them; a row of the table while it grows. The other reader's parts. The other reader's parts. The other reader's typ. -/
import Derived.Test.YtnhkalnihjkoeaaGreatDoorGtRBase
namespace Go.Proofs.YtnhkalnihjkoeaaGreatDoor
open Go.RowKit

structure RS where
  n : Nat
  bad : Bool
  tab : List RT

def rMust (s : ByteArray) (c : Nat) (st : RS) : RS := ⟨mustN s st.n st.bad c, mustB s st.n st.bad c, st.tab⟩
def rAdd (st : RS) (t : RT) : RS × Nat := (⟨st.n, st.bad, st.tab ++ [t]⟩, st.tab.length)

def rLoop (rd : RS → RS × Nat) (s : ByteArray) (btw : Nat) : Nat → RT → RS → RT × RS
  | 0, t, st => (t, st)
  | k + 1, t, st =>
    let r := rd (rMust s 58 ⟨wordN s (st.n + 1) false, nameB s (st.n + 1) false, st.tab⟩)
    let t' : RT := ⟨t.kind, t.of ++ [r.2], t.names ++ [wordS s (st.n + 1) false], t.ats ++ [st.n + 1]⟩
    if rIs s r.1.n r.1.bad btw = true ∧ t.of.length + 1 ≠ 6 then rLoop rd s btw k t' r.1 else (t', r.1)

def rParts (rd : RS → RS × Nat) (s : ByteArray) (kind btw close : Nat) (st : RS) : RS × Nat :=
  rAdd (rMust s close (rLoop rd s btw 6 ⟨kind, [], [], []⟩ st).2) (rLoop rd s btw 6 ⟨kind, [], [], []⟩ st).1

def rTyp (s : ByteArray) : Nat → RS → RS × Nat
  | 0 => fun st => (st, 0)
  | f + 1 => fun st =>
    if st.bad then (st, 0) else
    if byteAt s st.n = 91 then rAdd (rMust s 93 (rTyp s f ⟨st.n + 1, false, st.tab⟩).1) ⟨7, [(rTyp s f ⟨st.n + 1, false, st.tab⟩).2], [], []⟩
    else if byteAt s st.n = 63 then rAdd (rTyp s f ⟨st.n + 1, false, st.tab⟩).1 ⟨8, [(rTyp s f ⟨st.n + 1, false, st.tab⟩).2], [], []⟩
    else if byteAt s st.n = 123 then rParts (rTyp s f) s 9 44 125 st
    else if byteAt s st.n = 60 then rParts (rTyp s f) s 10 124 62 st
    else match wordIdx (wordS s st.n false) with
      | some k => rAdd ⟨wordN s st.n false, wordB s st.n false, st.tab⟩ ⟨k, [], [], []⟩
      | none => rAdd ⟨wordN s st.n false, wordB s st.n false, st.tab⟩ ⟨11, [], [wordS s st.n false], [st.n]⟩

/-! ### Places only go on, and there are not more types than places -/
theorem mustN_ge (s : ByteArray) (n : Nat) (bad : Bool) (c : Nat) : n ≤ mustN s n bad c := by unfold mustN; split <;> omega
theorem wordN_ge (s : ByteArray) (n : Nat) (bad : Bool) : n ≤ wordN s n bad := by
  unfold wordN
  have := lettersTo_ge s 6 n
  split <;> omega

/-- What a reader of types must keep: the place goes on, and the table grows no faster. -/
def Grows (rd : RS → RS × Nat) : Prop := ∀ st, st.n ≤ (rd st).1.n ∧ (rd st).1.tab.length + st.n ≤ st.tab.length + (rd st).1.n + 1

theorem rLoop_grows (rd : RS → RS × Nat) (hrd : Grows rd) (s : ByteArray) (btw : Nat) : ∀ (k : Nat) (t : RT) (st : RS), st.n ≤ (rLoop rd s btw k t st).2.n ∧ (rLoop rd s btw k t st).2.tab.length + st.n ≤ st.tab.length + (rLoop rd s btw k t st).2.n := by
  intro k
  induction k with
  | zero => intro t st; exact ⟨Nat.le_refl _, Nat.le_refl _⟩
  | succ k ih =>
    intro t st
    have h1 := hrd (rMust s 58 ⟨wordN s (st.n + 1) false, nameB s (st.n + 1) false, st.tab⟩)
    have h2 := mustN_ge s (wordN s (st.n + 1) false) (nameB s (st.n + 1) false) 58
    have h3 := wordN_ge s (st.n + 1) false
    have e : rLoop rd s btw (k + 1) t st = if rIs s (rd (rMust s 58 ⟨wordN s (st.n + 1) false, nameB s (st.n + 1) false, st.tab⟩)).1.n (rd (rMust s 58 ⟨wordN s (st.n + 1) false, nameB s (st.n + 1) false, st.tab⟩)).1.bad btw = true ∧ t.of.length + 1 ≠ 6 then
        rLoop rd s btw k ⟨t.kind, t.of ++ [(rd (rMust s 58 ⟨wordN s (st.n + 1) false, nameB s (st.n + 1) false, st.tab⟩)).2], t.names ++ [wordS s (st.n + 1) false], t.ats ++ [st.n + 1]⟩ (rd (rMust s 58 ⟨wordN s (st.n + 1) false, nameB s (st.n + 1) false, st.tab⟩)).1
        else (⟨t.kind, t.of ++ [(rd (rMust s 58 ⟨wordN s (st.n + 1) false, nameB s (st.n + 1) false, st.tab⟩)).2], t.names ++ [wordS s (st.n + 1) false], t.ats ++ [st.n + 1]⟩, (rd (rMust s 58 ⟨wordN s (st.n + 1) false, nameB s (st.n + 1) false, st.tab⟩)).1) := rfl
    rw [e]
    have e1 : (rMust s 58 ⟨wordN s (st.n + 1) false, nameB s (st.n + 1) false, st.tab⟩).n = mustN s (wordN s (st.n + 1) false) (nameB s (st.n + 1) false) 58 := rfl
    have e2 : (rMust s 58 ⟨wordN s (st.n + 1) false, nameB s (st.n + 1) false, st.tab⟩).tab = st.tab := rfl
    rw [e1, e2] at h1
    clear e e1 e2
    generalize rd (rMust s 58 ⟨wordN s (st.n + 1) false, nameB s (st.n + 1) false, st.tab⟩) = r at *
    by_cases hc : rIs s r.1.n r.1.bad btw = true ∧ t.of.length + 1 ≠ 6
    · rw [if_pos hc]
      have h4 := ih ⟨t.kind, t.of ++ [r.2], t.names ++ [wordS s (st.n + 1) false], t.ats ++ [st.n + 1]⟩ r.1
      omega
    · rw [if_neg hc]
      show st.n ≤ r.1.n ∧ r.1.tab.length + st.n ≤ st.tab.length + r.1.n
      omega

theorem rParts_grows (rd : RS → RS × Nat) (hrd : Grows rd) (s : ByteArray) (kind btw close : Nat) (st : RS) : st.n ≤ (rParts rd s kind btw close st).1.n ∧ (rParts rd s kind btw close st).1.tab.length + st.n ≤ st.tab.length + (rParts rd s kind btw close st).1.n + 1 := by
  have h := rLoop_grows rd hrd s btw 6 ⟨kind, [], [], []⟩ st
  unfold rParts rAdd rMust
  have h2 := mustN_ge s (rLoop rd s btw 6 ⟨kind, [], [], []⟩ st).2.n (rLoop rd s btw 6 ⟨kind, [], [], []⟩ st).2.bad close
  simp only [List.length_append, List.length_cons, List.length_nil]
  omega

theorem rTyp_grows (s : ByteArray) : ∀ f, Grows (rTyp s f) := by
  intro f
  induction f with
  | zero => intro st; exact ⟨Nat.le_refl _, Nat.le_succ _⟩
  | succ f ih =>
    intro st
    have h1 := ih ⟨st.n + 1, false, st.tab⟩
    simp only at h1
    simp only [rTyp]
    split
    · exact ⟨Nat.le_refl _, Nat.le_succ _⟩
    · split
      · have h2 := mustN_ge s (rTyp s f ⟨st.n + 1, false, st.tab⟩).1.n (rTyp s f ⟨st.n + 1, false, st.tab⟩).1.bad 93
        simp only [rAdd, rMust, List.length_append, List.length_cons, List.length_nil]
        omega
      · split
        · simp only [rAdd, List.length_append, List.length_cons, List.length_nil]
          omega
        · split
          · exact rParts_grows _ ih s 9 44 125 st
          · split
            · exact rParts_grows _ ih s 10 124 62 st
            · have h3 := wordN_ge s st.n false
              split <;> (simp only [rAdd, List.length_append, List.length_cons, List.length_nil]; omega)

/-! ### The reader and its table, behind other writes -/
theorem DS.other {w w' : World} {X Y : Nat → Prop} {db : Nat} {s : ByteArray} {n : Nat} {bad : Bool} {tv lv av rv : Value} {tab : List RT} (h : DS w X db s n bad tv lv av rv tab) (hf : Fr Y w w') (hyx : ∀ k, Y k → X k) (hyd : ¬ Y db) (hyt : ∀ g, tv.ownBlock = some g → ¬ Y g) : DS w' X db s n bad tv lv av rv tab := by
  obtain ⟨hD, rows, hO, hT⟩ := h
  exact ⟨hf.keep hD hyd, rows, ownsRow_keep hO hf hyt, hT.keep (hf.mono (fun k _ hk => .inl (hyx k hk)))⟩

theorem DS.self {w w' : World} {X : Nat → Prop} {db : Nat} {s : ByteArray} {n m : Nat} {bad bad' : Bool} {tv lv av rv : Value} {tab : List RT} (h : DS w X db s n bad tv lv av rv tab) (hX : X db) (hf : Fr (One db) w w') (hD' : DB w' db s m bad' tv lv av rv) : DS w' X db s m bad' tv lv av rv tab := by
  obtain ⟨hD, rows, hO, hT⟩ := h
  exact ⟨hD', rows, ownsRow_keep hO hf (fun g hg e => owned_neD hD hO (by decide) g hg e), hT.keep (hf.mono (fun k _ hk => by have e : k = db := hk; rw [e]; exact .inl hX))⟩

theorem DS.keep0 {w w' : World} {X : Nat → Prop} {db : Nat} {s : ByteArray} {n : Nat} {bad : Bool} {tv lv av rv : Value} {tab : List RT} (h : DS w X db s n bad tv lv av rv tab) (hf : Fr Zero w w') : DS w' X db s n bad tv lv av rv tab :=
  h.other (Y := Zero) hf (fun _ h => h.elim) (fun h => h) (fun _ _ h => h)

theorem DS.avoid {w : World} {X Y : Nat → Prop} {db : Nat} {s : ByteArray} {n : Nat} {bad : Bool} {tv lv av rv : Value} {tab : List RT} (h : DS w X db s n bad tv lv av rv tab) (hxy : ∀ b, b < w.heap.size → Y b → X b) : DS w Y db s n bad tv lv av rv tab := by
  obtain ⟨hD, rows, hO, hT⟩ := h
  refine ⟨hD, rows, hO, hT.avoid (fun b hb hy => ?_)⟩
  rcases hy with hy | hy
  · exact .inl (hxy b hb hy)
  · exact .inr hy

theorem DS.grow {w w' : World} {X Y : Nat → Prop} {db : Nat} {s : ByteArray} {n : Nat} {bad : Bool} {tv lv av rv : Value} {tab : List RT} {vb : Option Nat} (h : DS w X db s n bad tv lv av rv tab) (hg : w.grownBy w' vb) (hvb : ∀ k, vb = some k → X k ∧ k ≠ db ∧ tv.ownBlock ≠ some k) (hY : ∀ b, Y b → X b ∨ w.heap.size ≤ b) : DS w' Y db s n bad tv lv av rv tab := by
  obtain ⟨hD, rows, hO, hT⟩ := h
  have hf : Fr (fun k => vb = some k) w w' := Fr.grown hg (fun k e _ => e)
  refine ⟨hf.keep hD (fun e => (hvb db e).2.1 rfl), rows, ownsRow_keep hO hf (fun g hg' e => (hvb g e).2.2 hg'), ?_⟩
  have h1 : TabR w (fun b => XO X tv b ∨ w.heap.size ≤ b) rows tab := hT.avoid (fun b hb h => by
    rcases h with h | h
    · exact h
    · omega)
  have h2 := h1.keep (w' := w') (hf.mono (fun k _ e => .inl (.inl (hvb k e).1)))
  refine h2.avoid (fun b _ hy => ?_)
  rcases hy with hy | hy
  · rcases hY b hy with h | h
    · exact .inl (.inl h)
    · exact .inr h
  · exact .inl (.inr hy)

theorem DS.tvne {w : World} {X : Nat → Prop} {db : Nat} {s : ByteArray} {n : Nat} {bad : Bool} {tv lv av rv : Value} {tab : List RT} (h : DS w X db s n bad tv lv av rv tab) {v : Value} {base k size : Nat} {e : TypeId} {xs : List Value} (ho : w.ownsRow base e size v k xs) (he : e ≠ 293) : ∀ g, v.ownBlock = some g → tv.ownBlock ≠ some g := by
  intro g hg ht
  obtain ⟨hD, rows, hO, hT⟩ := h
  obtain ⟨c1, h1⟩ := own_type ho hg
  obtain ⟨c2, h2⟩ := own_type hO ht
  rw [h1] at h2
  simp at h2
  exact he h2.2

theorem DS.lt {w : World} {X : Nat → Prop} {db : Nat} {s : ByteArray} {n : Nat} {bad : Bool} {tv lv av rv : Value} {tab : List RT} (h : DS w X db s n bad tv lv av rv tab) : ∀ g, tv.ownBlock = some g → g < w.heap.size := by
  obtain ⟨hD, rows, hO, hT⟩ := h
  exact fun g hg => (hO.lt g hg).2

/-- A row of the table while it grows: a struct in memory and its three slices. -/
structure TB (w : World) (B tb : Nat) (t : RT) (o nv a : Value) : Prop where
  box : w.heap[tb]? = some (.cells #[.int .i64 t.kind, o, nv, a] 293 (0, 0))
  so : w.ownsRow 0 3 1 o t.of.length (ints t.of)
  sn : w.ownsRow 0 9 1 nv t.names.length (texts t.names)
  sa : w.ownsRow 0 3 1 a t.ats.length (ints t.ats)
  ne : ∀ g, o.ownBlock = some g → a.ownBlock ≠ some g
  base : B ≤ tb ∧ ∀ g, (o.ownBlock = some g ∨ nv.ownBlock = some g ∨ a.ownBlock = some g) → B ≤ g

def XT (X : Nat → Prop) (tb : Nat) (o nv a : Value) : Nat → Prop := fun k => X k ∨ k = tb ∨ o.ownBlock = some k ∨ nv.ownBlock = some k ∨ a.ownBlock = some k

theorem TB.tbne {w : World} {B tb : Nat} {t : RT} {o nv a : Value} (h : TB w B tb t o nv a) : ∀ g, (o.ownBlock = some g ∨ nv.ownBlock = some g ∨ a.ownBlock = some g) → g ≠ tb := by
  intro g hg e
  subst e
  have hb := h.box
  rcases hg with hg | hg | hg
  · obtain ⟨c, hh⟩ := own_type h.so hg; rw [hb] at hh; simp at hh
  · obtain ⟨c, hh⟩ := own_type h.sn hg; rw [hb] at hh; simp at hh
  · obtain ⟨c, hh⟩ := own_type h.sa hg; rw [hb] at hh; simp at hh

theorem TB.lt {w : World} {B tb : Nat} {t : RT} {o nv a : Value} (h : TB w B tb t o nv a) : ∀ g, (g = tb ∨ o.ownBlock = some g ∨ nv.ownBlock = some g ∨ a.ownBlock = some g) → g < w.heap.size := by
  rintro g (rfl | hg | hg | hg)
  · exact lt_of_heap h.box
  · exact (h.so.lt g hg).2
  · exact (h.sn.lt g hg).2
  · exact (h.sa.lt g hg).2

theorem TB.keep {w w' : World} {Y : Nat → Prop} {B tb : Nat} {t : RT} {o nv a : Value} (h : TB w B tb t o nv a) (hf : Fr Y w w') (hy : ∀ g, (g = tb ∨ o.ownBlock = some g ∨ nv.ownBlock = some g ∨ a.ownBlock = some g) → ¬ Y g) : TB w' B tb t o nv a :=
  ⟨hf.keep h.box (hy tb (.inl rfl)), ownsRow_keep h.so hf (fun g hg => hy g (.inr (.inl hg))), ownsRow_keep h.sn hf (fun g hg => hy g (.inr (.inr (.inl hg)))), ownsRow_keep h.sa hf (fun g hg => hy g (.inr (.inr (.inr hg)))), h.ne, h.base⟩

end Go.Proofs.YtnhkalnihjkoeaaGreatDoor

namespace Go.Proofs.YtnhkalnihjkoeaaGreatDoor
open Go.RowKit

theorem texts_snoc (l : List ByteArray) (x : ByteArray) : texts (l ++ [x]) = texts l ++ [.string x] := by simp [texts]
theorem ints_snoc (l : List Nat) (x : Nat) : ints (l ++ [x]) = ints l ++ [.int .i64 x] := by simp [ints]
theorem ints_length (l : List Nat) : (ints l).length = l.length := by simp [ints]
theorem texts_length (l : List ByteArray) : (texts l).length = l.length := by simp [texts]

theorem TB.cell {w : World} {B tb : Nat} {t : RT} {o nv a : Value} (h : TB w B tb t o nv a) : w.cell? ⟨tb, 0, none⟩ = some (.int .i64 t.kind) ∧ w.cell? ⟨tb, 1, none⟩ = some o ∧ w.cell? ⟨tb, 2, none⟩ = some nv ∧ w.cell? ⟨tb, 3, none⟩ = some a := by
  refine ⟨?_, ?_, ?_, ?_⟩ <;> (rw [cell_of_heap h.box]; rfl)
theorem TB.free {w : World} {B tb : Nat} {t : RT} {o nv a : Value} (h : TB w B tb t o nv a) (i : Nat) : w.frozen? ⟨tb, i, none⟩ = false := free_of_heap h.box

theorem tb_grow_a {W w' : World} {X : Nat → Prop} {B tb db : Nat} {s : ByteArray} {n : Nat} {bad : Bool} {tv lv av rv o nv a v' : Value} {tab : List RT} {t : RT} (x : Nat) (hT : TB W B tb t o nv a) (hS : DS W (XT X tb o nv a) db s n bad tv lv av rv tab) (hXB : ∀ b, X b → b < B) (hX : X db) (htv : ∀ g, tv.ownBlock = some g → g ≠ tb)
    (hO2 : w'.ownsRow 0 3 1 v' (t.ats.length + 1) (ints t.ats ++ [.int .i64 x])) (hg : W.grownBy w' a.ownBlock) (hv : ∃ g cap, v' = .slice (some ⟨g, 0, none⟩) (t.ats.length + 1) cap ∧ (a.ownBlock = some g ∨ W.heap.size ≤ g)) (hB : B ≤ W.heap.size) :
    TB (w'.setCell ⟨tb, 3, none⟩ v') B tb ⟨t.kind, t.of, t.names, t.ats ++ [x]⟩ o nv v' ∧ DS (w'.setCell ⟨tb, 3, none⟩ v') (XT X tb o nv v') db s n bad tv lv av rv tab ∧ Fr (fun k => B ≤ k) W (w'.setCell ⟨tb, 3, none⟩ v') := by
  have hf : Fr (fun k => a.ownBlock = some k) W w' := Fr.grown hg (fun k e _ => e)
  have hdb : db ≠ tb := by have := hXB db hX; have := hT.base.1; omega
  have htbn : ∀ g, a.ownBlock = some g → g ≠ tb := fun g hg' => hT.tbne g (.inr (.inr hg'))
  have hbox : w'.heap[tb]? = some (.cells #[.int .i64 t.kind, o, nv, a] 293 (0, 0)) := hf.keep hT.box (fun e => htbn tb e rfl)
  have hfS : Fr (One tb) w' (w'.setCell ⟨tb, 3, none⟩ v') := Fr.setCell _ _ _ _ rfl
  have hvB : ∀ g, a.ownBlock = some g → B ≤ g := fun g hg' => hT.base.2 g (.inr (.inr hg'))
  have hvt := hS.tvne hT.sa (by decide)
  have hlt := hT.lt
  obtain ⟨g, cap, rfl, hgg⟩ := hv
  have hgtb : g ≠ tb := by
    rcases hgg with h | h
    · exact htbn g h
    · have := hlt tb (.inl rfl); omega
  have hgB : B ≤ g := by
    rcases hgg with h | h
    · exact hvB g h
    · omega
  have hko := ownsRow_keep (ownsRow_keep hT.so hf (fun g' hg' e => hT.ne g' hg' e)) hfS (fun g' hg' e => hT.tbne g' (.inl hg') e)
  have hkn := ownsRow_keep (ownsRow_keep hT.sn hf (fun g' hg' e => by obtain ⟨c1, q1⟩ := own_type hT.sn hg'; obtain ⟨c2, q2⟩ := own_type hT.sa e; rw [q1] at q2; simp at q2)) hfS (fun g' hg' e => hT.tbne g' (.inr (.inl hg')) e)
  have hkv := ownsRow_keep hO2 hfS (fun g' hg' e => by simp [Value.ownBlock] at hg'; subst hg'; exact hgtb e)
  refine ⟨⟨?_, hko, hkn, by rw [ints_snoc, List.length_append]; exact hkv, ?_, hT.base.1, ?_⟩, ?_, ?_⟩
  · rw [heap_setCell_same hbox]; rfl
  · exact fun g' hg' e => by
      simp [Value.ownBlock] at e
      subst e
      rcases hgg with h | h
      · exact hT.ne _ hg' h
      · have := hlt g (.inr (.inl hg')); omega
  · intro g' hg'
    rcases hg' with h | h | h
    · exact hT.base.2 g' (.inl h)
    · exact hT.base.2 g' (.inr (.inl h))
    · simp [Value.ownBlock] at h; subst h; exact hgB
  · refine DS.other (Y := One tb) (DS.grow hS hg (fun k e => ⟨(.inr (.inr (.inr (.inr e)))), ?_, hvt k e⟩) (fun b hb => ?_)) hfS (fun k e => by have e' : k = tb := e; rw [e']; exact .inr (.inl rfl)) (fun e => hdb e) (fun g' hg' e => htv g' hg' e)
    · have := hXB db hX; have := hvB k e; omega
    · rcases hb with h | h | h | h | h
      · exact .inl (.inl h)
      · exact .inl (.inr (.inl h))
      · exact .inl (.inr (.inr (.inl h)))
      · exact .inl (.inr (.inr (.inr (.inl h))))
      · simp [Value.ownBlock] at h
        subst h
        rcases hgg with h | h
        · exact .inl (.inr (.inr (.inr (.inr h))))
        · exact .inr h
  · exact (hf.mono (fun k _ e => hvB k e)).trans (hfS.mono (fun k _ e => by have e' : k = tb := e; have := hT.base.1; omega))

theorem tb_grow_n {W w' : World} {X : Nat → Prop} {B tb db : Nat} {s : ByteArray} {n : Nat} {bad : Bool} {tv lv av rv o nv a v' : Value} {tab : List RT} {t : RT} (x : ByteArray) (hT : TB W B tb t o nv a) (hS : DS W (XT X tb o nv a) db s n bad tv lv av rv tab) (hXB : ∀ b, X b → b < B) (hX : X db) (htv : ∀ g, tv.ownBlock = some g → g ≠ tb)
    (hO2 : w'.ownsRow 0 9 1 v' (t.names.length + 1) (texts t.names ++ [.string x])) (hg : W.grownBy w' nv.ownBlock) (hv : ∃ g cap, v' = .slice (some ⟨g, 0, none⟩) (t.names.length + 1) cap ∧ (nv.ownBlock = some g ∨ W.heap.size ≤ g)) (hB : B ≤ W.heap.size) :
    TB (w'.setCell ⟨tb, 2, none⟩ v') B tb ⟨t.kind, t.of, t.names ++ [x], t.ats⟩ o v' a ∧ DS (w'.setCell ⟨tb, 2, none⟩ v') (XT X tb o v' a) db s n bad tv lv av rv tab ∧ Fr (fun k => B ≤ k) W (w'.setCell ⟨tb, 2, none⟩ v') := by
  have hf : Fr (fun k => nv.ownBlock = some k) W w' := Fr.grown hg (fun k e _ => e)
  have hdb : db ≠ tb := by have := hXB db hX; have := hT.base.1; omega
  have htbn : ∀ g, nv.ownBlock = some g → g ≠ tb := fun g hg' => hT.tbne g (.inr (.inl hg'))
  have hbox : w'.heap[tb]? = some (.cells #[.int .i64 t.kind, o, nv, a] 293 (0, 0)) := hf.keep hT.box (fun e => htbn tb e rfl)
  have hfS : Fr (One tb) w' (w'.setCell ⟨tb, 2, none⟩ v') := Fr.setCell _ _ _ _ rfl
  have hvB : ∀ g, nv.ownBlock = some g → B ≤ g := fun g hg' => hT.base.2 g (.inr (.inl hg'))
  have hvt := hS.tvne hT.sn (by decide)
  have hlt := hT.lt
  obtain ⟨g, cap, rfl, hgg⟩ := hv
  have hgtb : g ≠ tb := by
    rcases hgg with h | h
    · exact htbn g h
    · have := hlt tb (.inl rfl); omega
  have hgB : B ≤ g := by
    rcases hgg with h | h
    · exact hvB g h
    · omega
  have hko := ownsRow_keep (ownsRow_keep hT.so hf (fun g' hg' e => by obtain ⟨c1, q1⟩ := own_type hT.so hg'; obtain ⟨c2, q2⟩ := own_type hT.sn e; rw [q1] at q2; simp at q2)) hfS (fun g' hg' e => hT.tbne g' (.inl hg') e)
  have hka := ownsRow_keep (ownsRow_keep hT.sa hf (fun g' hg' e => by obtain ⟨c1, q1⟩ := own_type hT.sa hg'; obtain ⟨c2, q2⟩ := own_type hT.sn e; rw [q1] at q2; simp at q2)) hfS (fun g' hg' e => hT.tbne g' (.inr (.inr hg')) e)
  have hkv := ownsRow_keep hO2 hfS (fun g' hg' e => by simp [Value.ownBlock] at hg'; subst hg'; exact hgtb e)
  refine ⟨⟨?_, hko, by rw [texts_snoc, List.length_append]; exact hkv, hka, ?_, hT.base.1, ?_⟩, ?_, ?_⟩
  · rw [heap_setCell_same hbox]; rfl
  · exact hT.ne
  · intro g' hg'
    rcases hg' with h | h | h
    · exact hT.base.2 g' (.inl h)
    · simp [Value.ownBlock] at h; subst h; exact hgB
    · exact hT.base.2 g' (.inr (.inr h))
  · refine DS.other (Y := One tb) (DS.grow hS hg (fun k e => ⟨(.inr (.inr (.inr (.inl e)))), ?_, hvt k e⟩) (fun b hb => ?_)) hfS (fun k e => by have e' : k = tb := e; rw [e']; exact .inr (.inl rfl)) (fun e => hdb e) (fun g' hg' e => htv g' hg' e)
    · have := hXB db hX; have := hvB k e; omega
    · rcases hb with h | h | h | h | h
      · exact .inl (.inl h)
      · exact .inl (.inr (.inl h))
      · exact .inl (.inr (.inr (.inl h)))
      · simp [Value.ownBlock] at h
        subst h
        rcases hgg with h | h
        · exact .inl (.inr (.inr (.inr (.inl h))))
        · exact .inr h
      · exact .inl (.inr (.inr (.inr (.inr h))))
  · exact (hf.mono (fun k _ e => hvB k e)).trans (hfS.mono (fun k _ e => by have e' : k = tb := e; have := hT.base.1; omega))

theorem tb_grow_o {W w' : World} {X : Nat → Prop} {B tb db : Nat} {s : ByteArray} {n : Nat} {bad : Bool} {tv lv av rv o nv a v' : Value} {tab : List RT} {t : RT} (x : Nat) (hT : TB W B tb t o nv a) (hS : DS W (XT X tb o nv a) db s n bad tv lv av rv tab) (hXB : ∀ b, X b → b < B) (hX : X db) (htv : ∀ g, tv.ownBlock = some g → g ≠ tb)
    (hO2 : w'.ownsRow 0 3 1 v' (t.of.length + 1) (ints t.of ++ [.int .i64 x])) (hg : W.grownBy w' o.ownBlock) (hv : ∃ g cap, v' = .slice (some ⟨g, 0, none⟩) (t.of.length + 1) cap ∧ (o.ownBlock = some g ∨ W.heap.size ≤ g)) (hB : B ≤ W.heap.size) :
    TB (w'.setCell ⟨tb, 1, none⟩ v') B tb ⟨t.kind, t.of ++ [x], t.names, t.ats⟩ v' nv a ∧ DS (w'.setCell ⟨tb, 1, none⟩ v') (XT X tb v' nv a) db s n bad tv lv av rv tab ∧ Fr (fun k => B ≤ k) W (w'.setCell ⟨tb, 1, none⟩ v') := by
  have hf : Fr (fun k => o.ownBlock = some k) W w' := Fr.grown hg (fun k e _ => e)
  have hdb : db ≠ tb := by have := hXB db hX; have := hT.base.1; omega
  have htbn : ∀ g, o.ownBlock = some g → g ≠ tb := fun g hg' => hT.tbne g (.inl hg')
  have hbox : w'.heap[tb]? = some (.cells #[.int .i64 t.kind, o, nv, a] 293 (0, 0)) := hf.keep hT.box (fun e => htbn tb e rfl)
  have hfS : Fr (One tb) w' (w'.setCell ⟨tb, 1, none⟩ v') := Fr.setCell _ _ _ _ rfl
  have hvB : ∀ g, o.ownBlock = some g → B ≤ g := fun g hg' => hT.base.2 g (.inl hg')
  have hvt := hS.tvne hT.so (by decide)
  have hlt := hT.lt
  obtain ⟨g, cap, rfl, hgg⟩ := hv
  have hgtb : g ≠ tb := by
    rcases hgg with h | h
    · exact htbn g h
    · have := hlt tb (.inl rfl); omega
  have hgB : B ≤ g := by
    rcases hgg with h | h
    · exact hvB g h
    · omega
  have hkn := ownsRow_keep (ownsRow_keep hT.sn hf (fun g' hg' e => by obtain ⟨c1, q1⟩ := own_type hT.sn hg'; obtain ⟨c2, q2⟩ := own_type hT.so e; rw [q1] at q2; simp at q2)) hfS (fun g' hg' e => hT.tbne g' (.inr (.inl hg')) e)
  have hka := ownsRow_keep (ownsRow_keep hT.sa hf (fun g' hg' e => hT.ne g' e hg')) hfS (fun g' hg' e => hT.tbne g' (.inr (.inr hg')) e)
  have hkv := ownsRow_keep hO2 hfS (fun g' hg' e => by simp [Value.ownBlock] at hg'; subst hg'; exact hgtb e)
  refine ⟨⟨?_, by rw [ints_snoc, List.length_append]; exact hkv, hkn, hka, ?_, hT.base.1, ?_⟩, ?_, ?_⟩
  · rw [heap_setCell_same hbox]; rfl
  · exact fun g' hg' e => by
      simp [Value.ownBlock] at hg'
      subst hg'
      rcases hgg with h | h
      · exact hT.ne _ h e
      · have := hlt g (.inr (.inr (.inr e))); omega
  · intro g' hg'
    rcases hg' with h | h | h
    · simp [Value.ownBlock] at h; subst h; exact hgB
    · exact hT.base.2 g' (.inr (.inl h))
    · exact hT.base.2 g' (.inr (.inr h))
  · refine DS.other (Y := One tb) (DS.grow hS hg (fun k e => ⟨(.inr (.inr (.inl e))), ?_, hvt k e⟩) (fun b hb => ?_)) hfS (fun k e => by have e' : k = tb := e; rw [e']; exact .inr (.inl rfl)) (fun e => hdb e) (fun g' hg' e => htv g' hg' e)
    · have := hXB db hX; have := hvB k e; omega
    · rcases hb with h | h | h | h | h
      · exact .inl (.inl h)
      · exact .inl (.inr (.inl h))
      · simp [Value.ownBlock] at h
        subst h
        rcases hgg with h | h
        · exact .inl (.inr (.inr (.inl h)))
        · exact .inr h
      · exact .inl (.inr (.inr (.inr (.inl h))))
      · exact .inl (.inr (.inr (.inr (.inr h))))
  · exact (hf.mono (fun k _ e => hvB k e)).trans (hfS.mono (fun k _ e => by have e' : k = tb := e; have := hT.base.1; omega))

end Go.Proofs.YtnhkalnihjkoeaaGreatDoor

namespace Go.Proofs.YtnhkalnihjkoeaaGreatDoor
open Go.RowKit

def RTypPost (w : World) (X : Nat → Prop) (db : Nat) (s : ByteArray) (tv lv av rv : Value) (r : RS × Nat) (e : Ending) (w' : World) : Prop :=
  e = .returned (.int .i64 r.2) ∧ Fr (Ch db tv) w w' ∧ r.1.n ≤ s.size ∧ ∃ tv', DS w' X db s r.1.n r.1.bad tv' lv av rv r.1.tab ∧ (∀ g, tv'.ownBlock = some g → tv.ownBlock = some g ∨ w.heap.size ≤ g)

def RTypSaid (s : ByteArray) (f : Nat) : Prop :=
  ∀ (w : World) (X : Nat → Prop) (db n : Nat) (bad : Bool) (tv lv av rv : Value) (tab : List RT), DS w X db s n bad tv lv av rv tab → X db → (∀ b, X b → b < w.heap.size) → n ≤ s.size → (bad = true ∨ s.size < n + f) → tab.length + (s.size - n) ≤ 5000 →
    Calls Tryz.prog 168 #[.pointer (some ⟨db, 0, none⟩)] w fun e w' => RTypPost w X db s tv lv av rv (rTyp s f ⟨n, bad, tab⟩) e w'

theorem Tryz.info3 : (Tryz.prog.info? 3).map (fun i => (i.zero, i.size, i.bytes)) = some (some (.int .i64 0), 1, 8) := by kernel_rfl
theorem Tryz.info9 : (Tryz.prog.info? 9).map (fun i => (i.zero, i.size, i.bytes)) = some (some (.string ⟨#[]⟩), 1, 16) := by kernel_rfl

theorem news1_heap {w w' : World} {x : Value} {t : TypeId} {k : Nat} (hk : w.heap.size = k) (he : w'.heap = (w.alloc (.cells #[x] t)).heap) : ∀ (j : Nat) (q : Value), [x][j]? = some q → w'.cell? ((⟨k, 0, none⟩ : Addr).add j) = some q := by
  subst hk
  have h : w'.heap[w.heap.size]? = some (.cells #[x] t (0, 0)) := by rw [he]; exact heap_new_at rfl _
  intro j q hj
  match j, hj with
  | 0, hj => simp at hj; subst hj; simp [Addr.add, World.cell?, h]
  | j + 1, hj => simp at hj

/-- How many parts the growing row has. -/
def ofLen (tb : Nat) (w : World) : Nat := match w.cell? ⟨tb, 1, none⟩ with
  | some (.slice _ n _) => n
  | _ => 0
theorem TB.ofLen {w : World} {B tb : Nat} {t : RT} {o nv a : Value} (h : TB w B tb t o nv a) : ofLen tb w = t.of.length := by
  unfold Proofs.YtnhkalnihjkoeaaGreatDoor.ofLen
  rw [h.cell.2.1]
  rcases h.so.2 with ⟨rfl, e⟩ | ⟨g, cap, cur, rfl, _⟩
  · exact e.symm
  · rfl

theorem heapF {w w' : World} {o : Obj} (he : w'.heap = (w.alloc o).heap) (hos : w'.os = w.os) (htp : w'.tape = w.tape) (hou : w'.output = w.output) : Fr Zero w w' :=
  ⟨hos, htp, hou, by rw [he]; simp, fun k hk _ => by rw [he]; exact Below.heap_alloc _ _ _ hk⟩

/-- The append to the places, and the store. -/
theorem ats_end {W wq w' : World} {X : Nat → Prop} {B tb db : Nat} {s : ByteArray} {n : Nat} {bad : Bool} {tv lv av rv o nv a v' : Value} {tab : List RT} {t : RT} {x : Nat} {ob : Obj} (he : W.heap = (wq.alloc ob).heap) (hos : W.os = wq.os) (htp : W.tape = wq.tape) (hou : W.output = wq.output)
    (hT : TB wq B tb t o nv a) (hS : DS wq (XT X tb o nv a) db s n bad tv lv av rv tab) (hXB : ∀ b, X b → b < B) (hX : X db) (htv : ∀ g, tv.ownBlock = some g → g ≠ tb)
    (hO2 : w'.ownsRow 0 3 1 v' (t.ats.length + 1) (ints t.ats ++ [.int .i64 x])) (hg : W.grownBy w' a.ownBlock) (hv : ∃ g cap, v' = .slice (some ⟨g, 0, none⟩) (t.ats.length + 1) cap ∧ (a.ownBlock = some g ∨ W.heap.size ≤ g)) (hB : B ≤ wq.heap.size) :
    TB (w'.setCell ⟨tb, 3, none⟩ v') B tb ⟨t.kind, t.of, t.names, t.ats ++ [x]⟩ o nv v' ∧ DS (w'.setCell ⟨tb, 3, none⟩ v') (XT X tb o nv v') db s n bad tv lv av rv tab ∧ Fr (fun k => B ≤ k) wq (w'.setCell ⟨tb, 3, none⟩ v') := by
  have hF := heapF he hos htp hou
  obtain ⟨h1, h2, h3⟩ := tb_grow_a x (hT.keep hF (fun _ _ h => h)) (hS.keep0 hF) hXB hX htv hO2 hg hv (Nat.le_trans hB hF.size)
  exact ⟨h1, h2, hF.of0.trans h3⟩

/-- The append to the names, and the store. -/
theorem names_end {W wq w' : World} {X : Nat → Prop} {B tb db : Nat} {s : ByteArray} {n : Nat} {bad : Bool} {tv lv av rv o nv a v' : Value} {tab : List RT} {t : RT} {x : ByteArray} {ob : Obj} (he : W.heap = (wq.alloc ob).heap) (hos : W.os = wq.os) (htp : W.tape = wq.tape) (hou : W.output = wq.output)
    (hT : TB wq B tb t o nv a) (hS : DS wq (XT X tb o nv a) db s n bad tv lv av rv tab) (hXB : ∀ b, X b → b < B) (hX : X db) (htv : ∀ g, tv.ownBlock = some g → g ≠ tb)
    (hO2 : w'.ownsRow 0 9 1 v' (t.names.length + 1) (texts t.names ++ [.string x])) (hg : W.grownBy w' nv.ownBlock) (hv : ∃ g cap, v' = .slice (some ⟨g, 0, none⟩) (t.names.length + 1) cap ∧ (nv.ownBlock = some g ∨ W.heap.size ≤ g)) (hB : B ≤ wq.heap.size) :
    TB (w'.setCell ⟨tb, 2, none⟩ v') B tb ⟨t.kind, t.of, t.names ++ [x], t.ats⟩ o v' a ∧ DS (w'.setCell ⟨tb, 2, none⟩ v') (XT X tb o v' a) db s n bad tv lv av rv tab ∧ Fr (fun k => B ≤ k) wq (w'.setCell ⟨tb, 2, none⟩ v') := by
  have hF := heapF he hos htp hou
  obtain ⟨h1, h2, h3⟩ := tb_grow_n x (hT.keep hF (fun _ _ h => h)) (hS.keep0 hF) hXB hX htv hO2 hg hv (Nat.le_trans hB hF.size)
  exact ⟨h1, h2, hF.of0.trans h3⟩

/-- The append to the of, and the store. -/
theorem of_end {W wq w' : World} {X : Nat → Prop} {B tb db : Nat} {s : ByteArray} {n : Nat} {bad : Bool} {tv lv av rv o nv a v' : Value} {tab : List RT} {t : RT} {x : Nat} {ob : Obj} (he : W.heap = (wq.alloc ob).heap) (hos : W.os = wq.os) (htp : W.tape = wq.tape) (hou : W.output = wq.output)
    (hT : TB wq B tb t o nv a) (hS : DS wq (XT X tb o nv a) db s n bad tv lv av rv tab) (hXB : ∀ b, X b → b < B) (hX : X db) (htv : ∀ g, tv.ownBlock = some g → g ≠ tb)
    (hO2 : w'.ownsRow 0 3 1 v' (t.of.length + 1) (ints t.of ++ [.int .i64 x])) (hg : W.grownBy w' o.ownBlock) (hv : ∃ g cap, v' = .slice (some ⟨g, 0, none⟩) (t.of.length + 1) cap ∧ (o.ownBlock = some g ∨ W.heap.size ≤ g)) (hB : B ≤ wq.heap.size) :
    TB (w'.setCell ⟨tb, 1, none⟩ v') B tb ⟨t.kind, t.of ++ [x], t.names, t.ats⟩ v' nv a ∧ DS (w'.setCell ⟨tb, 1, none⟩ v') (XT X tb v' nv a) db s n bad tv lv av rv tab ∧ Fr (fun k => B ≤ k) wq (w'.setCell ⟨tb, 1, none⟩ v') := by
  have hF := heapF he hos htp hou
  obtain ⟨h1, h2, h3⟩ := tb_grow_o x (hT.keep hF (fun _ _ h => h)) (hS.keep0 hF) hXB hX htv hO2 hg hv (Nat.le_trans hB hF.size)
  exact ⟨h1, h2, hF.of0.trans h3⟩

theorem box_after {W wq w' : World} {B tb : Nat} {t : RT} {o nv a : Value} {ob : Obj} {vb : Option Nat} (he : W.heap = (wq.alloc ob).heap) (hT : TB wq B tb t o nv a) (hg : W.grownBy w' vb) (hne : vb ≠ some tb) : w'.heap[tb]? = some (.cells #[.int .i64 t.kind, o, nv, a] 293 (0, 0)) := by
  have h1 : W.heap[tb]? = some (.cells #[.int .i64 t.kind, o, nv, a] 293 (0, 0)) := by rw [he, Below.heap_alloc _ _ _ (lt_of_heap hT.box)]; exact hT.box
  exact (hg.block tb (lt_of_heap h1) (fun e => hne e.symm)).trans h1

theorem Fr.trans2 {X Y : Nat → Prop} {a b c : World} (h : Fr X a b) (k : Fr Y b c) (hy : ∀ i, i < a.heap.size → Y i → X i) : Fr X a c :=
  ⟨k.os.trans h.os, k.tape.trans h.tape, k.output.trans h.output, Nat.le_trans h.size k.size, fun i hi hx => (k.block i (Nat.lt_of_lt_of_le hi h.size) (fun e => hx (hy i hi e))).trans (h.block i hi hx)⟩

set_option maxHeartbeats 16000000 in
theorem rparts_any {w : World} {X : Nat → Prop} {db : Nat} {s : ByteArray} {n f : Nat} {tv lv av rv : Value} {tab : List RT} (hT : RTypSaid s f) (h : DS w X db s n false tv lv av rv tab) (hX : X db) (hXlt : ∀ b, X b → b < w.heap.size) (hs : s.size ≤ 400) (hn : n + 1 ≤ s.size) (hf : s.size < n + 1 + f) (hl : tab.length + (s.size - n) ≤ 5000)
    (kI bI cI : Int) (kind btw close : Nat) (hk : kI = (kind : Int)) (hb : bI = (btw : Int)) (hc : cI = (close : Int)) (hbt : btw < 256) (hcl : close < 256) :
    Calls Tryz.prog 242 #[.pointer (some ⟨db, 0, none⟩), .agg #[.int .i64 kI, .slice none 0 0, .slice none 0 0, .slice none 0 0], .int .u8 bI, .int .u8 cI] w fun e w' => RTypPost w X db s tv lv av rv (rParts (rTyp s f) s kind btw close ⟨n, false, tab⟩) e w' := by
  subst hk hb hc
  have hsm : s.size ≤ maxLen := by unfold maxLen; omega
  have HT := hide hT
  have HX := hide hXlt
  have HS := hide h
  have HTL := hide h.lt
  have hdb : db < w.heap.size := hXlt db hX
  clear hT hXlt h
  go_enter Tryz.func242, Tryz.ntmps242
  go_wp2_with fail
  go_loopw [9] (fun mv wr => ∃ (b : Bool) (t : RT) (st : RS) (o nv a tv' : Value), mv = .bool b ∧ st.n ≤ s.size ∧ n ≤ st.n ∧ Hid (st.tab.length + (s.size - st.n) ≤ 5000) ∧ Hid (t.kind = kind) ∧ t.of.length ≤ 6 ∧
      Hid (b = true → st.bad = false ∧ st.n + 1 ≤ s.size ∧ ∃ k, k + 1 + t.of.length = 6 ∧ rLoop (rTyp s f) s btw 6 ⟨kind, [], [], []⟩ ⟨n, false, tab⟩ = rLoop (rTyp s f) s btw (k + 1) t st) ∧
      Hid (b = false → rLoop (rTyp s f) s btw 6 ⟨kind, [], [], []⟩ ⟨n, false, tab⟩ = (t, st)) ∧
      Hid (t.names.length = t.of.length ∧ t.ats.length = t.of.length) ∧
      Hid (TB wr w.heap.size w.heap.size t o nv a) ∧ Hid (DS wr (XT X w.heap.size o nv a) db s st.n st.bad tv' lv av rv st.tab) ∧ Hid (∀ g, tv'.ownBlock = some g → g ≠ w.heap.size) ∧ Hid (∀ g, tv'.ownBlock = some g → tv.ownBlock = some g ∨ w.heap.size ≤ g) ∧ Hid (Fr (Ch db tv) w wr)) (fun _ wr => 7 - ofLen w.heap.size wr)
  case atStart =>
    refine ⟨true, ⟨kind, [], [], []⟩, ⟨n, false, tab⟩, .slice none 0 0, .slice none 0 0, .slice none 0 0, tv, rfl, by show n ≤ _; omega, Nat.le_refl _, hl, rfl, by simp, fun _ => ⟨rfl, hn, 5, rfl, rfl⟩, (fun h => by cases h), ⟨rfl, rfl⟩, ⟨heap_new_at rfl _, World.ownsRow_nil _ _ _ _, World.ownsRow_nil _ _ _ _, World.ownsRow_nil _ _ _ _, (fun g hg => by simp [Value.ownBlock] at hg), Nat.le_refl _, (fun g hg => by simp [Value.ownBlock] at hg)⟩, ?_, (fun g hg => by have := HTL g hg; omega), (fun g hg => .inl hg), Fr.alloc _ _ _⟩
    refine ((DS.avoid HS.out (fun b hb hy => ?_)).keep0 (Fr.alloc _ _ _))
    rcases hy with h | h | h | h | h
    · exact h
    · omega
    · simp [Value.ownBlock] at h
    · simp [Value.ownBlock] at h
    · simp [Value.ownBlock] at h
  case round =>
    obtain ⟨b, t, st, o, nv, a, tv', rfl, hsn, hns, HL, HKD, hof, HY, HNo, HLN, HTB, HDS, HTV, HTVN, HF⟩ := hrel
    cases b with
    | false =>
      have HR := hide (HNo.out rfl)
      clear HY HNo
      go_wp2_with fail
      refine (must_any HDS.out.1 hsm hsn close close rfl hcl).mono ?_
      rintro e w1 ⟨rfl, hF1, hD1, hn1⟩
      have HDB1 := hide hD1
      have HDS1 := hide (HDS.out.self (.inl hX) hF1 hD1)
      have hnd : ∀ g, (g = w.heap.size ∨ o.ownBlock = some g ∨ nv.ownBlock = some g ∨ a.ownBlock = some g) → ¬ One db g := fun g hg e => by
        have e' : g = db := e
        rcases hg with h | h
        · omega
        · have := HTB.out.base.2 g h; omega
      have HTB1 := hide (HTB.out.keep hF1 hnd)
      have HF1 := hide (HF.out.trans (hF1.mono (fun k _ e => .inl e)))
      have tc := HTB1.out.cell
      have t0 := tc.1
      have t1 := tc.2.1
      have t2 := tc.2.2.1
      have t3 := tc.2.2.2
      have HAV : Hid (∀ g, (o.ownBlock = some g ∨ nv.ownBlock = some g ∨ a.ownBlock = some g) → ¬ XO X tv' g) := fun g hg hx => by
        rcases hx with hx | hx
        · have := HX g hx; have := HTB1.out.base.2 g hg; omega
        · rcases hg with h | h | h
          · exact HDS1.out.tvne HTB1.out.so (by decide) g h hx
          · exact HDS1.out.tvne HTB1.out.sn (by decide) g h hx
          · exact HDS1.out.tvne HTB1.out.sa (by decide) g h hx
      have HRTR : Hid (RTR w1 (XO X tv') ⟨t.kind, o, nv, a⟩ t) := ⟨rfl, ⟨by rw [ints_length]; exact HTB1.out.so, fun g hg => HAV g (.inl hg)⟩, ⟨by rw [texts_length]; exact HTB1.out.sn, fun g hg => HAV g (.inr (.inl hg))⟩, ⟨by rw [ints_length]; exact HTB1.out.sa, fun g hg => HAV g (.inr (.inr hg))⟩⟩
      clear hF1 hD1 hnd tc
      go_wp2_with fail
      refine (add_any (HDS1.out.avoid (fun b _ hb => .inl hb)) hX (by have := HL.out; omega) t.kind ⟨t.kind, o, nv, a⟩ t rfl HRTR).mono ?_
      rintro e w2 ⟨rfl, hF2, tv2, hD2, htv2⟩
      have HD2 := hide hD2
      have HTV2 := hide htv2
      have HF2 := hide hF2
      clear hF2 hD2 htv2
      go_wp2_with fail
      go_ret
      have eR : rParts (rTyp s f) s kind btw close ⟨n, false, tab⟩ = (⟨mustN s st.n st.bad close, mustB s st.n st.bad close, st.tab ++ [t]⟩, st.tab.length) := by
        unfold rParts
        rw [HR.out]
        rfl
      rw [eR]
      refine ⟨rfl, ?_, hn1, tv2, HD2, fun g hg => ?_⟩
      · refine HF1.out.trans2 HF2.out (fun k hk hc => ?_)
        rcases hc with h | h
        · exact .inl h
        · rcases HTVN.out k h with h' | h'
          · exact .inr h'
          · omega
      · rcases HTV2.out g hg with h | h
        · exact HTVN.out g h
        · have := HF1.out.size; exact .inr (by omega)
    | true =>
      obtain ⟨hbad, hn1, k, hk6, hrl⟩ := HY.out rfl
      have HOL0 := hide HTB.out.ofLen
      have HRL := hide hrl
      have HBAD := hide hbad
      clear hrl HY HNo
      have hD0 := HDS.out.1
      rw [hbad] at hD0
      have c1 := hD0.at1
      have c6 := hD0.at6
      have f1 := hD0.free 1
      have hsn64 : (st.n : Int) < 1000 := by omega
      have tc := HTB.out.cell
      have tc3 := tc.2.2.2
      have tf3 := HTB.out.free 3
      have htl := HTB.out.lt w.heap.size (.inl rfl)
      have hdl := lt_of_heap hD0
      clear tc hbad
      go_wp2_with fail
      have hFq : Fr (One db) wr (wr.setCell ⟨db, 1, none⟩ (.int .i64 ((st.n : Int) + 1))) := Fr.setCell _ _ _ _ rfl
      have hDq : DB (wr.setCell ⟨db, 1, none⟩ (.int .i64 ((st.n : Int) + 1))) db s (st.n + 1) false tv' lv av rv := hD0.set1 (st.n + 1)
      have hnd : ∀ g, (g = w.heap.size ∨ o.ownBlock = some g ∨ nv.ownBlock = some g ∨ a.ownBlock = some g) → ¬ One db g := fun g hg e => by
        have e' : g = db := e
        rcases hg with h | h
        · omega
        · have := HTB.out.base.2 g h; omega
      have HTq := hide (HTB.out.keep hFq hnd)
      have HSq := hide (HDS.out.self (.inl hX) hFq hDq)
      have HFq := hide (HF.out.trans (hFq.mono (fun k _ e => .inl e)))
      generalize wr.setCell ⟨db, 1, none⟩ (.int .i64 ((st.n : Int) + 1)) = wq at *
      clear c1 c6 f1 tc3 tf3 htl hdl hD0 hnd hFq
      have c1 : wq.cell? ⟨db, 1, none⟩ = some (.int .i64 ((st.n : Int) + 1)) := hDq.at1
      have HDq := hide hDq
      have tc := HTq.out.cell
      have tc3 := tc.2.2.2
      have tf3 := HTq.out.free 3
      have htl := HTq.out.lt w.heap.size (.inl rfl)
      have hdl := lt_of_heap hDq
      have HBq : Hid (w.heap.size ≤ wq.heap.size) := HFq.out.size
      have HNA : Hid (a.ownBlock ≠ some w.heap.size) := fun e => HTq.out.tbne _ (.inr (.inr e)) rfl
      have HNN : Hid (nv.ownBlock ≠ some w.heap.size) := fun e => HTq.out.tbne _ (.inr (.inl e)) rfl
      have HNO : Hid (o.ownBlock ≠ some w.heap.size) := fun e => HTq.out.tbne _ (.inl e) rfl
      clear tc hDq
      have m1 : Hid (t.ats.length + 1 ≤ maxLen) := by show _ ≤ _; have := HLN.out; unfold maxLen; omega
      have m2 : Hid ((t.ats.length + 1) * 8 ≤ 140737488355328) := by show _ ≤ _; have := HLN.out; omega
      have m3 : Hid (∀ u ∈ [Value.int .i64 ((st.n : Int) + 1)], u.oneCell' = true) := by intro u hu; simp at hu; subst hu; rfl
      obtain ⟨i0, hi, hz0, hz1, hz2⟩ := info_parts Tryz.info3
      go_region_law (refine step_append_mine rfl (.tmp 28) (.tmp 33) 38 rfl 0 3 i0 (.int .i64 0) 1 8 Tryz.underlying38 hi hz0 hz1 hz2 rfl (by decide) a t.ats.length (ints t.ats) (by simp [Act.eval]) (by exact ownsRow_heap (o := .cells #[.int .i64 ((st.n : Int) + 1)] 3) HTq.out.sa (by rfl)) ⟨wq.heap.size, 0, none⟩ 1 1 (by omega) [.int .i64 ((st.n : Int) + 1)] (by simp [Act.eval]) rfl (by exact news1_heap (w := wq) (t := 3) (x := .int .i64 ((st.n : Int) + 1)) rfl (by rfl)) m3.out m1.out m2.out (Nat.zero_le _) ?_; intro v' w' hO2 hg2 hv2; obtain ⟨gn, capn, rfl, hgn⟩ := hv2; have hbx := box_after (ob := .cells #[.int .i64 ((st.n : Int) + 1)] 3) (by rfl) HTq.out hg2 HNA.out; have q3 := cell_of_heap (o := 3) hbx; have qf := free_of_heap (o := 3) hbx; have HE := hide (ats_end (x := st.n + 1) (ob := .cells #[.int .i64 ((st.n : Int) + 1)] 3) (by rfl) (by rfl) (by rfl) (by rfl) HTq.out HSq.out HX.out hX HTV.out hO2 hg2 ⟨gn, capn, rfl, hgn⟩ HBq.out); clear hO2 hg2 hgn hbx)
      all_goals
        obtain ⟨hT2, hS2, hF2⟩ := HE.out
        have HT2 := hide hT2
        have HS2 := hide hS2
        have HF2 := hide (HFq.out.past hF2)
        clear HE hT2 hS2 hF2 q3 qf
        generalize w'.setCell ⟨w.heap.size, 3, none⟩ (.slice (some ⟨gn, 0, none⟩) (t.ats.length + 1) capn) = w2 at *
        generalize (Value.slice (some ⟨gn, 0, none⟩) (t.ats.length + 1) capn) = a2 at *
        clear HTq HSq HFq HDq HBq HNA HNO HNN m1 m2 m3 hi hz0 hz1 hz2 HTB HDS HF c1 tc3 tf3 htl hdl
        go_wp2_with fail
        refine (name_any HS2.out.1 hsm hn1).mono ?_
        rintro e w3 ⟨rfl, hF3, hD3, hn3⟩
        have hnd : ∀ g, (g = w.heap.size ∨ o.ownBlock = some g ∨ nv.ownBlock = some g ∨ a2.ownBlock = some g) → ¬ One db g := fun g hg e => by
          have e' : g = db := e
          rcases hg with h | h
          · omega
          · have := HT2.out.base.2 g h; omega
        have HT3 := hide (HT2.out.keep hF3 hnd)
        have HS3 := hide (HS2.out.self (.inl hX) hF3 hD3)
        have HF3 := hide (HF2.out.trans (hF3.mono (fun k _ e => .inl e)))
        clear hF3 hD3 hnd HT2 HS2 HF2
        generalize hnm : wordS s (st.n + 1) false = nm at *
        have HNM := hide hnm
        clear hnm
        have HB3 : Hid (w.heap.size ≤ w3.heap.size) := HF3.out.size
        have HNN : Hid (nv.ownBlock ≠ some w.heap.size) := fun e => HT3.out.tbne _ (.inr (.inl e)) rfl
        have tc2 := HT3.out.cell.2.2.1
        have tf2 := HT3.out.free 2
        have htl := HT3.out.lt w.heap.size (.inl rfl)
        have m1 : Hid (t.names.length + 1 ≤ maxLen) := by show _ ≤ _; have := HLN.out; unfold maxLen; omega
        have m2 : Hid ((t.names.length + 1) * 16 ≤ 140737488355328) := by show _ ≤ _; have := HLN.out; omega
        have m3 : Hid (∀ u ∈ [Value.string nm], u.oneCell' = true) := by intro u hu; simp at hu; subst hu; rfl
        obtain ⟨i9, hi, hz0, hz1, hz2⟩ := info_parts Tryz.info9
        go_wp2_with (at_builtin; refine wpList_append_mine _ rfl _ _ 35 rfl 0 9 i9 (.string ⟨#[]⟩) 1 16 Tryz.underlying35 hi hz0 hz1 hz2 rfl (by decide) nv t.names.length (texts t.names) rfl (by exact ownsRow_heap (o := .cells #[.string nm] 9) HT3.out.sn (by rfl)) ⟨w3.heap.size, 0, none⟩ 1 1 (by omega) [.string nm] rfl rfl (by exact news1_heap (w := w3) (t := 9) (x := .string nm) rfl (by rfl)) m3.out m1.out m2.out (Nat.zero_le _) ?_; intro v4 w4 hO4 hg4 hv4; obtain ⟨g4, cap4, rfl, hgn4⟩ := hv4; have hbx := box_after (ob := .cells #[.string nm] 9) (by rfl) HT3.out hg4 HNN.out; have q2 := cell_of_heap (o := 2) hbx; have qf2 := free_of_heap (o := 2) hbx; have HE4 := hide (names_end (x := nm) (ob := .cells #[.string nm] 9) (by rfl) (by rfl) (by rfl) (by rfl) HT3.out HS3.out HX.out hX HTV.out hO4 hg4 ⟨g4, cap4, rfl, by simpa using hgn4⟩ HB3.out); clear hO4 hg4 hgn4 hbx)
        obtain ⟨hT5, hS5, hF5⟩ := HE4.out
        have HT5 := hide hT5
        have HS5 := hide hS5
        have HF5 := hide (HF3.out.past hF5)
        clear HE4 hT5 hS5 hF5 q2 qf2
        generalize w4.setCell ⟨w.heap.size, 2, none⟩ (.slice (some ⟨g4, 0, none⟩) (t.names.length + 1) cap4) = w5 at *
        generalize (Value.slice (some ⟨g4, 0, none⟩) (t.names.length + 1) cap4) = n2 at *
        clear HT3 HS3 HF3 HB3 HNN m1 m2 m3 hi hz0 hz1 hz2 tc2 tf2 htl
        refine (must_any HS5.out.1 hsm hn3 58 58 rfl (by omega)).mono ?_
        rintro e w6 ⟨rfl, hF6, hD6, hn6⟩
        have hnd : ∀ g, (g = w.heap.size ∨ o.ownBlock = some g ∨ n2.ownBlock = some g ∨ a2.ownBlock = some g) → ¬ One db g := fun g hg e => by
          have e' : g = db := e
          rcases hg with h | h
          · omega
          · have := HT5.out.base.2 g h; omega
        have HT6 := hide (HT5.out.keep hF6 hnd)
        have HS6 := hide (HS5.out.self (.inl hX) hF6 hD6)
        have HF6 := hide (HF5.out.trans (hF6.mono (fun k _ e => .inl e)))
        clear hF6 hD6 hnd HT5 HS5 HF5
        have hge6 := Nat.le_trans (wordN_ge s (st.n + 1) false) (mustN_ge s (wordN s (st.n + 1) false) (nameB s (st.n + 1) false) 58)
        go_wp2_with fail
        refine (HT.out w6 (XT X w.heap.size o n2 a2) db _ _ tv' lv av rv st.tab HS6 (.inl hX) (fun b hb => ?_) hn6 (.inr (by omega)) (by have := HL.out; omega)).mono ?_
        · rcases hb with h | h
          · exact Nat.lt_of_lt_of_le (HX b h) HF6.out.size
          · exact HT6.out.lt b h
        have hgr := rTyp_grows s f ⟨mustN s (wordN s (st.n + 1) false) (nameB s (st.n + 1) false) 58, mustB s (wordN s (st.n + 1) false) (nameB s (st.n + 1) false) 58, st.tab⟩
        simp only at hgr
        have HRS : Hid (rLoop (rTyp s f) s btw (k + 1) t st = 
            if rIs s (rTyp s f ⟨mustN s (wordN s (st.n + 1) false) (nameB s (st.n + 1) false) 58, mustB s (wordN s (st.n + 1) false) (nameB s (st.n + 1) false) 58, st.tab⟩).1.n (rTyp s f ⟨mustN s (wordN s (st.n + 1) false) (nameB s (st.n + 1) false) 58, mustB s (wordN s (st.n + 1) false) (nameB s (st.n + 1) false) 58, st.tab⟩).1.bad btw = true ∧ t.of.length + 1 ≠ 6 then
            rLoop (rTyp s f) s btw k ⟨t.kind, t.of ++ [(rTyp s f ⟨mustN s (wordN s (st.n + 1) false) (nameB s (st.n + 1) false) 58, mustB s (wordN s (st.n + 1) false) (nameB s (st.n + 1) false) 58, st.tab⟩).2], t.names ++ [wordS s (st.n + 1) false], t.ats ++ [st.n + 1]⟩ (rTyp s f ⟨mustN s (wordN s (st.n + 1) false) (nameB s (st.n + 1) false) 58, mustB s (wordN s (st.n + 1) false) (nameB s (st.n + 1) false) 58, st.tab⟩).1
            else (⟨t.kind, t.of ++ [(rTyp s f ⟨mustN s (wordN s (st.n + 1) false) (nameB s (st.n + 1) false) 58, mustB s (wordN s (st.n + 1) false) (nameB s (st.n + 1) false) 58, st.tab⟩).2], t.names ++ [wordS s (st.n + 1) false], t.ats ++ [st.n + 1]⟩, (rTyp s f ⟨mustN s (wordN s (st.n + 1) false) (nameB s (st.n + 1) false) 58, mustB s (wordN s (st.n + 1) false) (nameB s (st.n + 1) false) 58, st.tab⟩).1)) := rfl
        rw [HNM.out] at HRS
        generalize rTyp s f ⟨mustN s (wordN s (st.n + 1) false) (nameB s (st.n + 1) false) 58, mustB s (wordN s (st.n + 1) false) (nameB s (st.n + 1) false) 58, st.tab⟩ = r at *
        rintro e w7 ⟨rfl, hF7, hn7, tv7, hD7, htv7⟩
        have htl6 := HT6.out.lt w.heap.size (.inl rfl)
        have HT7 := hide (HT6.out.keep hF7 (fun g hg e => by
          rcases e with e | e
          · rcases hg with h | h
            · omega
            · have := HT6.out.base.2 g h; omega
          · rcases hg with h | h | h | h
            · exact HTV.out g e h
            · exact HS6.out.tvne HT6.out.so (by decide) g h e
            · exact HS6.out.tvne HT6.out.sn (by decide) g h e
            · exact HS6.out.tvne HT6.out.sa (by decide) g h e))
        have HTV7 : Hid (∀ g, tv7.ownBlock = some g → g ≠ w.heap.size) := fun g hg => by
          rcases htv7 g hg with h | h
          · exact HTV.out g h
          · omega
        have HTVN7 : Hid (∀ g, tv7.ownBlock = some g → tv.ownBlock = some g ∨ w.heap.size ≤ g) := fun g hg => by
          rcases htv7 g hg with h | h
          · exact HTVN.out g h
          · exact .inr (by omega)
        have HF7 : Hid (Fr (Ch db tv) w w7) := HF6.out.trans2 hF7 (fun i hi hc => by
          rcases hc with h | h
          · exact .inl h
          · rcases HTVN.out i h with h' | h'
            · exact .inr h'
            · omega)
        have HS7 := hide hD7
        clear hF7 hD7 htv7 HT6 HS6 HF6 HTV HTVN htl6
        have HB7 : Hid (w.heap.size ≤ w7.heap.size) := HF7.out.size
        have HNO : Hid (o.ownBlock ≠ some w.heap.size) := fun e => HT7.out.tbne _ (.inl e) rfl
        have tc1 := HT7.out.cell.2.1
        have tf1 := HT7.out.free 1
        have htl := HT7.out.lt w.heap.size (.inl rfl)
        have m1 : Hid (t.of.length + 1 ≤ maxLen) := by show _ ≤ _; unfold maxLen; omega
        have m2 : Hid ((t.of.length + 1) * 8 ≤ 140737488355328) := by show _ ≤ _; omega
        have m3 : Hid (∀ u ∈ [Value.int .i64 (r.2 : Int)], u.oneCell' = true) := by intro u hu; simp at hu; subst hu; rfl
        obtain ⟨i3, hi, hz0, hz1, hz2⟩ := info_parts Tryz.info3
        go_wp2_with (at_builtin; refine wpList_append_mine _ rfl _ _ 38 rfl 0 3 i3 (.int .i64 0) 1 8 Tryz.underlying38 hi hz0 hz1 hz2 rfl (by decide) o t.of.length (ints t.of) rfl (by exact ownsRow_heap (o := .cells #[.int .i64 (r.2 : Int)] 3) HT7.out.so (by rfl)) ⟨w7.heap.size, 0, none⟩ 1 1 (by omega) [.int .i64 (r.2 : Int)] rfl rfl (by exact news1_heap (w := w7) (t := 3) (x := .int .i64 (r.2 : Int)) rfl (by rfl)) m3.out m1.out m2.out (Nat.zero_le _) ?_; intro v8 w8 hO8 hg8 hv8; obtain ⟨g8, cap8, rfl, hgn8⟩ := hv8; have hbx := box_after (ob := .cells #[.int .i64 (r.2 : Int)] 3) (by rfl) HT7.out hg8 HNO.out; have q1 := cell_of_heap (o := 1) hbx; have qf1 := free_of_heap (o := 1) hbx; have HE8 := hide (of_end (x := r.2) (ob := .cells #[.int .i64 (r.2 : Int)] 3) (by rfl) (by rfl) (by rfl) (by rfl) HT7.out HS7.out HX.out hX HTV7.out hO8 hg8 ⟨g8, cap8, rfl, by simpa using hgn8⟩ HB7.out); clear hO8 hg8 hgn8 hbx)
        obtain ⟨hT9, hS9, hF9⟩ := HE8.out
        have HT9 := hide hT9
        have HS9 := hide hS9
        have HF9 := hide (HF7.out.past hF9)
        clear HE8 hT9 hS9 hF9 q1 qf1
        generalize w8.setCell ⟨w.heap.size, 1, none⟩ (.slice (some ⟨g8, 0, none⟩) (t.of.length + 1) cap8) = w9 at *
        clear HT7 HS7 HF7 HB7 HNO m1 m2 m3 hi hz0 hz1 hz2 tc1 tf1 htl
        refine (is_any HS9.out.1 hsm hn7 btw btw rfl hbt).mono ?_
        rintro e w10 ⟨rfl, kk, hw10⟩
        have hz : Fr Zero w9 w10 := by rw [hw10]; exact Fr.drewN _ _ _
        have HT10 := hide (HT9.out.keep hz (fun _ _ h => h))
        have HS10 := hide (HS9.out.keep0 hz)
        have HF10 := hide (HF9.out.trans hz.of0)
        have tc1 := HT10.out.cell.2.1
        clear hw10 hz HT9 HS9 HF9
        have HLEN : Hid ((t.names ++ [nm]).length = (t.of ++ [r.2]).length ∧ (t.ats ++ [st.n + 1]).length = (t.of ++ [r.2]).length) := by
          have := HLN.out
          show _ ∧ _
          simp only [List.length_append, List.length_cons, List.length_nil]
          omega
        have HOL : Hid (t.of.length + 1 ≤ 6) := by show _ ≤ _; omega
        have HMEAS : Hid (7 - ofLen w.heap.size w10 < 7 - ofLen w.heap.size wr) := by
          show _ < _
          rw [HT10.out.ofLen, HOL0.out]
          simp only [List.length_append, List.length_cons, List.length_nil]
          omega
        by_cases h6 : t.of.length + 1 = 6
        · have hq : ((t.of.length : Int) + 1 == 6) = true := beq_iff_eq.2 (by omega)
          have HFIN : Hid (rLoop (rTyp s f) s btw 6 ⟨kind, [], [], []⟩ ⟨n, false, tab⟩ = (⟨t.kind, t.of ++ [r.2], t.names ++ [nm], t.ats ++ [st.n + 1]⟩, r.1)) := HRL.out.trans (HRS.out.trans (by rw [if_neg (by omega)]))
          clear h6 HRS HRL
          go_wp2_with fail
          go_roundw
          case rel => exact ⟨false, ⟨t.kind, t.of ++ [r.2], t.names ++ [nm], t.ats ++ [st.n + 1]⟩, r.1, _, n2, a2, tv7, rfl, hn7, by omega, (by have := HL.out; show _ ≤ _; omega), HKD, (by simp only [List.length_append, List.length_cons, List.length_nil]; exact HOL), (fun h => by cases h), (fun _ => HFIN), HLEN, HT10, HS10, HTV7, HTVN7, HF10⟩
          case measure => exact HMEAS
        · have hq : ((t.of.length : Int) + 1 == 6) = false := beq_eq_false_iff_ne.2 (by omega)
          rcases hi : rIs s r.1.n r.1.bad btw with _ | _
          · have HFIN : Hid (rLoop (rTyp s f) s btw 6 ⟨kind, [], [], []⟩ ⟨n, false, tab⟩ = (⟨t.kind, t.of ++ [r.2], t.names ++ [nm], t.ats ++ [st.n + 1]⟩, r.1)) := HRL.out.trans (HRS.out.trans (by rw [if_neg (by rw [hi]; simp)]))
            clear h6 HRS HRL hi
            go_wp2_with fail
            go_roundw
            case rel => exact ⟨false, ⟨t.kind, t.of ++ [r.2], t.names ++ [nm], t.ats ++ [st.n + 1]⟩, r.1, _, n2, a2, tv7, rfl, hn7, by omega, (by have := HL.out; show _ ≤ _; omega), HKD, (by simp only [List.length_append, List.length_cons, List.length_nil]; exact HOL), (fun h => by cases h), (fun _ => HFIN), HLEN, HT10, HS10, HTV7, HTVN7, HF10⟩
            case measure => exact HMEAS
          · have HFIN : Hid (rLoop (rTyp s f) s btw 6 ⟨kind, [], [], []⟩ ⟨n, false, tab⟩ = rLoop (rTyp s f) s btw k ⟨t.kind, t.of ++ [r.2], t.names ++ [nm], t.ats ++ [st.n + 1]⟩ r.1) := HRL.out.trans (HRS.out.trans (by rw [if_pos ⟨hi, h6⟩]))
            have hbn : r.1.bad = false ∧ r.1.n + 1 ≤ s.size := by
              unfold rIs at hi
              simp at hi
              exact ⟨hi.1, byteAt_in (by omega)⟩
            have HBN := hide hbn
            have H6 := hide h6
            clear h6 HRS HRL hi hbn
            go_wp2_with fail
            go_roundw
            case rel =>
              have := H6.out
              exact ⟨true, ⟨t.kind, t.of ++ [r.2], t.names ++ [nm], t.ats ++ [st.n + 1]⟩, r.1, _, n2, a2, tv7, rfl, hn7, by omega, (by have := HL.out; show _ ≤ _; omega), HKD, (by simp only [List.length_append, List.length_cons, List.length_nil]; exact HOL), (fun _ => ⟨HBN.out.1, HBN.out.2, k - 1, (by simp only [List.length_append, List.length_cons, List.length_nil]; omega), (by rw [show k - 1 + 1 = k by omega]; exact HFIN)⟩), (fun h => by cases h), HLEN, HT10, HS10, HTV7, HTVN7, HF10⟩
            case measure => exact HMEAS

end Go.Proofs.YtnhkalnihjkoeaaGreatDoor

namespace Go.Proofs.YtnhkalnihjkoeaaGreatDoor
open Go.RowKit

theorem rIs_true {s : ByteArray} {n c : Nat} (h : byteAt s n = c) : rIs s n false c = true := by simp [rIs, h]
theorem rIs_false {s : ByteArray} {n c : Nat} (h : ¬ byteAt s n = c) : rIs s n false c = false := by simp [rIs, h]

theorem DS.drew {w w' : World} {X : Nat → Prop} {db : Nat} {s : ByteArray} {n : Nat} {bad : Bool} {tv lv av rv : Value} {tab : List RT} (h : DS w X db s n bad tv lv av rv tab) (hw : ∃ k, w' = w.drewN k) : DS w' X db s n bad tv lv av rv tab ∧ Fr Zero w w' := by
  obtain ⟨k, rfl⟩ := hw
  exact ⟨h.keep0 (Fr.drewN _ _ _), Fr.drewN _ _ _⟩

/-- The four looks that typ begins with. -/
theorem RTypPost.after {w w0 : World} {X : Nat → Prop} {db : Nat} {s : ByteArray} {tv lv av rv : Value} {r : RS × Nat} {e : Ending} {w' : World} (h : RTypPost w0 X db s tv lv av rv r e w') (hf : Fr Zero w w0) : RTypPost w X db s tv lv av rv r e w' := by
  obtain ⟨h1, h2, h3, tv', h4, h5⟩ := h
  exact ⟨h1, hf.of0.trans h2, h3, tv', h4, fun g hg => by
    rcases h5 g hg with h | h
    · exact .inl h
    · have := hf.size; exact .inr (by omega)⟩

theorem SL.one {w : World} {X : Nat → Prop} (e : TypeId) (x : Value) (hx : ¬ X w.heap.size) : SL (w.alloc (.cells #[x] e)) X e (.slice (some ⟨w.heap.size, 0, none⟩) 1 1) [x] :=
  ⟨⟨rfl, .inr ⟨w.heap.size, 1, _, rfl, Nat.zero_le _, heap_new_at rfl _, Nat.le_refl _, by unfold maxLen; omega, rfl, rfl⟩⟩, fun g hg => by simp [Value.ownBlock] at hg; subst hg; exact hx⟩

theorem SL.oneAt {w : World} {X : Nat → Prop} {k : Nat} (hk : w.heap.size = k) (e : TypeId) (x : Value) (hx : ¬ X k) : SL (w.alloc (.cells #[x] e)) X e (.slice (some ⟨k, 0, none⟩) 1 1) [x] := by
  subst hk
  exact SL.one e x hx

theorem rtyp_bad {w : World} {X : Nat → Prop} {db : Nat} {s : ByteArray} {n : Nat} {tv lv av rv : Value} {tab : List RT} (h : DS w X db s n true tv lv av rv tab) (hle : n ≤ s.size) :
    Calls Tryz.prog 168 #[.pointer (some ⟨db, 0, none⟩)] w fun e w' => RTypPost w X db s tv lv av rv (⟨n, true, tab⟩, 0) e w' := by
  have HS := hide h
  have c6 := h.1.at6
  clear h
  go_enter Tryz.func168, Tryz.ntmps168
  go_wp2_with fail
  go_ret
  exact ⟨rfl, Fr.refl _ _, hle, tv, HS, fun g hg => .inl hg⟩

set_option maxRecDepth 100000 in
set_option maxHeartbeats 16000000 in
theorem rtyp_step {s : ByteArray} {f : Nat} (hT : RTypSaid s f) (hs : s.size ≤ 400) : RTypSaid s (f + 1) := by
  intro w X db n bad tv lv av rv tab h hX hXlt hle hfu hl
  have hsm : s.size ≤ maxLen := by unfold maxLen; omega
  have HS := hide h
  have HX := hide hXlt
  have HT := hide hT
  have c6 := h.1.at6
  clear hT hXlt h
  cases bad with
  | true =>
    go_enter Tryz.func168, Tryz.ntmps168
    go_wp2_with fail
    go_ret
    exact ⟨rfl, Fr.refl _ _, hle, tv, HS, fun g hg => .inl hg⟩
  | false =>
    have hfu' : s.size < n + 1 + f := by rcases hfu with h | h; cases h; omega
    clear hfu
    by_cases c1 : byteAt s n = 91
    · have y1 : Hid (rIs s n false 91 = true) := rIs_true c1
      have y2 : Hid (rIs s n false 63 = false) := rIs_false (by omega)
      have y3 : Hid (rIs s n false 123 = false) := rIs_false (by omega)
      have y4 : Hid (rIs s n false 60 = false) := rIs_false (by omega)
      have hn1 : n + 1 ≤ s.size := byteAt_in (by omega)
      have HR : Hid (rTyp s (f + 1) ⟨n, false, tab⟩ = rAdd (rMust s 93 (rTyp s f ⟨n + 1, false, tab⟩).1) ⟨7, [(rTyp s f ⟨n + 1, false, tab⟩).2], [], []⟩) := by
        show _ = _
        simp only [rTyp]
        rw [if_neg (by simp), if_pos c1]
      clear c1
      go_enter Tryz.func168, Tryz.ntmps168
      go_wp2_with fail
      refine (is_any HS.out.1 hsm hle 91 91 rfl (by omega)).mono ?_
      rintro e w1 ⟨rfl, hw1⟩
      obtain ⟨hS1, hZ1⟩ := HS.out.drew hw1
      have HS1 := hide hS1
      have HZ1 : Hid (Fr Zero w w1) := (Fr.refl Zero w).trans hZ1
      rw [y1.out]
      clear hw1 hS1 hZ1
      go_wp2_with fail
      refine (is_any HS1.out.1 hsm hle 63 63 rfl (by omega)).mono ?_
      rintro e w2 ⟨rfl, hw2⟩
      obtain ⟨hS2, hZ2⟩ := HS1.out.drew hw2
      have HS2 := hide hS2
      have HZ2 : Hid (Fr Zero w w2) := HZ1.out.trans hZ2
      rw [y2.out]
      clear hw2 hS2 hZ2
      go_wp2_with fail
      refine (is_any HS2.out.1 hsm hle 123 123 rfl (by omega)).mono ?_
      rintro e w3 ⟨rfl, hw3⟩
      obtain ⟨hS3, hZ3⟩ := HS2.out.drew hw3
      have HS3 := hide hS3
      have HZ3 : Hid (Fr Zero w w3) := HZ2.out.trans hZ3
      rw [y3.out]
      clear hw3 hS3 hZ3
      go_wp2_with fail
      refine (is_any HS3.out.1 hsm hle 60 60 rfl (by omega)).mono ?_
      rintro e w4 ⟨rfl, hw4⟩
      obtain ⟨hS4, hZ4⟩ := HS3.out.drew hw4
      have HS4 := hide hS4
      have HZ4 : Hid (Fr Zero w w4) := HZ3.out.trans hZ4
      rw [y4.out]
      clear hw4 hS4 hZ4
      have k1 := HS4.out.1.at1
      have f1 := HS4.out.1.free 1
      have hn64 : (n : Int) < 1000 := by omega
      go_wp2_with fail
      have hFq : Fr (One db) w4 (w4.setCell ⟨db, 1, none⟩ (.int .i64 ((n : Int) + 1))) := Fr.setCell _ _ _ _ rfl
      have HSq := hide (HS4.out.self hX hFq (HS4.out.1.set1 (n + 1)))
      have HFq := hide ((HZ4.out.of0 (X := Ch db tv)).trans (hFq.mono (fun k _ e => .inl e)))
      generalize w4.setCell ⟨db, 1, none⟩ (.int .i64 ((n : Int) + 1)) = wq at *
      clear hFq k1 f1
      refine (HT.out wq X db (n + 1) false tv lv av rv tab HSq hX (fun b hb => Nat.lt_of_lt_of_le (HX b hb) HFq.out.size) hn1 (.inr (by omega)) (by omega)).mono ?_
      have hgr := rTyp_grows s f ⟨n + 1, false, tab⟩
      simp only at hgr
      generalize rTyp s f ⟨n + 1, false, tab⟩ = r at *
      rintro e w5 ⟨rfl, hF5, hn5, tv5, hD5, htv5⟩
      have HS5 := hide hD5
      have HTV5 := hide htv5
      have HF5 := hide (HFq.out.trans hF5)
      clear hF5 hD5 htv5
      go_wp2_with fail
      refine (must_any HS5.out.1 hsm hn5 93 93 rfl (by omega)).mono ?_
      rintro e w6 ⟨rfl, hF6, hD6, hn6⟩
      have HS6 := hide (HS5.out.self hX hF6 hD6)
      have HF6 := hide (HF5.out.trans (hF6.mono (fun k _ e => .inl e)))
      clear hF6 hD6
      go_wp2_with fail
      have HLT : Hid (∀ b, X b → b < w6.heap.size) := fun b hb => Nat.lt_of_lt_of_le (HX b hb) HF6.out.size
      have HAV : Hid (¬ XO X tv5 w6.heap.size) := fun h => by
        rcases h with h | h
        · have := HLT.out _ h; omega
        · have := HS6.out.lt _ h; omega
      refine (add_any (HS6.out.keep0 (Fr.alloc _ _ _)) hX (by omega) 7 ⟨7, .slice (some ⟨w6.heap.size, 0, none⟩) 1 1, .slice none 0 0, .slice none 0 0⟩ ⟨7, [r.2], [], []⟩ rfl ⟨rfl, SL.one _ _ HAV, SL.nil _ _ _, SL.nil _ _ _⟩).mono ?_
      rintro e w7 ⟨rfl, hF7, tv7, hD7, htv7⟩
      have HS7 := hide hD7
      have HTV7 := hide htv7
      have HF7 := hide hF7
      clear hF7 hD7 htv7
      go_wp2_with fail
      go_ret
      rw [HR.out]
      refine ⟨rfl, ?_, hn6, tv7, HS7, fun g hg => ?_⟩
      · refine HF6.out.trans2 ((Fr.alloc _ _ _).trans HF7.out) (fun i hi hc => ?_)
        rcases hc with h | h
        · exact .inl h
        · rcases HTV5.out i h with h' | h'
          · exact .inr h'
          · have := HFq.out.size; omega
      · rcases HTV7.out g hg with h | h
        · rcases HTV5.out g h with h' | h'
          · exact .inl h'
          · have := HFq.out.size; exact .inr (by omega)
        · have := HF6.out.size; simp at h; exact .inr (by omega)
    · by_cases c2 : byteAt s n = 63
      · have y1 : Hid (rIs s n false 91 = false) := rIs_false c1
        have y2 : Hid (rIs s n false 63 = true) := rIs_true c2
        have y3 : Hid (rIs s n false 123 = false) := rIs_false (by omega)
        have y4 : Hid (rIs s n false 60 = false) := rIs_false (by omega)
        have hn1 : n + 1 ≤ s.size := byteAt_in (by omega)
        have HR : Hid (rTyp s (f + 1) ⟨n, false, tab⟩ = rAdd (rTyp s f ⟨n + 1, false, tab⟩).1 ⟨8, [(rTyp s f ⟨n + 1, false, tab⟩).2], [], []⟩) := by
          show _ = _
          simp only [rTyp]
          rw [if_neg (by simp), if_neg c1, if_pos c2]
        clear c1 c2
        go_enter Tryz.func168, Tryz.ntmps168
        go_wp2_with fail
        refine (is_any HS.out.1 hsm hle 91 91 rfl (by omega)).mono ?_
        rintro e w1 ⟨rfl, hw1⟩
        obtain ⟨hS1, hZ1⟩ := HS.out.drew hw1
        have HS1 := hide hS1
        have HZ1 : Hid (Fr Zero w w1) := (Fr.refl Zero w).trans hZ1
        rw [y1.out]
        clear hw1 hS1 hZ1
        go_wp2_with fail
        refine (is_any HS1.out.1 hsm hle 63 63 rfl (by omega)).mono ?_
        rintro e w2 ⟨rfl, hw2⟩
        obtain ⟨hS2, hZ2⟩ := HS1.out.drew hw2
        have HS2 := hide hS2
        have HZ2 : Hid (Fr Zero w w2) := HZ1.out.trans hZ2
        rw [y2.out]
        clear hw2 hS2 hZ2
        go_wp2_with fail
        refine (is_any HS2.out.1 hsm hle 123 123 rfl (by omega)).mono ?_
        rintro e w3 ⟨rfl, hw3⟩
        obtain ⟨hS3, hZ3⟩ := HS2.out.drew hw3
        have HS3 := hide hS3
        have HZ3 : Hid (Fr Zero w w3) := HZ2.out.trans hZ3
        rw [y3.out]
        clear hw3 hS3 hZ3
        go_wp2_with fail
        refine (is_any HS3.out.1 hsm hle 60 60 rfl (by omega)).mono ?_
        rintro e w4 ⟨rfl, hw4⟩
        obtain ⟨hS4, hZ4⟩ := HS3.out.drew hw4
        have HS4 := hide hS4
        have HZ4 : Hid (Fr Zero w w4) := HZ3.out.trans hZ4
        rw [y4.out]
        clear hw4 hS4 hZ4
        have k1 := HS4.out.1.at1
        have f1 := HS4.out.1.free 1
        have hn64 : (n : Int) < 1000 := by omega
        go_wp2_with fail
        have hFq : Fr (One db) w4 (w4.setCell ⟨db, 1, none⟩ (.int .i64 ((n : Int) + 1))) := Fr.setCell _ _ _ _ rfl
        have HSq := hide (HS4.out.self hX hFq (HS4.out.1.set1 (n + 1)))
        have HFq := hide ((HZ4.out.of0 (X := Ch db tv)).trans (hFq.mono (fun k _ e => .inl e)))
        generalize w4.setCell ⟨db, 1, none⟩ (.int .i64 ((n : Int) + 1)) = wq at *
        clear hFq k1 f1
        refine (HT.out wq X db (n + 1) false tv lv av rv tab HSq hX (fun b hb => Nat.lt_of_lt_of_le (HX b hb) HFq.out.size) hn1 (.inr (by omega)) (by omega)).mono ?_
        have hgr := rTyp_grows s f ⟨n + 1, false, tab⟩
        simp only at hgr
        generalize rTyp s f ⟨n + 1, false, tab⟩ = r at *
        rintro e w5 ⟨rfl, hF5, hn5, tv5, hD5, htv5⟩
        have HS5 := hide hD5
        have HTV5 := hide htv5
        have HF5 := hide (HFq.out.trans hF5)
        clear hF5 hD5 htv5
        go_wp2_with fail
        have HS6 := HS5
        have HF6 := HF5
        have hn6 := hn5
        have HLT : Hid (∀ b, X b → b < w5.heap.size) := fun b hb => Nat.lt_of_lt_of_le (HX b hb) HF6.out.size
        have HAV : Hid (¬ XO X tv5 w5.heap.size) := fun h => by
          rcases h with h | h
          · have := HLT.out _ h; omega
          · have := HS6.out.lt _ h; omega
        refine (add_any (HS6.out.keep0 (Fr.alloc _ _ _)) hX (by omega) 8 ⟨8, .slice (some ⟨w5.heap.size, 0, none⟩) 1 1, .slice none 0 0, .slice none 0 0⟩ ⟨8, [r.2], [], []⟩ rfl ⟨rfl, SL.one _ _ HAV, SL.nil _ _ _, SL.nil _ _ _⟩).mono ?_
        rintro e w7 ⟨rfl, hF7, tv7, hD7, htv7⟩
        have HS7 := hide hD7
        have HTV7 := hide htv7
        have HF7 := hide hF7
        clear hF7 hD7 htv7
        go_wp2_with fail
        go_ret
        rw [HR.out]
        refine ⟨rfl, ?_, hn6, tv7, HS7, fun g hg => ?_⟩
        · refine HF6.out.trans2 ((Fr.alloc _ _ _).trans HF7.out) (fun i hi hc => ?_)
          rcases hc with h | h
          · exact .inl h
          · rcases HTV5.out i h with h' | h'
            · exact .inr h'
            · have := HFq.out.size; omega
        · rcases HTV7.out g hg with h | h
          · rcases HTV5.out g h with h' | h'
            · exact .inl h'
            · have := HFq.out.size; exact .inr (by omega)
          · have := HF6.out.size; simp at h; exact .inr (by omega)
      · by_cases c3 : byteAt s n = 123
        · have y1 : Hid (rIs s n false 91 = false) := rIs_false c1
          have y2 : Hid (rIs s n false 63 = false) := rIs_false c2
          have y3 : Hid (rIs s n false 123 = true) := rIs_true c3
          have y4 : Hid (rIs s n false 60 = false) := rIs_false (by omega)
          have hn1 : n + 1 ≤ s.size := byteAt_in (by omega)
          have HR : Hid (rTyp s (f + 1) ⟨n, false, tab⟩ = rParts (rTyp s f) s 9 44 125 ⟨n, false, tab⟩) := by
            show _ = _
            simp only [rTyp]
            rw [if_neg (by simp), if_neg c1, if_neg c2, if_pos c3]
          clear c1 c2 c3
          go_enter Tryz.func168, Tryz.ntmps168
          go_wp2_with fail
          refine (is_any HS.out.1 hsm hle 91 91 rfl (by omega)).mono ?_
          rintro e w1 ⟨rfl, hw1⟩
          obtain ⟨hS1, hZ1⟩ := HS.out.drew hw1
          have HS1 := hide hS1
          have HZ1 : Hid (Fr Zero w w1) := (Fr.refl Zero w).trans hZ1
          rw [y1.out]
          clear hw1 hS1 hZ1
          go_wp2_with fail
          refine (is_any HS1.out.1 hsm hle 63 63 rfl (by omega)).mono ?_
          rintro e w2 ⟨rfl, hw2⟩
          obtain ⟨hS2, hZ2⟩ := HS1.out.drew hw2
          have HS2 := hide hS2
          have HZ2 : Hid (Fr Zero w w2) := HZ1.out.trans hZ2
          rw [y2.out]
          clear hw2 hS2 hZ2
          go_wp2_with fail
          refine (is_any HS2.out.1 hsm hle 123 123 rfl (by omega)).mono ?_
          rintro e w3 ⟨rfl, hw3⟩
          obtain ⟨hS3, hZ3⟩ := HS2.out.drew hw3
          have HS3 := hide hS3
          have HZ3 : Hid (Fr Zero w w3) := HZ2.out.trans hZ3
          rw [y3.out]
          clear hw3 hS3 hZ3
          go_wp2_with fail
          refine (is_any HS3.out.1 hsm hle 60 60 rfl (by omega)).mono ?_
          rintro e w4 ⟨rfl, hw4⟩
          obtain ⟨hS4, hZ4⟩ := HS3.out.drew hw4
          have HS4 := hide hS4
          have HZ4 : Hid (Fr Zero w w4) := HZ3.out.trans hZ4
          rw [y4.out]
          clear hw4 hS4 hZ4
          have k1 := HS4.out.1.at1
          have f1 := HS4.out.1.free 1
          have hn64 : (n : Int) < 1000 := by omega
          go_wp2_with fail
          refine (rparts_any HT HS4 hX (fun b hb => Nat.lt_of_lt_of_le (HX b hb) HZ4.out.size) hs hn1 hfu' hl 9 44 125 9 44 125 rfl rfl rfl (by omega) (by omega)).mono ?_
          generalize rParts (rTyp s f) s 9 44 125 ⟨n, false, tab⟩ = r at *
          intro e w5 hP
          obtain rfl := hP.1
          have HPO := hide (hP.after HZ4.out)
          clear hP k1 f1
          go_wp2_with fail
          go_ret
          rw [HR.out]
          exact HPO
        · by_cases c4 : byteAt s n = 60
          · have y1 : Hid (rIs s n false 91 = false) := rIs_false c1
            have y2 : Hid (rIs s n false 63 = false) := rIs_false c2
            have y3 : Hid (rIs s n false 123 = false) := rIs_false c3
            have y4 : Hid (rIs s n false 60 = true) := rIs_true c4
            have hn1 : n + 1 ≤ s.size := byteAt_in (by omega)
            have HR : Hid (rTyp s (f + 1) ⟨n, false, tab⟩ = rParts (rTyp s f) s 10 124 62 ⟨n, false, tab⟩) := by
              show _ = _
              simp only [rTyp]
              rw [if_neg (by simp), if_neg c1, if_neg c2, if_neg c3, if_pos c4]
            clear c1 c2 c3 c4
            go_enter Tryz.func168, Tryz.ntmps168
            go_wp2_with fail
            refine (is_any HS.out.1 hsm hle 91 91 rfl (by omega)).mono ?_
            rintro e w1 ⟨rfl, hw1⟩
            obtain ⟨hS1, hZ1⟩ := HS.out.drew hw1
            have HS1 := hide hS1
            have HZ1 : Hid (Fr Zero w w1) := (Fr.refl Zero w).trans hZ1
            rw [y1.out]
            clear hw1 hS1 hZ1
            go_wp2_with fail
            refine (is_any HS1.out.1 hsm hle 63 63 rfl (by omega)).mono ?_
            rintro e w2 ⟨rfl, hw2⟩
            obtain ⟨hS2, hZ2⟩ := HS1.out.drew hw2
            have HS2 := hide hS2
            have HZ2 : Hid (Fr Zero w w2) := HZ1.out.trans hZ2
            rw [y2.out]
            clear hw2 hS2 hZ2
            go_wp2_with fail
            refine (is_any HS2.out.1 hsm hle 123 123 rfl (by omega)).mono ?_
            rintro e w3 ⟨rfl, hw3⟩
            obtain ⟨hS3, hZ3⟩ := HS2.out.drew hw3
            have HS3 := hide hS3
            have HZ3 : Hid (Fr Zero w w3) := HZ2.out.trans hZ3
            rw [y3.out]
            clear hw3 hS3 hZ3
            go_wp2_with fail
            refine (is_any HS3.out.1 hsm hle 60 60 rfl (by omega)).mono ?_
            rintro e w4 ⟨rfl, hw4⟩
            obtain ⟨hS4, hZ4⟩ := HS3.out.drew hw4
            have HS4 := hide hS4
            have HZ4 : Hid (Fr Zero w w4) := HZ3.out.trans hZ4
            rw [y4.out]
            clear hw4 hS4 hZ4
            have k1 := HS4.out.1.at1
            have f1 := HS4.out.1.free 1
            have hn64 : (n : Int) < 1000 := by omega
            go_wp2_with fail
            refine (rparts_any HT HS4 hX (fun b hb => Nat.lt_of_lt_of_le (HX b hb) HZ4.out.size) hs hn1 hfu' hl 10 124 62 10 124 62 rfl rfl rfl (by omega) (by omega)).mono ?_
            generalize rParts (rTyp s f) s 10 124 62 ⟨n, false, tab⟩ = r at *
            intro e w5 hP
            obtain rfl := hP.1
            have HPO := hide (hP.after HZ4.out)
            clear hP k1 f1
            go_wp2_with fail
            go_ret
            rw [HR.out]
            exact HPO
          · have y1 : Hid (rIs s n false 91 = false) := rIs_false c1
            have y2 : Hid (rIs s n false 63 = false) := rIs_false c2
            have y3 : Hid (rIs s n false 123 = false) := rIs_false c3
            have y4 : Hid (rIs s n false 60 = false) := rIs_false c4
            have HR : Hid (rTyp s (f + 1) ⟨n, false, tab⟩ = match wordIdx (wordS s n false) with
                | some k => rAdd ⟨wordN s n false, wordB s n false, tab⟩ ⟨k, [], [], []⟩
                | none => rAdd ⟨wordN s n false, wordB s n false, tab⟩ ⟨11, [], [wordS s n false], [n]⟩) := by
              show _ = _
              simp only [rTyp]
              rw [if_neg (by simp), if_neg c1, if_neg c2, if_neg c3, if_neg c4]
            clear c1 c2 c3 c4
            go_enter Tryz.func168, Tryz.ntmps168
            go_wp2_with fail
            refine (is_any HS.out.1 hsm hle 91 91 rfl (by omega)).mono ?_
            rintro e w1 ⟨rfl, hw1⟩
            obtain ⟨hS1, hZ1⟩ := HS.out.drew hw1
            have HS1 := hide hS1
            have HZ1 : Hid (Fr Zero w w1) := (Fr.refl Zero w).trans hZ1
            rw [y1.out]
            clear hw1 hS1 hZ1
            go_wp2_with fail
            refine (is_any HS1.out.1 hsm hle 63 63 rfl (by omega)).mono ?_
            rintro e w2 ⟨rfl, hw2⟩
            obtain ⟨hS2, hZ2⟩ := HS1.out.drew hw2
            have HS2 := hide hS2
            have HZ2 : Hid (Fr Zero w w2) := HZ1.out.trans hZ2
            rw [y2.out]
            clear hw2 hS2 hZ2
            go_wp2_with fail
            refine (is_any HS2.out.1 hsm hle 123 123 rfl (by omega)).mono ?_
            rintro e w3 ⟨rfl, hw3⟩
            obtain ⟨hS3, hZ3⟩ := HS2.out.drew hw3
            have HS3 := hide hS3
            have HZ3 : Hid (Fr Zero w w3) := HZ2.out.trans hZ3
            rw [y3.out]
            clear hw3 hS3 hZ3
            go_wp2_with fail
            refine (is_any HS3.out.1 hsm hle 60 60 rfl (by omega)).mono ?_
            rintro e w4 ⟨rfl, hw4⟩
            obtain ⟨hS4, hZ4⟩ := HS3.out.drew hw4
            have HS4 := hide hS4
            have HZ4 : Hid (Fr Zero w w4) := HZ3.out.trans hZ4
            rw [y4.out]
            clear hw4 hS4 hZ4
            have k1 := HS4.out.1.at1
            have f1 := HS4.out.1.free 1
            have hn64 : (n : Int) < 1000 := by omega
            go_wp2_with fail
            clear k1 f1
            refine (word_any HS4.out.1 hsm hle).mono ?_
            rintro e w5 ⟨rfl, hF5, hD5, hn5⟩
            have HS5 := hide (HS4.out.self hX hF5 hD5)
            have HF5 := hide ((HZ4.out.of0 (X := Ch db tv)).trans (hF5.mono (fun k _ e => .inl e)))
            clear hF5 hD5
            generalize wordS s n false = nm at *
            go_wp2_with fail
            refine (wordKind_any nm _).mono ?_
            rintro e w6 ⟨rfl, hF6⟩
            have HS6 := hide (HS5.out.keep0 hF6)
            have HF6 := hide (HF5.out.trans hF6.of0)
            clear hF6
            have HLT : Hid (∀ b, X b → b < w6.heap.size) := fun b hb => Nat.lt_of_lt_of_le (HX b hb) HF6.out.size
            have HAV : Hid (∀ k, w6.heap.size ≤ k → ¬ XO X tv k) := fun k hk h => by
              rcases h with h | h
              · have := HLT.out _ h; omega
              · have := HS6.out.lt _ h; omega
            unfold kindOf
            rcases hk : wordIdx nm with _ | k
            · have HR2 : Hid (rTyp s (f + 1) ⟨n, false, tab⟩ = rAdd ⟨wordN s n false, wordB s n false, tab⟩ ⟨11, [], [nm], [n]⟩) := HR.out.trans (by rw [hk])
              clear hk HR
              go_wp2_with fail
              refine (add_any ((HS6.out.keep0 (Fr.alloc _ _ _)).keep0 (Fr.alloc _ _ _)) hX (by omega) 11 ⟨11, .slice none 0 0, .slice (some ⟨w6.heap.size, 0, none⟩) 1 1, .slice (some ⟨w6.heap.size + 1, 0, none⟩) 1 1⟩ ⟨11, [], [nm], [n]⟩ rfl ⟨rfl, SL.nil _ _ _, (SL.one _ _ (HAV _ (Nat.le_refl _))).keep (Fr.alloc _ _ _), SL.oneAt (by simp) _ _ (HAV _ (by omega))⟩).mono ?_
              rintro e w7 ⟨rfl, hF7, tv7, hD7, htv7⟩
              have HS7 := hide hD7
              have HTV7 := hide htv7
              have HF7 := hide hF7
              clear hF7 hD7 htv7
              go_wp2_with fail
              go_ret
              rw [HR2.out]
              refine ⟨rfl, HF6.out.trans ((Fr.alloc _ _ _).trans ((Fr.alloc _ _ _).trans HF7.out)), hn5, tv7, HS7, fun g hg => ?_⟩
              rcases HTV7.out g hg with h | h
              · exact .inl h
              · have := HF6.out.size; simp at h; exact .inr (by omega)
            · have hk7 := (wordIdx_some hk).1
              have HR2 : Hid (rTyp s (f + 1) ⟨n, false, tab⟩ = rAdd ⟨wordN s n false, wordB s n false, tab⟩ ⟨k, [], [], []⟩) := HR.out.trans (by rw [hk])
              have hk0 : (0 : Int) ≤ (k : Int) := by omega
              clear hk HR
              go_wp2_with fail
              refine (add_any HS6.out hX (by omega) k ⟨k, .slice none 0 0, .slice none 0 0, .slice none 0 0⟩ ⟨k, [], [], []⟩ rfl ⟨rfl, SL.nil _ _ _, SL.nil _ _ _, SL.nil _ _ _⟩).mono ?_
              rintro e w7 ⟨rfl, hF7, tv7, hD7, htv7⟩
              have HS7 := hide hD7
              have HTV7 := hide htv7
              have HF7 := hide hF7
              clear hF7 hD7 htv7
              go_wp2_with fail
              go_ret
              rw [HR2.out]
              refine ⟨rfl, HF6.out.trans HF7.out, hn5, tv7, HS7, fun g hg => ?_⟩
              rcases HTV7.out g hg with h | h
              · exact .inl h
              · have := HF6.out.size; exact .inr (by omega)

theorem rtyp_all {s : ByteArray} (hs : s.size ≤ 400) : ∀ f, RTypSaid s (f + 1) := by
  intro f
  induction f with
  | zero =>
    refine rtyp_step ?_ hs
    intro w X db n bad tv lv av rv tab h hX hXlt hle hfu hl
    rcases hfu with h' | h'
    · subst h'
      exact rtyp_bad h hle
    · omega
  | succ f ih => exact rtyp_step ih hs

end Go.Proofs.YtnhkalnihjkoeaaGreatDoor
