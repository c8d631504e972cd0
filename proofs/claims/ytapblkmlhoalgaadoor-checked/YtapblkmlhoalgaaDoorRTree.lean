/- The other reader's types, as it reads them; a row of the table while it grows. -/
import Derived.Test.YtapblkmlhoalgaaDoorRAdd
namespace Go.Proofs.YtapblkmlhoalgaaDoor
open Go.RowKit

structure RS where
  n : Nat
  bad : Bool
  tab : List RT

def rMust (s : ByteArray) (c : Nat) (st : RS) : RS := ⟨mustN s st.n st.bad c, mustB s st.n st.bad c, st.tab⟩
def rAdd (st : RS) (t : RT) : RS × Nat := (⟨st.n, st.bad, st.tab ++ [t]⟩, st.tab.length)

def rLoop (rd : RS → RS × Nat) (s : ByteArray) (btw : Nat) : Nat → RT → RS → RT × RS
  | 0, t, st => (t, st)
  | k + 1, t, st =>
    let r := rd (rMust s 58 ⟨wordN s (st.n + 1) false, nameB s (st.n + 1) false, st.tab⟩)
    let t' : RT := ⟨t.kind, t.of ++ [r.2], t.names ++ [wordS s (st.n + 1) false], t.ats ++ [st.n + 1]⟩
    if rIs s r.1.n r.1.bad btw = true ∧ t.of.length + 1 ≠ 6 then rLoop rd s btw k t' r.1 else (t', r.1)

def rParts (rd : RS → RS × Nat) (s : ByteArray) (kind btw close : Nat) (st : RS) : RS × Nat :=
  rAdd (rMust s close (rLoop rd s btw 6 ⟨kind, [], [], []⟩ st).2) (rLoop rd s btw 6 ⟨kind, [], [], []⟩ st).1

def rTyp (s : ByteArray) : Nat → RS → RS × Nat
  | 0 => fun st => (st, 0)
  | f + 1 => fun st =>
    if st.bad then (st, 0) else
    if byteAt s st.n = 91 then rAdd (rMust s 93 (rTyp s f ⟨st.n + 1, false, st.tab⟩).1) ⟨7, [(rTyp s f ⟨st.n + 1, false, st.tab⟩).2], [], []⟩
    else if byteAt s st.n = 63 then rAdd (rTyp s f ⟨st.n + 1, false, st.tab⟩).1 ⟨8, [(rTyp s f ⟨st.n + 1, false, st.tab⟩).2], [], []⟩
    else if byteAt s st.n = 123 then rParts (rTyp s f) s 9 44 125 st
    else if byteAt s st.n = 60 then rParts (rTyp s f) s 10 124 62 st
    else match wordIdx (wordS s st.n false) with
      | some k => rAdd ⟨wordN s st.n false, wordB s st.n false, st.tab⟩ ⟨k, [], [], []⟩
      | none => rAdd ⟨wordN s st.n false, wordB s st.n false, st.tab⟩ ⟨11, [], [wordS s st.n false], [st.n]⟩

/-! ### Places only go on, and there are not more types than places -/
theorem mustN_ge (s : ByteArray) (n : Nat) (bad : Bool) (c : Nat) : n ≤ mustN s n bad c := by unfold mustN; split <;> omega
theorem wordN_ge (s : ByteArray) (n : Nat) (bad : Bool) : n ≤ wordN s n bad := by
  unfold wordN
  have := lettersTo_ge s 6 n
  split <;> omega

/-- What a reader of types must keep: the place goes on, and the table grows no faster. -/
def Grows (rd : RS → RS × Nat) : Prop := ∀ st, st.n ≤ (rd st).1.n ∧ (rd st).1.tab.length + st.n ≤ st.tab.length + (rd st).1.n + 1

theorem rLoop_grows (rd : RS → RS × Nat) (hrd : Grows rd) (s : ByteArray) (btw : Nat) : ∀ (k : Nat) (t : RT) (st : RS), st.n ≤ (rLoop rd s btw k t st).2.n ∧ (rLoop rd s btw k t st).2.tab.length + st.n ≤ st.tab.length + (rLoop rd s btw k t st).2.n := by
  intro k
  induction k with
  | zero => intro t st; exact ⟨Nat.le_refl _, Nat.le_refl _⟩
  | succ k ih =>
    intro t st
    have h1 := hrd (rMust s 58 ⟨wordN s (st.n + 1) false, nameB s (st.n + 1) false, st.tab⟩)
    have h2 := mustN_ge s (wordN s (st.n + 1) false) (nameB s (st.n + 1) false) 58
    have h3 := wordN_ge s (st.n + 1) false
    have e : rLoop rd s btw (k + 1) t st = if rIs s (rd (rMust s 58 ⟨wordN s (st.n + 1) false, nameB s (st.n + 1) false, st.tab⟩)).1.n (rd (rMust s 58 ⟨wordN s (st.n + 1) false, nameB s (st.n + 1) false, st.tab⟩)).1.bad btw = true ∧ t.of.length + 1 ≠ 6 then
        rLoop rd s btw k ⟨t.kind, t.of ++ [(rd (rMust s 58 ⟨wordN s (st.n + 1) false, nameB s (st.n + 1) false, st.tab⟩)).2], t.names ++ [wordS s (st.n + 1) false], t.ats ++ [st.n + 1]⟩ (rd (rMust s 58 ⟨wordN s (st.n + 1) false, nameB s (st.n + 1) false, st.tab⟩)).1
        else (⟨t.kind, t.of ++ [(rd (rMust s 58 ⟨wordN s (st.n + 1) false, nameB s (st.n + 1) false, st.tab⟩)).2], t.names ++ [wordS s (st.n + 1) false], t.ats ++ [st.n + 1]⟩, (rd (rMust s 58 ⟨wordN s (st.n + 1) false, nameB s (st.n + 1) false, st.tab⟩)).1) := rfl
    rw [e]
    have e1 : (rMust s 58 ⟨wordN s (st.n + 1) false, nameB s (st.n + 1) false, st.tab⟩).n = mustN s (wordN s (st.n + 1) false) (nameB s (st.n + 1) false) 58 := rfl
    have e2 : (rMust s 58 ⟨wordN s (st.n + 1) false, nameB s (st.n + 1) false, st.tab⟩).tab = st.tab := rfl
    rw [e1, e2] at h1
    clear e e1 e2
    generalize rd (rMust s 58 ⟨wordN s (st.n + 1) false, nameB s (st.n + 1) false, st.tab⟩) = r at *
    by_cases hc : rIs s r.1.n r.1.bad btw = true ∧ t.of.length + 1 ≠ 6
    · rw [if_pos hc]
      have h4 := ih ⟨t.kind, t.of ++ [r.2], t.names ++ [wordS s (st.n + 1) false], t.ats ++ [st.n + 1]⟩ r.1
      omega
    · rw [if_neg hc]
      show st.n ≤ r.1.n ∧ r.1.tab.length + st.n ≤ st.tab.length + r.1.n
      omega

theorem rParts_grows (rd : RS → RS × Nat) (hrd : Grows rd) (s : ByteArray) (kind btw close : Nat) (st : RS) : st.n ≤ (rParts rd s kind btw close st).1.n ∧ (rParts rd s kind btw close st).1.tab.length + st.n ≤ st.tab.length + (rParts rd s kind btw close st).1.n + 1 := by
  have h := rLoop_grows rd hrd s btw 6 ⟨kind, [], [], []⟩ st
  unfold rParts rAdd rMust
  have h2 := mustN_ge s (rLoop rd s btw 6 ⟨kind, [], [], []⟩ st).2.n (rLoop rd s btw 6 ⟨kind, [], [], []⟩ st).2.bad close
  simp only [List.length_append, List.length_cons, List.length_nil]
  omega

theorem rTyp_grows (s : ByteArray) : ∀ f, Grows (rTyp s f) := by
  intro f
  induction f with
  | zero => intro st; exact ⟨Nat.le_refl _, Nat.le_succ _⟩
  | succ f ih =>
    intro st
    have h1 := ih ⟨st.n + 1, false, st.tab⟩
    simp only at h1
    simp only [rTyp]
    split
    · exact ⟨Nat.le_refl _, Nat.le_succ _⟩
    · split
      · have h2 := mustN_ge s (rTyp s f ⟨st.n + 1, false, st.tab⟩).1.n (rTyp s f ⟨st.n + 1, false, st.tab⟩).1.bad 93
        simp only [rAdd, rMust, List.length_append, List.length_cons, List.length_nil]
        omega
      · split
        · simp only [rAdd, List.length_append, List.length_cons, List.length_nil]
          omega
        · split
          · exact rParts_grows _ ih s 9 44 125 st
          · split
            · exact rParts_grows _ ih s 10 124 62 st
            · have h3 := wordN_ge s st.n false
              split <;> (simp only [rAdd, List.length_append, List.length_cons, List.length_nil]; omega)

/-! ### The reader and its table, behind other writes -/
theorem DS.other {w w' : World} {X Y : Nat → Prop} {db : Nat} {s : ByteArray} {n : Nat} {bad : Bool} {tv lv av rv : Value} {tab : List RT} (h : DS w X db s n bad tv lv av rv tab) (hf : Fr Y w w') (hyx : ∀ k, Y k → X k) (hyd : ¬ Y db) (hyt : ∀ g, tv.ownBlock = some g → ¬ Y g) : DS w' X db s n bad tv lv av rv tab := by
  obtain ⟨hD, rows, hO, hT⟩ := h
  exact ⟨hf.keep hD hyd, rows, ownsRow_keep hO hf hyt, hT.keep (hf.mono (fun k _ hk => .inl (hyx k hk)))⟩

theorem DS.self {w w' : World} {X : Nat → Prop} {db : Nat} {s : ByteArray} {n m : Nat} {bad bad' : Bool} {tv lv av rv : Value} {tab : List RT} (h : DS w X db s n bad tv lv av rv tab) (hX : X db) (hf : Fr (One db) w w') (hD' : DB w' db s m bad' tv lv av rv) : DS w' X db s m bad' tv lv av rv tab := by
  obtain ⟨hD, rows, hO, hT⟩ := h
  exact ⟨hD', rows, ownsRow_keep hO hf (fun g hg e => owned_neD hD hO (by decide) g hg e), hT.keep (hf.mono (fun k _ hk => by have e : k = db := hk; rw [e]; exact .inl hX))⟩

theorem DS.keep0 {w w' : World} {X : Nat → Prop} {db : Nat} {s : ByteArray} {n : Nat} {bad : Bool} {tv lv av rv : Value} {tab : List RT} (h : DS w X db s n bad tv lv av rv tab) (hf : Fr Zero w w') : DS w' X db s n bad tv lv av rv tab :=
  h.other (Y := Zero) hf (fun _ h => h.elim) (fun h => h) (fun _ _ h => h)

theorem DS.avoid {w : World} {X Y : Nat → Prop} {db : Nat} {s : ByteArray} {n : Nat} {bad : Bool} {tv lv av rv : Value} {tab : List RT} (h : DS w X db s n bad tv lv av rv tab) (hxy : ∀ b, b < w.heap.size → Y b → X b) : DS w Y db s n bad tv lv av rv tab := by
  obtain ⟨hD, rows, hO, hT⟩ := h
  refine ⟨hD, rows, hO, hT.avoid (fun b hb hy => ?_)⟩
  rcases hy with hy | hy
  · exact .inl (hxy b hb hy)
  · exact .inr hy

theorem DS.grow {w w' : World} {X Y : Nat → Prop} {db : Nat} {s : ByteArray} {n : Nat} {bad : Bool} {tv lv av rv : Value} {tab : List RT} {vb : Option Nat} (h : DS w X db s n bad tv lv av rv tab) (hg : w.grownBy w' vb) (hvb : ∀ k, vb = some k → X k ∧ k ≠ db ∧ tv.ownBlock ≠ some k) (hY : ∀ b, Y b → X b ∨ w.heap.size ≤ b) : DS w' Y db s n bad tv lv av rv tab := by
  obtain ⟨hD, rows, hO, hT⟩ := h
  have hf : Fr (fun k => vb = some k) w w' := Fr.grown hg (fun k e _ => e)
  refine ⟨hf.keep hD (fun e => (hvb db e).2.1 rfl), rows, ownsRow_keep hO hf (fun g hg' e => (hvb g e).2.2 hg'), ?_⟩
  have h1 : TabR w (fun b => XO X tv b ∨ w.heap.size ≤ b) rows tab := hT.avoid (fun b hb h => by
    rcases h with h | h
    · exact h
    · omega)
  have h2 := h1.keep (w' := w') (hf.mono (fun k _ e => .inl (.inl (hvb k e).1)))
  refine h2.avoid (fun b _ hy => ?_)
  rcases hy with hy | hy
  · rcases hY b hy with h | h
    · exact .inl (.inl h)
    · exact .inr h
  · exact .inl (.inr hy)

theorem DS.tvne {w : World} {X : Nat → Prop} {db : Nat} {s : ByteArray} {n : Nat} {bad : Bool} {tv lv av rv : Value} {tab : List RT} (h : DS w X db s n bad tv lv av rv tab) {v : Value} {base k size : Nat} {e : TypeId} {xs : List Value} (ho : w.ownsRow base e size v k xs) (he : e ≠ 56) : ∀ g, v.ownBlock = some g → tv.ownBlock ≠ some g := by
  intro g hg ht
  obtain ⟨hD, rows, hO, hT⟩ := h
  obtain ⟨c1, h1⟩ := own_type ho hg
  obtain ⟨c2, h2⟩ := own_type hO ht
  rw [h1] at h2
  simp at h2
  exact he h2.2

theorem DS.lt {w : World} {X : Nat → Prop} {db : Nat} {s : ByteArray} {n : Nat} {bad : Bool} {tv lv av rv : Value} {tab : List RT} (h : DS w X db s n bad tv lv av rv tab) : ∀ g, tv.ownBlock = some g → g < w.heap.size := by
  obtain ⟨hD, rows, hO, hT⟩ := h
  exact fun g hg => (hO.lt g hg).2

/-- A row of the table while it grows: a struct in memory and its three slices. -/
structure TB (w : World) (B tb : Nat) (t : RT) (o nv a : Value) : Prop where
  box : w.heap[tb]? = some (.cells #[.int .i64 t.kind, o, nv, a] 56 (0, 0))
  so : w.ownsRow 0 3 1 o t.of.length (ints t.of)
  sn : w.ownsRow 0 9 1 nv t.names.length (texts t.names)
  sa : w.ownsRow 0 3 1 a t.ats.length (ints t.ats)
  ne : ∀ g, o.ownBlock = some g → a.ownBlock ≠ some g
  base : B ≤ tb ∧ ∀ g, (o.ownBlock = some g ∨ nv.ownBlock = some g ∨ a.ownBlock = some g) → B ≤ g

def XT (X : Nat → Prop) (tb : Nat) (o nv a : Value) : Nat → Prop := fun k => X k ∨ k = tb ∨ o.ownBlock = some k ∨ nv.ownBlock = some k ∨ a.ownBlock = some k

theorem TB.tbne {w : World} {B tb : Nat} {t : RT} {o nv a : Value} (h : TB w B tb t o nv a) : ∀ g, (o.ownBlock = some g ∨ nv.ownBlock = some g ∨ a.ownBlock = some g) → g ≠ tb := by
  intro g hg e
  subst e
  have hb := h.box
  rcases hg with hg | hg | hg
  · obtain ⟨c, hh⟩ := own_type h.so hg; rw [hb] at hh; simp at hh
  · obtain ⟨c, hh⟩ := own_type h.sn hg; rw [hb] at hh; simp at hh
  · obtain ⟨c, hh⟩ := own_type h.sa hg; rw [hb] at hh; simp at hh

theorem TB.lt {w : World} {B tb : Nat} {t : RT} {o nv a : Value} (h : TB w B tb t o nv a) : ∀ g, (g = tb ∨ o.ownBlock = some g ∨ nv.ownBlock = some g ∨ a.ownBlock = some g) → g < w.heap.size := by
  rintro g (rfl | hg | hg | hg)
  · exact lt_of_heap h.box
  · exact (h.so.lt g hg).2
  · exact (h.sn.lt g hg).2
  · exact (h.sa.lt g hg).2

theorem TB.keep {w w' : World} {Y : Nat → Prop} {B tb : Nat} {t : RT} {o nv a : Value} (h : TB w B tb t o nv a) (hf : Fr Y w w') (hy : ∀ g, (g = tb ∨ o.ownBlock = some g ∨ nv.ownBlock = some g ∨ a.ownBlock = some g) → ¬ Y g) : TB w' B tb t o nv a :=
  ⟨hf.keep h.box (hy tb (.inl rfl)), ownsRow_keep h.so hf (fun g hg => hy g (.inr (.inl hg))), ownsRow_keep h.sn hf (fun g hg => hy g (.inr (.inr (.inl hg)))), ownsRow_keep h.sa hf (fun g hg => hy g (.inr (.inr (.inr hg)))), h.ne, h.base⟩

end Go.Proofs.YtapblkmlhoalgaaDoor
