/- How the reference's table of types is looked into. The reference's reader of messages in memory. The reference's reader takes bytes and counts. -/
import Derived.Test.YtnhkalnihjkoeaaGreatDoorGtVOut
import Derived.Test.YtnhkalnihjkoeaaGreatDoorGtDPure
import Derived.Test.YtnhkalnihjkoeaaGreatDoorGtPure
namespace Go.Proofs.YtnhkalnihjkoeaaGreatDoor
open Go.RowKit

/-- A description in memory, all of it below B. -/
def DF (w : World) (B db : Nat) (tab : List RT) (roots : List Nat) : Prop :=
  ∃ (w0 : World) (X : Nat → Prop) (s : ByteArray) (n : Nat) (tv lv av rv : Value) (lines : List ByteArray) (ats : List Nat) (B0 : Nat), w0.heap.size ≤ B ∧ Fr (From B) w0 w ∧ DS w0 X db s n false tv lv av rv tab ∧ LD w0 B0 lv av rv lines ats roots

theorem DF.keep {w w' : World} {B db : Nat} {tab : List RT} {roots : List Nat} (h : DF w B db tab roots) (hf : Fr (From B) w w') : DF w' B db tab roots := by
  obtain ⟨w0, X, s, n, tv, lv, av, rv, lines, ats, B0, h1, h2, h3, h4⟩ := h
  exact ⟨w0, X, s, n, tv, lv, av, rv, lines, ats, B0, h1, h2.trans hf, h3, h4⟩

theorem Fr.cellB {w0 w : World} {B : Nat} (hB : w0.heap.size ≤ B) (hf : Fr (From B) w0 w) {a : Addr} {v : Value} (h : w0.cell? a = some v) : w.cell? a = some v := by
  have hl := World.block_lt_of_cell? w0 _ h
  rw [hf.cell hl (fun e => by unfold From at e; omega)]
  exact h

theorem DF.row {w : World} {B db : Nat} {tab : List RT} {roots : List Nat} (h : DF w B db tab roots) {x : Nat} (hx : x < tab.length) :
    ∃ (g cap : Nat) (o nv a : Value), w.cell? ⟨db, 2, none⟩ = some (.slice (some ⟨g, 0, none⟩) tab.length cap) ∧ w.cell? ⟨g, x * 4, none⟩ = some (.int .i64 (rowAt tab x).kind) ∧ w.cell? ⟨g, x * 4 + 1, none⟩ = some o ∧ w.cell? ⟨g, x * 4 + 2, none⟩ = some nv ∧ w.cell? ⟨g, x * 4 + 3, none⟩ = some a ∧
      RTR w (From B) ⟨(rowAt tab x).kind, o, nv, a⟩ (rowAt tab x) := by
  obtain ⟨w0, X, s, n, tv, lv, av, rv, lines, ats, B0, h1, h2, h3, h4⟩ := h
  obtain ⟨g, cap, o, nv, a, e1, e2, e3, e4, e5, e6, _⟩ := h3.row hx
  have c2 := h3.1.at2
  rw [e1] at c2
  exact ⟨g, cap, o, nv, a, h2.cellB h1 c2, h2.cellB h1 e2, h2.cellB h1 e3, h2.cellB h1 e4, h2.cellB h1 e5, (e6.avoid (Y := From B) (fun b hb hy => by unfold From at hy; omega)).keep h2⟩

theorem DF.root {w : World} {B db : Nat} {tab : List RT} {roots : List Nat} (h : DF w B db tab roots) (hp : 0 < roots.length) :
    ∃ (g cap : Nat), w.cell? ⟨db, 5, none⟩ = some (.slice (some ⟨g, 0, none⟩) roots.length cap) ∧ ∀ i, i < roots.length → w.cell? ⟨g, i, none⟩ = some (.int .i64 (numAt roots i : Nat)) := by
  obtain ⟨w0, X, s, n, tv, lv, av, rv, lines, ats, B0, h1, h2, h3, h4⟩ := h
  have hs := h4.sr
  have c5 := h3.1.at5
  rcases hs.2 with ⟨_, hz⟩ | ⟨g, cap, cur, hv, _⟩
  · omega
  · subst hv
    exact ⟨g, cap, h2.cellB h1 c5, fun i hi => h2.cellB h1 ((sl_cell hs hi).trans (numsI _ i hi))⟩

/-- What a row of a table stands for, that is no name. -/
structure IsRow (tab : List RT) (row : RT) (t : PT) : Prop where
  kind : row.kind = t.kind
  no : row.kind ≠ 11
  nms : namesR row = t.names
  len : row.of.length = t.subs.length
  nml : 9 ≤ row.kind → row.names.length = row.of.length
  sub : ∀ i, i < t.subs.length → Is tab (numAt row.of i) (t.sub i)

theorem Is.lt {tab : List RT} {x : Nat} {t : PT} (h : Is tab x t) : x < tab.length := by cases h <;> assumption

end Go.Proofs.YtnhkalnihjkoeaaGreatDoor

namespace Go.Proofs.YtnhkalnihjkoeaaGreatDoor
open Go.RowKit

def numCells (l : List (Bs × Int)) : List Value := l.flatMap fun p => [.string (ba p.1), .int .i64 p.2]
def wayCells (l : List (Bs × Bs)) : List Value := l.flatMap fun p => [.string (ba p.1), .string (ba p.2)]

theorem numCells_snoc (l : List (Bs × Int)) (p : Bs × Int) : numCells (l ++ [p]) = numCells l ++ [.string (ba p.1), .int .i64 p.2] := by simp [numCells]
theorem wayCells_snoc (l : List (Bs × Bs)) (p : Bs × Bs) : wayCells (l ++ [p]) = wayCells l ++ [.string (ba p.1), .string (ba p.2)] := by simp [wayCells]
theorem wayCells_length (l : List (Bs × Bs)) : (wayCells l).length = l.length * 2 := by
  induction l with
  | nil => rfl
  | cons p l ih => simp only [wayCells, List.flatMap_cons, List.length_append, List.length_cons, List.length_nil] at ih ⊢; omega
theorem wayCells_app (a b : List (Bs × Bs)) : wayCells (a ++ b) = wayCells a ++ wayCells b := by simp [wayCells]

/-- The reader's block: what is left, whether it can stand. -/
structure KB (w : World) (tb db : Nat) (s : ByteArray) (l : Bs) (bad : Bool) (nv wv : Value) : Prop where
  len : l.length ≤ s.size
  tail : tl s (pos s l) = l
  block : w.heap[tb]? = some (.cells #[.pointer (some ⟨db, 0, none⟩), .string s, .int .i64 (pos s l), .bool bad, nv, wv] 123 (0, 0))

section
variable {w w' : World} {tb db : Nat} {s : ByteArray} {l : Bs} {bad : Bool} {nv wv : Value}
theorem KB.at0 (h : KB w tb db s l bad nv wv) : w.cell? ⟨tb, 0, none⟩ = some (.pointer (some ⟨db, 0, none⟩)) := by rw [cell_of_heap h.block]; rfl
theorem KB.at1 (h : KB w tb db s l bad nv wv) : w.cell? ⟨tb, 1, none⟩ = some (.string s) := by rw [cell_of_heap h.block]; rfl
theorem KB.at2 (h : KB w tb db s l bad nv wv) : w.cell? ⟨tb, 2, none⟩ = some (.int .i64 (pos s l)) := by rw [cell_of_heap h.block]; rfl
theorem KB.at3 (h : KB w tb db s l bad nv wv) : w.cell? ⟨tb, 3, none⟩ = some (.bool bad) := by rw [cell_of_heap h.block]; rfl
theorem KB.at4 (h : KB w tb db s l bad nv wv) : w.cell? ⟨tb, 4, none⟩ = some nv := by rw [cell_of_heap h.block]; rfl
theorem KB.at5 (h : KB w tb db s l bad nv wv) : w.cell? ⟨tb, 5, none⟩ = some wv := by rw [cell_of_heap h.block]; rfl
theorem KB.free (h : KB w tb db s l bad nv wv) (o : Nat) : w.frozen? ⟨tb, o, none⟩ = false := free_of_heap h.block
theorem KB.lt (h : KB w tb db s l bad nv wv) : tb < w.heap.size := lt_of_heap h.block
theorem KB.keep (h : KB w tb db s l bad nv wv) {X : Nat → Prop} (hf : Fr X w w') (hx : ¬ X tb) : KB w' tb db s l bad nv wv := ⟨h.len, h.tail, hf.keep h.block hx⟩
theorem KB.posle (_h : KB w tb db s l bad nv wv) : pos s l ≤ s.size := Nat.sub_le _ _
theorem KB.next {b : UInt8} {r : Bs} (h : KB w tb db s (b :: r) bad nv wv) : pos s (b :: r) < s.size ∧ pos s r = pos s (b :: r) + 1 ∧ tl s (pos s r) = r ∧ (∀ hn : pos s (b :: r) < s.size, s[pos s (b :: r)] = b) := by
  have hl := h.len
  have ht := h.tail
  simp only [List.length_cons] at hl
  have hp : pos s (b :: r) < s.size := by simp only [pos, List.length_cons]; omega
  have hp1 : pos s r = pos s (b :: r) + 1 := by simp only [pos, List.length_cons]; omega
  rw [tl_cons hp] at ht
  simp only [List.cons.injEq] at ht
  exact ⟨hp, hp1, by rw [hp1]; exact ht.2, fun _ => ht.1⟩
theorem KB.end (h : KB w tb db s [] bad nv wv) : pos s [] = s.size := by have := h.len; simp [pos]
theorem KB.move {r : Bs} (h : KB w tb db s l bad nv wv) (hl : r.length ≤ s.size) (ht : tl s (pos s r) = r) : KB (w.setCell ⟨tb, 2, none⟩ (.int .i64 (pos s r))) tb db s r bad nv wv := by
  refine ⟨hl, ht, ?_⟩
  rw [heap_setCell_same h.block]; rfl
theorem KB.mark (h : KB w tb db s l bad nv wv) (b : Bool) : KB (w.setCell ⟨tb, 3, none⟩ (.bool b)) tb db s l b nv wv := by
  refine ⟨h.len, h.tail, ?_⟩
  rw [heap_setCell_same h.block]; rfl
theorem KB.nums (h : KB w tb db s l bad nv wv) (v : Value) : KB (w.setCell ⟨tb, 4, none⟩ v) tb db s l bad v wv := by
  refine ⟨h.len, h.tail, ?_⟩
  rw [heap_setCell_same h.block]; rfl
theorem KB.ways (h : KB w tb db s l bad nv wv) (v : Value) : KB (w.setCell ⟨tb, 5, none⟩ v) tb db s l bad nv v := by
  refine ⟨h.len, h.tail, ?_⟩
  rw [heap_setCell_same h.block]; rfl
end

/-- The reader, and what it has told: all from B on. -/
def KS (w : World) (B tb db : Nat) (s : ByteArray) (l : Bs) (bad : Bool) (nums : List (Bs × Int)) (ways : List (Bs × Bs)) : Prop :=
  ∃ nv wv, KB w tb db s l bad nv wv ∧ B ≤ tb ∧ w.ownsRow B 141 2 nv nums.length (numCells nums) ∧ w.ownsRow B 119 2 wv ways.length (wayCells ways)

theorem own_ne {w : World} {base k n : Nat} {e ty : TypeId} {v : Value} {xs : List Value} {tb : Nat} {cs : Array Value} {fz : Nat × Nat} (h : w.ownsRow base e k v n xs) (hb : w.heap[tb]? = some (.cells cs ty fz)) (hne : e ≠ ty) : v.ownBlock ≠ some tb := fun hg => by
  rcases h.2 with ⟨rfl, _⟩ | ⟨g, cap, cur, rfl, _, hg2, _⟩
  · simp [Value.ownBlock] at hg
  · simp [Value.ownBlock] at hg
    subst hg
    rw [hb] at hg2
    simp at hg2
    exact hne hg2.2.1.symm

/-- The reader's own cells may be written; what it has told stays. -/
theorem KS.cells {w w' : World} {B tb db : Nat} {s : ByteArray} {l r : Bs} {bad bad' : Bool} {nums : List (Bs × Int)} {ways : List (Bs × Bs)} (h : KS w B tb db s l bad nums ways)
    (hk : ∀ nv wv, KB w tb db s l bad nv wv → KB w' tb db s r bad' nv wv) (hf : Fr (One tb) w w') : KS w' B tb db s r bad' nums ways := by
  obtain ⟨nv, wv, h1, h2, h3, h4⟩ := h
  exact ⟨nv, wv, hk nv wv h1, h2, ownsRow_keep h3 hf (fun g hg e => own_ne h3 h1.block (by decide) (by rw [hg]; exact congrArg some e)), ownsRow_keep h4 hf (fun g hg e => own_ne h4 h1.block (by decide) (by rw [hg]; exact congrArg some e))⟩

/-- What a call of the reader may write: its own block, what it has told. -/
def KX (w : World) (tb : Nat) : Nat → Prop := fun k => k = tb ∨ (∃ v, w.cell? ⟨tb, 4, none⟩ = some v ∧ v.ownBlock = some k) ∨ (∃ v, w.cell? ⟨tb, 5, none⟩ = some v ∧ v.ownBlock = some k)
structure KFr (tb : Nat) (w w' : World) : Prop where
  fr : Fr (KX w tb) w w'
  own : ∀ k, k < w.heap.size → KX w' tb k → KX w tb k
theorem KFr.refl (tb : Nat) (w : World) : KFr tb w w := ⟨Fr.refl _ _, fun _ _ h => h⟩
theorem KFr.trans {tb : Nat} {a b c : World} (h : KFr tb a b) (k : KFr tb b c) : KFr tb a c :=
  ⟨⟨k.fr.os.trans h.fr.os, k.fr.tape.trans h.fr.tape, k.fr.output.trans h.fr.output, Nat.le_trans h.fr.size k.fr.size, fun i hi hx => (k.fr.block i (Nat.lt_of_lt_of_le hi h.fr.size) (fun e => hx (h.own i hi e))).trans (h.fr.block i hi hx)⟩,
    fun i hi e => h.own i hi (k.own i (Nat.lt_of_lt_of_le hi h.fr.size) e)⟩
theorem KX.same {w w' : World} {tb : Nat} (h4 : w'.cell? ⟨tb, 4, none⟩ = w.cell? ⟨tb, 4, none⟩) (h5 : w'.cell? ⟨tb, 5, none⟩ = w.cell? ⟨tb, 5, none⟩) (k : Nat) : KX w' tb k ↔ KX w tb k := by
  unfold KX; rw [h4, h5]
/-- Nothing of the reader is written. -/
theorem KFr.quiet {tb : Nat} {w w' : World} (hf : Fr Zero w w') (hb : tb < w.heap.size) : KFr tb w w' :=
  ⟨hf.of0, fun k _ h => (KX.same (hf.cell hb (fun h => h)) (hf.cell hb (fun h => h)) k).1 h⟩
/-- The reader's own cells are written, but not those of what it has told. -/
theorem KFr.cells {tb db db' : Nat} {w w' : World} {s s' : ByteArray} {l r : Bs} {bad bad' : Bool} {nv wv : Value} (h : KB w tb db s l bad nv wv) (h' : KB w' tb db' s' r bad' nv wv) (hf : Fr (One tb) w w') : KFr tb w w' :=
  ⟨hf.mono (fun _k _ e => .inl e), fun k _ e => (KX.same (h'.at4.trans h.at4.symm) (h'.at5.trans h.at5.symm) k).1 e⟩
theorem KX.of {w : World} {tb db : Nat} {s : ByteArray} {l : Bs} {bad : Bool} {nv wv : Value} (h : KB w tb db s l bad nv wv) {k : Nat} (hk : KX w tb k) : k = tb ∨ nv.ownBlock = some k ∨ wv.ownBlock = some k := by
  rcases hk with e | ⟨v, e1, e2⟩ | ⟨v, e1, e2⟩
  · exact .inl e
  · rw [h.at4] at e1; simp at e1; subst e1; exact .inr (.inl e2)
  · rw [h.at5] at e1; simp at e1; subst e1; exact .inr (.inr e2)
theorem KS.from {w : World} {B tb db : Nat} {s : ByteArray} {l : Bs} {bad : Bool} {nums : List (Bs × Int)} {ways : List (Bs × Bs)} (h : KS w B tb db s l bad nums ways) {k : Nat} (hk : KX w tb k) : B ≤ k := by
  obtain ⟨nv, wv, h1, h2, h3, h4⟩ := h
  rcases KX.of h1 hk with e | e | e
  · omega
  · exact (h3.lt k e).1
  · exact (h4.lt k e).1
theorem KS.fromB {w w' : World} {B tb db : Nat} {s : ByteArray} {l : Bs} {bad : Bool} {nums : List (Bs × Int)} {ways : List (Bs × Bs)} (h : KS w B tb db s l bad nums ways) (hf : KFr tb w w') : Fr (From B) w w' :=
  hf.fr.mono (fun _ _ e => h.from e)
theorem KS.lt {w : World} {B tb db : Nat} {s : ByteArray} {l : Bs} {bad : Bool} {nums : List (Bs × Int)} {ways : List (Bs × Bs)} (h : KS w B tb db s l bad nums ways) : tb < w.heap.size := by
  obtain ⟨nv, wv, h1, _⟩ := h; exact h1.lt
theorem KS.len {w : World} {B tb db : Nat} {s : ByteArray} {l : Bs} {bad : Bool} {nums : List (Bs × Int)} {ways : List (Bs × Bs)} (h : KS w B tb db s l bad nums ways) : l.length ≤ s.size := by
  obtain ⟨nv, wv, h1, _⟩ := h; exact h1.len
/-- A quiet call keeps the reader. -/
theorem KS.quiet {w w' : World} {B tb db : Nat} {s : ByteArray} {l : Bs} {bad : Bool} {nums : List (Bs × Int)} {ways : List (Bs × Bs)} (h : KS w B tb db s l bad nums ways) (hf : Fr Zero w w') : KS w' B tb db s l bad nums ways := by
  obtain ⟨nv, wv, h1, h2, h3, h4⟩ := h
  exact ⟨nv, wv, h1.keep hf (fun h => h), h2, ownsRow_keep h3 hf (fun g _ h => h), ownsRow_keep h4 hf (fun g _ h => h)⟩

end Go.Proofs.YtnhkalnihjkoeaaGreatDoor

namespace Go.Proofs.YtnhkalnihjkoeaaGreatDoor
open Go.RowKit

def KPost (tb B db : Nat) (s : ByteArray) (nums : List (Bs × Int)) (ways : List (Bs × Bs)) (w : World) (p : Option Nat × Bs) (e : Ending) (w' : World) : Prop :=
  KFr tb w w' ∧ KS w' B tb db s p.2 p.1.isNone nums ways ∧ ∃ n : Nat, e = .returned (.int .i64 n) ∧ n ≤ 40000 ∧ ∀ x, p.1 = some x → n = x

/-- What a call may write that keeps a row of its own: the reader's block, and new ones. -/
def TX (tb : Nat) (w : World) : Nat → Prop := fun k => k = tb ∨ w.heap.size ≤ k
theorem KS.seal {w w' : World} {B tb db : Nat} {s : ByteArray} {l r : Bs} {bad bad' : Bool} {nums : List (Bs × Int)} {ways : List (Bs × Bs)} {nv wv : Value} (h1 : KB w tb db s l bad nv wv) (hB : B ≤ tb)
    (h3 : w.ownsRow B 141 2 nv nums.length (numCells nums)) (h4 : w.ownsRow B 119 2 wv ways.length (wayCells ways)) (hb : KB w' tb db s r bad' nv wv) (hf : Fr (TX tb w) w w') :
    KS w' B tb db s r bad' nums ways ∧ KFr tb w w' := by
  refine ⟨⟨nv, wv, hb, hB, ownsRow_keep h3 hf (fun g hg e => ?_), ownsRow_keep h4 hf (fun g hg e => ?_)⟩, ⟨hf.mono (fun k hk e => ?_), fun k _ e => (KX.same (hb.at4.trans h1.at4.symm) (hb.at5.trans h1.at5.symm) k).1 e⟩⟩
  · rcases e with e | e
    · exact own_ne h3 h1.block (by decide) (by rw [hg]; exact congrArg some e)
    · have := (h3.lt g hg).2; omega
  · rcases e with e | e
    · exact own_ne h4 h1.block (by decide) (by rw [hg]; exact congrArg some e)
    · have := (h4.lt g hg).2; omega
  · rcases e with e | e
    · exact .inl e
    · omega

set_option maxHeartbeats 4000000 in
theorem kByteB_bad {w : World} {tb db : Nat} {s : ByteArray} {l : Bs} {nv wv : Value} (hb : KB w tb db s l true nv wv) (most : Int) :
    Calls Tryz.prog 248 #[.pointer (some ⟨tb, 0, none⟩), .int .i64 most] w fun e w' => Fr (One tb) w w' ∧ KB w' tb db s l true nv wv ∧ e = .returned (.int .i64 0) := by
  have h3 := hb.at3
  have f3 := hb.free 3
  have HB := hide hb
  clear hb
  go_enter Tryz.func248, Tryz.ntmps248
  go_wp2_with fail
  go_quiet (fail)
  go_wp2_with fail
  go_ret
  exact ⟨(Fr.drewN _ _ nq).trans (Fr.setCell _ _ _ _ (show One tb tb from rfl)), (HB.out.keep (Fr.drewN Zero _ nq) (fun h => h)).mark true, rfl⟩

set_option maxHeartbeats 4000000 in
set_option maxRecDepth 100000 in
theorem kByteB {w : World} {tb db : Nat} {s : ByteArray} {l : Bs} {nv wv : Value} (hb : KB w tb db s l false nv wv) (hs : s.size ≤ maxLen) (m : Nat) (_hm : m ≤ 256) :
    Calls Tryz.prog 248 #[.pointer (some ⟨tb, 0, none⟩), .int .i64 m] w fun e w' => Fr (One tb) w w' ∧ KB w' tb db s (mBelow m l).2 (mBelow m l).1.isNone nv wv ∧ e = .returned (.int .i64 ((mBelow m l).1.getD 0 : Nat)) := by
  have h1 := hb.at1
  have h2 := hb.at2
  have h3 := hb.at3
  have f3 := hb.free 3
  have f2 := hb.free 2
  have HB := hide hb
  unfold maxLen at hs
  have hps := hb.posle
  rcases l with _ | ⟨b, r⟩
  · have he := hb.end
    have hge : ((s.size : Nat) : Int) ≤ ((pos s [] : Nat) : Int) := by omega
    have hgn : s.size ≤ pos s [] := by omega
    clear hb he
    go_enter Tryz.func248, Tryz.ntmps248
    go_wp2_with fail
    go_quiet (fail)
    go_wp2_with fail
    go_ret
    exact ⟨(Fr.drewN _ _ nq).trans (Fr.setCell _ _ _ _ (show One tb tb from rfl)), (HB.out.keep (Fr.drewN Zero _ nq) (fun h => h)).mark true, rfl⟩
  · obtain ⟨hp, hp1, htl, hgb⟩ := hb.next
    have hgb := hgb hp
    have hpI : ((pos s (b :: r) : Nat) : Int) < ((s.size : Nat) : Int) := by omega
    have hdd : decide (s.size ≤ pos s (b :: r)) = false := decide_eq_false (by omega)
    have hb8 := b.toNat_lt
    clear hb
    by_cases hlt : b.toNat < m
    · have hdm : decide (m ≤ (s[pos s (b :: r)]).toNat) = false := decide_eq_false (by rw [hgb]; omega)
      have HU : Hid (mBelow m (b :: r) = (some b.toNat, r)) := by show _ = _; simp [mBelow, hlt]
      clear hgb
      go_enter Tryz.func248, Tryz.ntmps248
      go_wp2_with fail
      go_quiet (fail)
      go_wp2_with fail
      have hpe : ((pos s (b :: r) : Nat) : Int) + 1 = ((pos s r : Nat) : Int) := by omega
      rw [hpe]
      have hB2 : KB ((w.drewN nq).setCell ⟨tb, 2, none⟩ (.int .i64 (pos s r))) tb db s r false nv wv := (HB.out.keep (Fr.drewN Zero _ nq) (fun h => h)).move (by have := HB.out.len; simp at this; omega) htl
      have HF : Hid (Fr (One tb) w ((w.drewN nq).setCell ⟨tb, 2, none⟩ (.int .i64 (pos s r)))) := (Fr.drewN _ _ nq).trans (Fr.setCell _ _ _ _ (show One tb tb from rfl))
      generalize (w.drewN nq).setCell ⟨tb, 2, none⟩ (.int .i64 (pos s r)) = w2 at *
      have k1 := hB2.at1
      have k2 := hB2.at2
      have HB2 := hide hB2
      clear hB2 h1 h2 h3 f3 f2
      have hq : ((pos s r : Nat) : Int) - 1 = ((pos s (b :: r) : Nat) : Int) := by omega
      have HPE := hide hpe
      clear hpe hp1 hdd hdm
      go_quiet (fail)
      go_wp2_with fail
      go_ret
      rw [HU.out]
      exact ⟨HF.out.trans (Fr.drewN _ _ _), HB2.out.keep (Fr.drewN Zero _ _) (fun h => h), rfl⟩
    · have hdm : m ≤ (s[pos s (b :: r)]).toNat := by rw [hgb]; omega
      have HU : Hid (mBelow m (b :: r) = (none, b :: r)) := by show _ = _; simp [mBelow, hlt]
      clear hgb
      go_enter Tryz.func248, Tryz.ntmps248
      go_wp2_with fail
      go_quiet (fail)
      go_wp2_with fail
      go_ret
      rw [HU.out]
      exact ⟨(Fr.drewN _ _ nq).trans (Fr.setCell _ _ _ _ (show One tb tb from rfl)), (HB.out.keep (Fr.drewN Zero _ nq) (fun h => h)).mark true, rfl⟩

theorem Fr.tx {tb : Nat} {w w' : World} (h : Fr (One tb) w w') : Fr (TX tb w) w w' := h.mono (fun _ _ e => .inl e)
theorem kByte_bad {w : World} {B tb db : Nat} {s : ByteArray} {l : Bs} {nums : List (Bs × Int)} {ways : List (Bs × Bs)} (h : KS w B tb db s l true nums ways) (most : Int) :
    Calls Tryz.prog 248 #[.pointer (some ⟨tb, 0, none⟩), .int .i64 most] w fun e w' => KFr tb w w' ∧ KS w' B tb db s l true nums ways ∧ e = .returned (.int .i64 0) := by
  obtain ⟨nv, wv, hb, hB, h3, h4⟩ := h
  refine (kByteB_bad hb most).mono ?_
  rintro e w' ⟨hf, hb', he⟩
  have := KS.seal hb hB h3 h4 hb' hf.tx
  exact ⟨this.2, this.1, he⟩
theorem kByte_any {w : World} {B tb db : Nat} {s : ByteArray} {l : Bs} {nums : List (Bs × Int)} {ways : List (Bs × Bs)} (h : KS w B tb db s l false nums ways) (hs : s.size ≤ maxLen) (m : Nat) (hm : m ≤ 256) :
    Calls Tryz.prog 248 #[.pointer (some ⟨tb, 0, none⟩), .int .i64 m] w fun e w' => KFr tb w w' ∧ KS w' B tb db s (mBelow m l).2 (mBelow m l).1.isNone nums ways ∧ e = .returned (.int .i64 ((mBelow m l).1.getD 0 : Nat)) := by
  obtain ⟨nv, wv, hb, hB, h3, h4⟩ := h
  refine (kByteB hb hs m hm).mono ?_
  rintro e w' ⟨hf, hb', he⟩
  have := KS.seal hb hB h3 h4 hb' hf.tx
  exact ⟨this.2, this.1, he⟩

end Go.Proofs.YtnhkalnihjkoeaaGreatDoor
