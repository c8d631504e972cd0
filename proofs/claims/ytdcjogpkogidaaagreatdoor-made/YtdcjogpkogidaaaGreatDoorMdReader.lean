/- What the calls of a row's reader do to the two cells of a reader in memory: the place and the bytes. What Since tells. Types as trees, what a call keeps of memory, a parser in memory, and its reader's calls there. What the parser's letters tells, and where it stands then. -/
import Derived.Test.YtdcjogpkogidaaaGreatDoorProg
import Derived.WalkKit
import Derived.WalkSpells
import Derived.Deep.QuietTactic
import Derived.BigQuiet
namespace Go.Proofs.YtdcjogpkogidaaaGreatDoor
open Go.RowKit

theorem hide {p : Prop} (h : p) : Hid p := h
theorem drawn_two {w w1 : World} {a b : Addr} {x y : Value} (hw : ∃ k, w1 = w.drewN k) (ha : w.cell? a = some x) (hb : w.cell? b = some y) : w1.cell? a = some x ∧ w1.cell? b = some y := by
  obtain ⟨k, rfl⟩ := hw
  exact ⟨ha, hb⟩
theorem drawn_frozen {w w1 : World} {a : Addr} {x : Bool} (hw : ∃ k, w1 = w.drewN k) (ha : w.frozen? a = x) : w1.frozen? a = x := by
  obtain ⟨k, rfl⟩ := hw
  exact ha
theorem drawn_more {w w1 : World} (hw : Hid (∃ k, w1 = w.drewN k)) (m : Nat) : ∃ k, w1.drewN m = w.drewN k := by
  obtain ⟨k, rfl⟩ := hw
  exact ⟨k + m, by simp⟩
theorem step_more {w w1 w2 : World} {a : Addr} {v u : Value} (hw : Hid (∃ k, w1 = w.drewN k)) (h2 : Hid (w2 = w1.setCell a v)) (e : v = u := by rfl) : ∃ k, w2 = (w.drewN k).setCell a u := by
  obtain ⟨k, rfl⟩ := hw
  exact ⟨k, e ▸ h2⟩

theorem at_any (b : Nat) (n : Int) (w : World) (hat : w.cell? ⟨b, 0, none⟩ = some (.int .i64 n)) :
    Calls Tryz.prog 71 #[.pointer (some ⟨b, 0, none⟩)] w fun e w' => e = .returned (.int .i64 n) ∧ w' = w := by
  go_enter Tryz.func71, Tryz.ntmps71
  go_wp2
  go_ret
  exact ⟨rfl, rfl⟩

theorem step_any (b : Nat) (n k : Int) (w : World) (hat : w.cell? ⟨b, 0, none⟩ = some (.int .i64 n)) (hfz : w.frozen? ⟨b, 0, none⟩ = false)
    (h0 : 0 ≤ n + k) (h1 : n + k ≤ 9223372036854775807) :
    Calls Tryz.prog 167 #[.pointer (some ⟨b, 0, none⟩), .int .i64 k] w fun e w' => e = .returned (.tuple #[]) ∧ w' = w.setCell ⟨b, 0, none⟩ (.int .i64 (n + k)) := by
  go_enter Tryz.func167, Tryz.ntmps167
  go_wp2
  go_end0
  exact ⟨rfl, rfl⟩

theorem ended_no (b n : Nat) (s : ByteArray) (w : World) (_hs : s.size ≤ maxLen) (hat : w.cell? ⟨b, 0, none⟩ = some (.int .i64 n)) (hda : w.cell? ⟨b, 1, none⟩ = some (.string s)) (hn : n < s.size) :
    Calls Tryz.prog 77 #[.pointer (some ⟨b, 0, none⟩)] w fun e w' => e = .returned (.bool false) ∧ ∃ k, w' = w.drewN k := by
  unfold maxLen at _hs
  have hq : (((n : Nat) : Int) == ((s.size : Nat) : Int)) = false := beq_eq_false_iff_ne.2 (by omega)
  go_enter Tryz.func77, Tryz.ntmps77
  go_wp2_with fail
  go_quiet ((go_at_call 71; exact Calls.quiet_of_same (at_any _ _ _ hat)))
  go_wp2_with fail
  go_ret
  exact ⟨rfl, _, rfl⟩

theorem ended_yes (b n : Nat) (s : ByteArray) (w : World) (_hs : s.size ≤ maxLen) (hat : w.cell? ⟨b, 0, none⟩ = some (.int .i64 n)) (hda : w.cell? ⟨b, 1, none⟩ = some (.string s)) (hn : n = s.size) :
    Calls Tryz.prog 77 #[.pointer (some ⟨b, 0, none⟩)] w fun e w' => e = .returned (.bool true) ∧ ∃ k, w' = w.drewN k := by
  unfold maxLen at _hs
  subst hn
  go_enter Tryz.func77, Tryz.ntmps77
  go_wp2_with fail
  go_quiet ((go_at_call 71; exact Calls.quiet_of_same (at_any _ _ _ hat)))
  go_wp2_with fail
  go_ret
  exact ⟨rfl, _, rfl⟩

theorem peek_no (b n : Nat) (s : ByteArray) (w : World) (hs : s.size ≤ maxLen) (hat : w.cell? ⟨b, 0, none⟩ = some (.int .i64 n)) (hda : w.cell? ⟨b, 1, none⟩ = some (.string s)) (hn : n = s.size) :
    Calls Tryz.prog 163 #[.pointer (some ⟨b, 0, none⟩)] w fun e w' => e = .returned (.tuple #[.int .u8 0, .bool false]) ∧ ∃ k, w' = w.drewN k := by
  go_enter Tryz.func163, Tryz.ntmps163
  go_wp2_with fail
  refine (ended_yes b n s _ hs hat hda hn).mono ?_
  rintro e w1 ⟨rfl, k, rfl⟩
  go_wp2_with fail
  go_ret2
  exact ⟨rfl, _, rfl⟩

theorem peek_yes (b n : Nat) (s : ByteArray) (w : World) (hs : s.size ≤ maxLen) (hat : w.cell? ⟨b, 0, none⟩ = some (.int .i64 n)) (hda : w.cell? ⟨b, 1, none⟩ = some (.string s)) (hn : n < s.size) :
    Calls Tryz.prog 163 #[.pointer (some ⟨b, 0, none⟩)] w fun e w' => e = .returned (.tuple #[.int .u8 (s[n].toNat), .bool true]) ∧ ∃ k, w' = w.drewN k := by
  have hs' := hs
  unfold maxLen at hs'
  have hnI : ((n : Nat) : Int) < ((s.size : Nat) : Int) := by omega
  go_enter Tryz.func163, Tryz.ntmps163
  go_wp2_with fail
  refine (ended_no b n s _ hs hat hda hn).mono ?_
  rintro e w1 ⟨rfl, hw⟩
  obtain ⟨hat1, hda1⟩ := drawn_two hw hat hda
  have HW := hide hw
  clear hw hat hda
  go_wp2_with fail
  go_quiet ((go_at_call 71; exact Calls.quiet_of_same (at_any _ _ _ hat1)))
  go_wp2_with fail
  go_ret2
  exact ⟨rfl, drawn_more HW _⟩

theorem acceptIn_no (b n : Nat) (s : ByteArray) (lo hi : Int) (w : World) (hs : s.size ≤ maxLen) (hat : w.cell? ⟨b, 0, none⟩ = some (.int .i64 n)) (hda : w.cell? ⟨b, 1, none⟩ = some (.string s)) (hle : n ≤ s.size)
    (hno : ∀ h : n < s.size, (s[n].toNat : Int) < lo ∨ hi < (s[n].toNat : Int)) :
    Calls Tryz.prog 160 #[.pointer (some ⟨b, 0, none⟩), .int .u8 lo, .int .u8 hi] w fun e w' => e = .returned (.tuple #[.int .u8 0, .bool false]) ∧ ∃ k, w' = w.drewN k := by
  by_cases hn : n < s.size
  · have hc := hno hn
    clear hno
    by_cases h1 : (s[n].toNat : Int) < lo
    · go_enter Tryz.func160, Tryz.ntmps160
      go_wp2_with fail
      refine (peek_yes b n s _ hs hat hda hn).mono ?_
      rintro e w1 ⟨rfl, hw⟩
      have HW := hide hw
      clear hw
      go_wp2_with fail
      go_ret2
      exact ⟨rfl, HW⟩
    · have h2 : hi < (s[n].toNat : Int) := by omega
      go_enter Tryz.func160, Tryz.ntmps160
      go_wp2_with fail
      refine (peek_yes b n s _ hs hat hda hn).mono ?_
      rintro e w1 ⟨rfl, hw⟩
      have HW := hide hw
      clear hw
      go_wp2_with fail
      go_ret2
      exact ⟨rfl, HW⟩
  · clear hno
    go_enter Tryz.func160, Tryz.ntmps160
    go_wp2_with fail
    refine (peek_no b n s _ hs hat hda (by omega)).mono ?_
    rintro e w1 ⟨rfl, hw⟩
    have HW := hide hw
    clear hw
    go_wp2_with fail
    go_ret2
    exact ⟨rfl, HW⟩

theorem acceptIn_yes (b n : Nat) (s : ByteArray) (lo hi : Int) (w : World) (hs : s.size ≤ maxLen) (hat : w.cell? ⟨b, 0, none⟩ = some (.int .i64 n)) (hfz : w.frozen? ⟨b, 0, none⟩ = false) (hda : w.cell? ⟨b, 1, none⟩ = some (.string s)) (hn : n < s.size)
    (h1 : lo ≤ (s[n].toNat : Int)) (h2 : (s[n].toNat : Int) ≤ hi) :
    Calls Tryz.prog 160 #[.pointer (some ⟨b, 0, none⟩), .int .u8 lo, .int .u8 hi] w fun e w' => e = .returned (.tuple #[.int .u8 (s[n].toNat), .bool true]) ∧ ∃ k, w' = (w.drewN k).setCell ⟨b, 0, none⟩ (.int .i64 ((n + 1 : Nat) : Int)) := by
  have hs' := hs
  unfold maxLen at hs'
  go_enter Tryz.func160, Tryz.ntmps160
  go_wp2_with fail
  refine (peek_yes b n s _ hs hat hda hn).mono ?_
  rintro e w1 ⟨rfl, hw⟩
  obtain ⟨hat1, hda1⟩ := drawn_two hw hat hda
  have hfz1 := drawn_frozen hw hfz
  have HW := hide hw
  clear hw hat hda hfz
  go_wp2_with fail
  refine (step_any b n 1 _ hat1 hfz1 (by omega) (by omega)).mono ?_
  rintro e w2 ⟨rfl, hw2⟩
  have HW2 := hide hw2
  clear hw2
  go_wp2_with fail
  go_ret2
  exact ⟨rfl, step_more HW HW2⟩

theorem accept_no (b n : Nat) (s : ByteArray) (c : Int) (w : World) (hs : s.size ≤ maxLen) (hat : w.cell? ⟨b, 0, none⟩ = some (.int .i64 n)) (hda : w.cell? ⟨b, 1, none⟩ = some (.string s)) (hle : n ≤ s.size)
    (hno : ∀ h : n < s.size, (s[n].toNat : Int) ≠ c) :
    Calls Tryz.prog 106 #[.pointer (some ⟨b, 0, none⟩), .int .u8 c] w fun e w' => e = .returned (.bool false) ∧ ∃ k, w' = w.drewN k := by
  have hno' : Hid (∀ h : n < s.size, (s[n].toNat : Int) < c ∨ c < (s[n].toNat : Int)) := fun h => by have := hno h; omega
  clear hno
  go_enter Tryz.func106, Tryz.ntmps106
  go_wp2_with fail
  refine (acceptIn_no b n s c c _ hs hat hda hle hno').mono ?_
  rintro e w1 ⟨rfl, hw⟩
  have HW := hide hw
  clear hw
  go_wp2_with fail
  go_ret
  exact ⟨rfl, HW⟩

theorem accept_yes (b n : Nat) (s : ByteArray) (c : Int) (w : World) (hs : s.size ≤ maxLen) (hat : w.cell? ⟨b, 0, none⟩ = some (.int .i64 n)) (hfz : w.frozen? ⟨b, 0, none⟩ = false) (hda : w.cell? ⟨b, 1, none⟩ = some (.string s)) (hn : n < s.size)
    (h1 : (s[n].toNat : Int) = c) :
    Calls Tryz.prog 106 #[.pointer (some ⟨b, 0, none⟩), .int .u8 c] w fun e w' => e = .returned (.bool true) ∧ ∃ k, w' = (w.drewN k).setCell ⟨b, 0, none⟩ (.int .i64 ((n + 1 : Nat) : Int)) := by
  have hl : c ≤ (s[n].toNat : Int) := by omega
  have hh : (s[n].toNat : Int) ≤ c := by omega
  clear h1
  go_enter Tryz.func106, Tryz.ntmps106
  go_wp2_with fail
  refine (acceptIn_yes b n s c c _ hs hat hfz hda hn hl hh).mono ?_
  rintro e w1 ⟨rfl, hw⟩
  have HW := hide hw
  clear hw
  go_wp2_with fail
  go_ret
  exact ⟨rfl, HW⟩

end Go.Proofs.YtdcjogpkogidaaaGreatDoor

namespace Go.Proofs.YtdcjogpkogidaaaGreatDoor
open Go.RowKit

theorem since_any (b f n : Nat) (s : ByteArray) (w : World) (_hs : s.size ≤ maxLen) (hat : w.cell? ⟨b, 0, none⟩ = some (.int .i64 n)) (hda : w.cell? ⟨b, 1, none⟩ = some (.string s)) (hf : f ≤ n) (hn : n ≤ s.size) :
    Calls Tryz.prog 165 #[.pointer (some ⟨b, 0, none⟩), .int .i64 f] w fun e w' => e = .returned (.string (s.extract f n)) ∧ ∃ k, w' = w.drewN k := by
  unfold maxLen at _hs
  have hnI : ((n : Nat) : Int) ≤ ((s.size : Nat) : Int) := by omega
  have hfI : ((f : Nat) : Int) ≤ ((n : Nat) : Int) := by omega
  go_enter Tryz.func165, Tryz.ntmps165
  go_wp2_with fail
  go_quiet ((go_at_call 71; exact Calls.quiet_of_same (at_any _ _ _ hat)))
  go_wp2_with fail
  go_ret
  exact ⟨rfl, _, rfl⟩

end Go.Proofs.YtdcjogpkogidaaaGreatDoor

namespace Go.Proofs.YtdcjogpkogidaaaGreatDoor
open Go.RowKit

/-- The byte at a place; 256: none. -/
def byteAt (s : ByteArray) (n : Nat) : Nat := if h : n < s.size then s[n].toNat else 256

theorem byteAt_lt {s : ByteArray} {n : Nat} (h : n < s.size) : byteAt s n = s[n].toNat := by simp [byteAt, h]
theorem byteAt_end {s : ByteArray} {n : Nat} (h : ¬ n < s.size) : byteAt s n = 256 := by simp [byteAt, h]
theorem byteAt_in {s : ByteArray} {n : Nat} (h : byteAt s n < 256) : n < s.size := by
  by_cases hn : n < s.size
  · exact hn
  · rw [byteAt_end hn] at h; omega

/-- All blocks that were there, but those of X, are as they were. -/
structure Fr (X : Nat → Prop) (w w' : World) : Prop where
  os : w'.os = w.os
  tape : w'.tape = w.tape
  output : w'.output = w.output
  size : w.heap.size ≤ w'.heap.size
  block : ∀ k, k < w.heap.size → ¬ X k → w'.heap[k]? = w.heap[k]?

def One (b : Nat) : Nat → Prop := fun k => k = b
def Zero : Nat → Prop := fun _ => False

theorem Fr.refl (X : Nat → Prop) (w : World) : Fr X w w := ⟨rfl, rfl, rfl, Nat.le_refl _, fun _ _ _ => rfl⟩
theorem Fr.trans {X : Nat → Prop} {a b c : World} (h : Fr X a b) (k : Fr X b c) : Fr X a c :=
  ⟨k.os.trans h.os, k.tape.trans h.tape, k.output.trans h.output, Nat.le_trans h.size k.size, fun i hi hx => (k.block i (Nat.lt_of_lt_of_le hi h.size) hx).trans (h.block i hi hx)⟩
theorem Fr.mono {X Y : Nat → Prop} {a b : World} (h : Fr X a b) (hx : ∀ k, k < a.heap.size → X k → Y k) : Fr Y a b :=
  ⟨h.os, h.tape, h.output, h.size, fun i hi hy => h.block i hi (fun e => hy (hx i hi e))⟩
theorem Fr.of0 {X : Nat → Prop} {a b : World} (h : Fr Zero a b) : Fr X a b := h.mono (fun _ _ e => e.elim)
theorem Fr.below {X : Nat → Prop} {a b : World} (h : Fr X a b) {B : Nat} (hB : B ≤ a.heap.size) (hx : ∀ k, X k → B ≤ k) : Below B a b :=
  ⟨h.os, h.tape, h.output, h.size, fun i hi => h.block i (by omega) (fun e => by have := hx i e; omega)⟩
theorem Fr.drewN (X : Nat → Prop) (w : World) (k : Nat) : Fr X w (w.drewN k) := ⟨rfl, rfl, rfl, Nat.le_refl _, fun _ _ _ => rfl⟩
theorem Fr.alloc (X : Nat → Prop) (w : World) (o : Obj) : Fr X w (w.alloc o) := ⟨rfl, rfl, rfl, by simp, fun i hi _ => Below.heap_alloc _ _ _ hi⟩
theorem Fr.setCell (X : Nat → Prop) (w : World) (a : Addr) (v : Value) (hx : X a.block) : Fr X w (w.setCell a v) :=
  ⟨rfl, rfl, rfl, by simp [World.setCell], fun i _ hi => Below.heap_setCell _ _ _ _ (fun e => hi (e ▸ hx))⟩
theorem Fr.grown {X : Nat → Prop} {w w' : World} {row : Option Nat} (hg : w.grownBy w' row) (hr : ∀ k, row = some k → k < w.heap.size → X k) : Fr X w w' :=
  ⟨hg.os, hg.tape, hg.output, hg.size, fun i hi hx => hg.block i hi (fun e => hx (hr i e.symm hi))⟩
theorem lt_of_heap {w : World} {b : Nat} {o : Obj} (h : w.heap[b]? = some o) : b < w.heap.size := by
  rcases Nat.lt_or_ge b w.heap.size with h' | h'
  · exact h'
  · rw [Array.getElem?_eq_none h'] at h; cases h
theorem Fr.keep {X : Nat → Prop} {w w' : World} (h : Fr X w w') {b : Nat} {o : Obj} (hb : w.heap[b]? = some o) (hx : ¬ X b) : w'.heap[b]? = some o :=
  (h.block b (lt_of_heap hb) hx).trans hb
theorem Fr.cell {X : Nat → Prop} {w w' : World} (h : Fr X w w') {a : Addr} (hb : a.block < w.heap.size) (hx : ¬ X a.block) : w'.cell? a = w.cell? a :=
  World.cell?_of_block (h.block _ hb hx)
theorem heap_setCell_same {w : World} {b o : Nat} {v : Value} {c : Array Value} {t : TypeId} {f : Nat × Nat} (h : w.heap[b]? = some (.cells c t f)) :
    (w.setCell ⟨b, o, none⟩ v).heap[b]? = some (.cells (c.setIfInBounds o v) t f) := by
  simp [World.setCell, Array.getElem?_modify, h]
theorem cell_of_heap {w : World} {b o : Nat} {c : Array Value} {t : TypeId} {f : Nat × Nat} (h : w.heap[b]? = some (.cells c t f)) : w.cell? ⟨b, o, none⟩ = c[o]? := by
  simp [World.cell?, h]
theorem free_of_heap {w : World} {b o : Nat} {c : Array Value} {t : TypeId} (h : w.heap[b]? = some (.cells c t (0, 0))) : w.frozen? ⟨b, o, none⟩ = false := by
  simp [World.frozen?, h]

theorem heap_new_at {w : World} {k : Nat} (h : w.heap.size = k) (o : Obj) : (w.alloc o).heap[k]? = some o := by
  subst h; exact heap_alloc_new w o

/-- A parser in memory. -/
def PB (w : World) (pb : Nat) (s : ByteArray) (n : Nat) (lv bn td : Value) : Prop :=
  w.heap[pb]? = some (.cells #[.int .i64 n, .string s, lv, bn, td] 144 (0, 0))

section
variable {w w' : World} {pb : Nat} {s : ByteArray} {n : Nat} {lv bn td : Value}
theorem PB.at0 (h : PB w pb s n lv bn td) : w.cell? ⟨pb, 0, none⟩ = some (.int .i64 n) := by rw [cell_of_heap h]; rfl
theorem PB.at1 (h : PB w pb s n lv bn td) : w.cell? ⟨pb, 1, none⟩ = some (.string s) := by rw [cell_of_heap h]; rfl
theorem PB.at2 (h : PB w pb s n lv bn td) : w.cell? ⟨pb, 2, none⟩ = some lv := by rw [cell_of_heap h]; rfl
theorem PB.at3 (h : PB w pb s n lv bn td) : w.cell? ⟨pb, 3, none⟩ = some bn := by rw [cell_of_heap h]; rfl
theorem PB.at4 (h : PB w pb s n lv bn td) : w.cell? ⟨pb, 4, none⟩ = some td := by rw [cell_of_heap h]; rfl
theorem PB.free (h : PB w pb s n lv bn td) (o : Nat) : w.frozen? ⟨pb, o, none⟩ = false := free_of_heap h
theorem PB.drewN (h : PB w pb s n lv bn td) (k : Nat) : PB (w.drewN k) pb s n lv bn td := h
theorem PB.set0 (h : PB w pb s n lv bn td) (m : Nat) : PB (w.setCell ⟨pb, 0, none⟩ (.int .i64 m)) pb s m lv bn td := by
  unfold PB; rw [heap_setCell_same h]; rfl
theorem PB.set2 (h : PB w pb s n lv bn td) (v : Value) : PB (w.setCell ⟨pb, 2, none⟩ v) pb s n v bn td := by
  unfold PB; rw [heap_setCell_same h]; rfl
theorem PB.set3 (h : PB w pb s n lv bn td) (v : Value) : PB (w.setCell ⟨pb, 3, none⟩ v) pb s n lv v td := by
  unfold PB; rw [heap_setCell_same h]; rfl
theorem PB.set4 (h : PB w pb s n lv bn td) (v : Value) : PB (w.setCell ⟨pb, 4, none⟩ v) pb s n lv bn v := by
  unfold PB; rw [heap_setCell_same h]; rfl
theorem PB.alloc (h : PB w pb s n lv bn td) (o : Obj) : PB (w.alloc o) pb s n lv bn td := by
  unfold PB; rw [Below.heap_alloc _ _ _ (lt_of_heap h)]; exact h
theorem PB.keep (h : PB w pb s n lv bn td) {X : Nat → Prop} (hf : Fr X w w') (hx : ¬ X pb) : PB w' pb s n lv bn td := hf.keep h hx
theorem PB.ne (h : PB w pb s n lv bn td) {b : Nat} {c : Array Value} {t : TypeId} {f : Nat × Nat} (hb : w.heap[b]? = some (.cells c t f)) (ht : t ≠ 144) : ¬ One pb b := by
  intro e
  have e' : b = pb := e
  subst e'
  unfold PB at h
  rw [h] at hb
  simp at hb
  exact ht hb.2.1.symm
end

theorem pAccept_no {w : World} {pb : Nat} {s : ByteArray} {n : Nat} {lv bn td : Value} (hP : PB w pb s n lv bn td) (hs : s.size ≤ maxLen) (hle : n ≤ s.size) (c : Int) (hc : (byteAt s n : Int) ≠ c) :
    Calls Tryz.prog 106 #[.pointer (some ⟨pb, 0, none⟩), .int .u8 c] w fun e w' => e = .returned (.bool false) ∧ PB w' pb s n lv bn td ∧ Fr (One pb) w w' := by
  refine (accept_no pb n s c w hs hP.at0 hP.at1 hle (fun h => by rw [byteAt_lt h] at hc; exact hc)).mono ?_
  rintro e w' ⟨rfl, k, rfl⟩
  exact ⟨rfl, hP, Fr.drewN _ _ _⟩

theorem pAccept_yes {w : World} {pb : Nat} {s : ByteArray} {n : Nat} {lv bn td : Value} (hP : PB w pb s n lv bn td) (hs : s.size ≤ maxLen) (c : Int) (hc : (byteAt s n : Int) = c) (h256 : c < 256) :
    Calls Tryz.prog 106 #[.pointer (some ⟨pb, 0, none⟩), .int .u8 c] w fun e w' => e = .returned (.bool true) ∧ PB w' pb s (n + 1) lv bn td ∧ Fr (One pb) w w' := by
  have hn : n < s.size := byteAt_in (by omega)
  refine (accept_yes pb n s c w hs hP.at0 (hP.free 0) hP.at1 hn (by rw [byteAt_lt hn] at hc; exact hc)).mono ?_
  rintro e w' ⟨rfl, k, rfl⟩
  exact ⟨rfl, (hP.drewN k).set0 (n + 1), (Fr.drewN _ _ k).trans (Fr.setCell _ _ _ _ rfl)⟩

theorem pAcceptIn_no {w : World} {pb : Nat} {s : ByteArray} {n : Nat} {lv bn td : Value} (hP : PB w pb s n lv bn td) (hs : s.size ≤ maxLen) (hle : n ≤ s.size) (lo hi : Int) (hc : (byteAt s n : Int) < lo ∨ hi < (byteAt s n : Int)) :
    Calls Tryz.prog 160 #[.pointer (some ⟨pb, 0, none⟩), .int .u8 lo, .int .u8 hi] w fun e w' => e = .returned (.tuple #[.int .u8 0, .bool false]) ∧ PB w' pb s n lv bn td ∧ Fr (One pb) w w' := by
  refine (acceptIn_no pb n s lo hi w hs hP.at0 hP.at1 hle (fun h => by rw [byteAt_lt h] at hc; exact hc)).mono ?_
  rintro e w' ⟨rfl, k, rfl⟩
  exact ⟨rfl, hP, Fr.drewN _ _ _⟩

theorem pAcceptIn_yes {w : World} {pb : Nat} {s : ByteArray} {n : Nat} {lv bn td : Value} (hP : PB w pb s n lv bn td) (hs : s.size ≤ maxLen) (lo hi : Int) (h1 : lo ≤ (byteAt s n : Int)) (h2 : (byteAt s n : Int) ≤ hi) (h256 : hi < 256) :
    Calls Tryz.prog 160 #[.pointer (some ⟨pb, 0, none⟩), .int .u8 lo, .int .u8 hi] w fun e w' => e = .returned (.tuple #[.int .u8 (byteAt s n), .bool true]) ∧ PB w' pb s (n + 1) lv bn td ∧ Fr (One pb) w w' := by
  have hn : n < s.size := byteAt_in (by omega)
  refine (acceptIn_yes pb n s lo hi w hs hP.at0 (hP.free 0) hP.at1 hn (by rw [byteAt_lt hn] at h1; exact h1) (by rw [byteAt_lt hn] at h2; exact h2)).mono ?_
  rintro e w' ⟨rfl, k, rfl⟩
  exact ⟨by rw [byteAt_lt hn], (hP.drewN k).set0 (n + 1), (Fr.drewN _ _ k).trans (Fr.setCell _ _ _ _ rfl)⟩

theorem pEnded {w : World} {pb : Nat} {s : ByteArray} {n : Nat} {lv bn td : Value} (hP : PB w pb s n lv bn td) (hs : s.size ≤ maxLen) (hle : n ≤ s.size) :
    Calls Tryz.prog 77 #[.pointer (some ⟨pb, 0, none⟩)] w fun e w' => e = .returned (.bool (decide (n = s.size))) ∧ PB w' pb s n lv bn td ∧ Fr (One pb) w w' := by
  by_cases hn : n = s.size
  · refine (ended_yes pb n s w hs hP.at0 hP.at1 hn).mono ?_
    rintro e w' ⟨rfl, k, rfl⟩
    exact ⟨by simp [hn], hP, Fr.drewN _ _ _⟩
  · refine (ended_no pb n s w hs hP.at0 hP.at1 (by omega)).mono ?_
    rintro e w' ⟨rfl, k, rfl⟩
    exact ⟨by simp [hn], hP, Fr.drewN _ _ _⟩

theorem pSince {w : World} {pb : Nat} {s : ByteArray} {n : Nat} {lv bn td : Value} (hP : PB w pb s n lv bn td) (hs : s.size ≤ maxLen) (f : Nat) (hf : f ≤ n) (hle : n ≤ s.size) :
    Calls Tryz.prog 165 #[.pointer (some ⟨pb, 0, none⟩), .int .i64 f] w fun e w' => e = .returned (.string (s.extract f n)) ∧ PB w' pb s n lv bn td ∧ Fr (One pb) w w' := by
  refine (since_any pb f n s w hs hP.at0 hP.at1 hf hle).mono ?_
  rintro e w' ⟨rfl, k, rfl⟩
  exact ⟨rfl, hP, Fr.drewN _ _ _⟩

end Go.Proofs.YtdcjogpkogidaaaGreatDoor

namespace Go.Proofs.YtdcjogpkogidaaaGreatDoor
open Go.RowKit

/-- Behind at most k letters from n on. -/
def lettersTo (s : ByteArray) (n : Nat) : Nat → Nat
  | 0 => n
  | k + 1 => if 97 ≤ byteAt s n ∧ byteAt s n ≤ 122 then lettersTo s (n + 1) k else n

theorem lettersTo_ge (s : ByteArray) (k : Nat) : ∀ n, n ≤ lettersTo s n k := by
  induction k with
  | zero => intro n; exact Nat.le_refl _
  | succ k ih =>
    intro n
    unfold lettersTo
    split
    · exact Nat.le_trans (Nat.le_succ n) (ih (n + 1))
    · exact Nat.le_refl _
theorem lettersTo_le (s : ByteArray) (k : Nat) : ∀ n, n ≤ s.size → lettersTo s n k ≤ s.size := by
  induction k with
  | zero => intro n h; exact h
  | succ k ih =>
    intro n h
    unfold lettersTo
    split
    · rename_i hc
      have : n < s.size := byteAt_in (by omega)
      exact ih (n + 1) (by omega)
    · exact h
theorem lettersTo_more (s : ByteArray) (n k : Nat) (h : 97 ≤ byteAt s n ∧ byteAt s n ≤ 122) : lettersTo s n (k + 1) = lettersTo s (n + 1) k := by
  rw [lettersTo, if_pos h]
theorem lettersTo_stop (s : ByteArray) (n k : Nat) (h : ¬ (97 ≤ byteAt s n ∧ byteAt s n ≤ 122)) : lettersTo s n k = n := by
  cases k with
  | zero => rfl
  | succ k => rw [lettersTo, if_neg h]

set_option maxHeartbeats 1000000 in
theorem letters_any {w : World} {pb : Nat} {s : ByteArray} {n : Nat} {lv bn td : Value} (hP : PB w pb s n lv bn td) (hs : s.size ≤ maxLen) (hle : n ≤ s.size) :
    Calls Tryz.prog 214 #[.pointer (some ⟨pb, 0, none⟩)] w fun e w' => e = .returned (.string (s.extract n (lettersTo s n 6))) ∧ PB w' pb s (lettersTo s n 6) lv bn td ∧ Fr (One pb) w w' := by
  have h0 := hP.at0
  have HP := hide hP
  clear hP
  go_enter Tryz.func214, Tryz.ntmps214
  go_wp2_with fail
  refine (at_any pb n _ h0).mono ?_
  rintro e w1 ⟨rfl, hw⟩
  obtain rfl := hw.symm
  clear h0
  go_wp2_with fail
  go_loopw [11] (fun i wr => ∃ k m : Nat, k ≤ 6 ∧ i = .int .i64 k ∧ n ≤ m ∧ m ≤ s.size ∧ Hid (lettersTo s n 6 = lettersTo s m (6 - k)) ∧ Hid (PB wr pb s m lv bn td) ∧ Hid (Fr (One pb) w wr)) (fun i _ => 6 - (intOf i).toNat)
  case atStart => exact ⟨0, n, by omega, rfl, Nat.le_refl _, hle, rfl, HP, Fr.refl _ _⟩
  case round =>
    obtain ⟨k, m, hk, rfl, hnm, hm, HL, HPr, HF⟩ := hrel
    by_cases hlt : k < 6
    · by_cases hc : 97 ≤ byteAt s m ∧ byteAt s m ≤ 122
      · have HC := hide hc
        clear hc
        go_wp2_with fail
        refine (pAcceptIn_yes HPr hs 97 122 (by have := HC.out; omega) (by have := HC.out; omega) (by omega)).mono ?_
        rintro e w2 ⟨rfl, hP2, hF2⟩
        have HP2 := hide hP2
        have HF2 := hide (Fr.trans HF hF2)
        clear hP2 hF2
        go_wp2_with fail
        go_roundw
        case rel =>
          have hm1 : m < s.size := byteAt_in (by have := HC.out; omega)
          have HL2 : lettersTo s m (6 - k) = lettersTo s (m + 1) (6 - (k + 1)) := by rw [show 6 - k = (6 - (k + 1)) + 1 by omega]; exact lettersTo_more s m _ HC
          exact ⟨k + 1, m + 1, by omega, by go_num, by omega, by omega, HL.out.trans HL2, HP2, HF2⟩
        case measure => simp [intOf]; omega
      · have HC := hide hc
        clear hc
        go_wp2_with fail
        refine (pAcceptIn_no HPr hs hm 97 122 (by have := HC.out; omega)).mono ?_
        rintro e w2 ⟨rfl, hP2, hF2⟩
        have HP2 := hide hP2
        have HF2 := hide (Fr.trans HF hF2)
        clear hP2 hF2
        have HE : Hid (lettersTo s n 6 = m) := HL.out.trans (lettersTo_stop s m _ HC)
        go_wp2_with fail
        refine (pSince HP2 hs n hnm hm).mono ?_
        rintro e w3 ⟨rfl, hP3, hF3⟩
        have HP3 := hide hP3
        have HF3 := hide (Fr.trans HF2 hF3)
        clear hP3 hF3
        go_wp2_with fail
        go_ret
        rw [HE.out]
        exact ⟨rfl, HP3, HF3⟩
    · have hk6 : k = 6 := by omega
      subst hk6
      have HE : Hid (lettersTo s n 6 = m) := HL.out.trans rfl
      go_wp2_with fail
      refine (pSince HPr hs n hnm hm).mono ?_
      rintro e w3 ⟨rfl, hP3, hF3⟩
      have HP3 := hide hP3
      have HF3 := hide (Fr.trans HF hF3)
      clear hP3 hF3
      go_wp2_with fail
      go_ret
      rw [HE.out]
      exact ⟨rfl, HP3, HF3⟩

end Go.Proofs.YtdcjogpkogidaaaGreatDoor
