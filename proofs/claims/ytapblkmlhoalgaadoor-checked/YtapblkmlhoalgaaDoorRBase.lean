/- The other reader of descriptions: its state in memory, and its small calls. -/
import Derived.Test.YtapblkmlhoalgaaDoorParse
import Derived.Deep.RegionLaw
namespace Go.Proofs.YtapblkmlhoalgaaDoor
open Go.RowKit

/-- A row of the table of types: its kind, what it is made of, names, places. -/
structure RT where
  kind : Nat
  of : List Nat
  names : List ByteArray
  ats : List Nat

/-- Such a row as it lies in memory. -/
structure RV where
  k : Nat
  o : Value
  n : Value
  a : Value

def rvCells (l : List RV) : List Value := l.flatMap fun r => [.int .i64 r.k, r.o, r.n, r.a]
def ints (l : List Nat) : List Value := l.map fun (x : Nat) => .int .i64 (x : Int)
def texts (l : List ByteArray) : List Value := l.map .string

theorem rvCells_length (l : List RV) : (rvCells l).length = l.length * 4 := by
  induction l with
  | nil => rfl
  | cons p l ih => simp only [rvCells, List.flatMap_cons, List.length_append, List.length_cons, List.length_nil] at ih ⊢; omega
theorem rvCells_snoc (l : List RV) (r : RV) : rvCells (l ++ [r]) = rvCells l ++ [.int .i64 r.k, r.o, r.n, r.a] := by simp [rvCells]
theorem rvCells_get (l : List RV) : ∀ (j : Nat) (r : RV), l[j]? = some r → (rvCells l)[j * 4]? = some (.int .i64 r.k) ∧ (rvCells l)[j * 4 + 1]? = some r.o ∧ (rvCells l)[j * 4 + 2]? = some r.n ∧ (rvCells l)[j * 4 + 3]? = some r.a := by
  induction l with
  | nil => intro j p h; simp at h
  | cons q l ih =>
    intro j p h
    cases j with
    | zero => simp at h; subst h; exact ⟨rfl, rfl, rfl, rfl⟩
    | succ j =>
      have h' : l[j]? = some p := by simpa using h
      have e : rvCells (q :: l) = .int .i64 q.k :: q.o :: q.n :: q.a :: rvCells l := rfl
      rw [e, show (j + 1) * 4 = j * 4 + 1 + 1 + 1 + 1 by omega]
      exact ih j p h'

/-- A slice of one-cell elements whose array is not in X. -/
def SL (w : World) (X : Nat → Prop) (e : TypeId) (v : Value) (xs : List Value) : Prop := w.ownsRow 0 e 1 v xs.length xs ∧ ∀ g, v.ownBlock = some g → ¬ X g

def RTR (w : World) (X : Nat → Prop) (r : RV) (t : RT) : Prop := r.k = t.kind ∧ SL w X 3 r.o (ints t.of) ∧ SL w X 9 r.n (texts t.names) ∧ SL w X 3 r.a (ints t.ats)

def TabR (w : World) (X : Nat → Prop) (rows : List RV) (tab : List RT) : Prop :=
  rows.length = tab.length ∧ ∀ (j : Nat) (r : RV) (t : RT), rows[j]? = some r → tab[j]? = some t → RTR w X r t

theorem SL.keep {w w' : World} {X : Nat → Prop} {e : TypeId} {v : Value} {xs : List Value} (h : SL w X e v xs) (hf : Fr X w w') : SL w' X e v xs := ⟨ownsRow_keep h.1 hf h.2, h.2⟩
theorem SL.avoid {w : World} {X Y : Nat → Prop} {e : TypeId} {v : Value} {xs : List Value} (h : SL w X e v xs) (hxy : ∀ b, b < w.heap.size → Y b → X b) : SL w Y e v xs := ⟨h.1, fun g hg hy => h.2 g hg (hxy g (h.1.lt g hg).2 hy)⟩
theorem SL.nil (w : World) (X : Nat → Prop) (e : TypeId) : SL w X e (.slice none 0 0) [] := ⟨World.ownsRow_nil _ _ _ _, fun g hg => by simp [Value.ownBlock] at hg⟩
theorem RTR.keep {w w' : World} {X : Nat → Prop} {r : RV} {t : RT} (h : RTR w X r t) (hf : Fr X w w') : RTR w' X r t := ⟨h.1, h.2.1.keep hf, h.2.2.1.keep hf, h.2.2.2.keep hf⟩
theorem RTR.avoid {w : World} {X Y : Nat → Prop} {r : RV} {t : RT} (h : RTR w X r t) (hxy : ∀ b, b < w.heap.size → Y b → X b) : RTR w Y r t := ⟨h.1, h.2.1.avoid hxy, h.2.2.1.avoid hxy, h.2.2.2.avoid hxy⟩
theorem TabR.keep {w w' : World} {X : Nat → Prop} {rows : List RV} {tab : List RT} (h : TabR w X rows tab) (hf : Fr X w w') : TabR w' X rows tab := ⟨h.1, fun j r t hr ht => (h.2 j r t hr ht).keep hf⟩
theorem TabR.avoid {w : World} {X Y : Nat → Prop} {rows : List RV} {tab : List RT} (h : TabR w X rows tab) (hxy : ∀ b, b < w.heap.size → Y b → X b) : TabR w Y rows tab := ⟨h.1, fun j r t hr ht => (h.2 j r t hr ht).avoid hxy⟩
theorem TabR.snoc {w : World} {X : Nat → Prop} {rows : List RV} {tab : List RT} (h : TabR w X rows tab) {r : RV} {t : RT} (ht : RTR w X r t) : TabR w X (rows ++ [r]) (tab ++ [t]) := by
  have hl := h.1
  refine ⟨by simp [hl], fun j p q hp hq => ?_⟩
  by_cases hj : j < rows.length
  · rw [List.getElem?_append_left hj] at hp
    rw [List.getElem?_append_left (by omega)] at hq
    exact h.2 j p q hp hq
  · rw [List.getElem?_append_right (by omega)] at hp hq
    have hj0 : j - rows.length = 0 := by
      rcases Nat.eq_zero_or_pos (j - rows.length) with e | e
      · exact e
      · rw [List.getElem?_eq_none (by simp; omega)] at hp; cases hp
    rw [← hl, hj0] at hq
    rw [hj0] at hp
    simp at hp hq
    subst hp hq
    exact ht

/-- The reader in memory. -/
def DB (w : World) (db : Nat) (s : ByteArray) (n : Nat) (bad : Bool) (tv lv av rv : Value) : Prop :=
  w.heap[db]? = some (.cells #[.string s, .int .i64 n, tv, lv, av, rv, .bool bad] 39 (0, 0))

section
variable {w w' : World} {db : Nat} {s : ByteArray} {n : Nat} {bad : Bool} {tv lv av rv : Value}
theorem DB.at0 (h : DB w db s n bad tv lv av rv) : w.cell? ⟨db, 0, none⟩ = some (.string s) := by rw [cell_of_heap h]; rfl
theorem DB.at1 (h : DB w db s n bad tv lv av rv) : w.cell? ⟨db, 1, none⟩ = some (.int .i64 n) := by rw [cell_of_heap h]; rfl
theorem DB.at2 (h : DB w db s n bad tv lv av rv) : w.cell? ⟨db, 2, none⟩ = some tv := by rw [cell_of_heap h]; rfl
theorem DB.at3 (h : DB w db s n bad tv lv av rv) : w.cell? ⟨db, 3, none⟩ = some lv := by rw [cell_of_heap h]; rfl
theorem DB.at4 (h : DB w db s n bad tv lv av rv) : w.cell? ⟨db, 4, none⟩ = some av := by rw [cell_of_heap h]; rfl
theorem DB.at5 (h : DB w db s n bad tv lv av rv) : w.cell? ⟨db, 5, none⟩ = some rv := by rw [cell_of_heap h]; rfl
theorem DB.at6 (h : DB w db s n bad tv lv av rv) : w.cell? ⟨db, 6, none⟩ = some (.bool bad) := by rw [cell_of_heap h]; rfl
theorem DB.free (h : DB w db s n bad tv lv av rv) (o : Nat) : w.frozen? ⟨db, o, none⟩ = false := free_of_heap h
theorem DB.drewN (h : DB w db s n bad tv lv av rv) (k : Nat) : DB (w.drewN k) db s n bad tv lv av rv := h
theorem DB.set1 (h : DB w db s n bad tv lv av rv) (m : Nat) : DB (w.setCell ⟨db, 1, none⟩ (.int .i64 m)) db s m bad tv lv av rv := by unfold DB; rw [heap_setCell_same h]; rfl
theorem DB.set2 (h : DB w db s n bad tv lv av rv) (v : Value) : DB (w.setCell ⟨db, 2, none⟩ v) db s n bad v lv av rv := by unfold DB; rw [heap_setCell_same h]; rfl
theorem DB.set3 (h : DB w db s n bad tv lv av rv) (v : Value) : DB (w.setCell ⟨db, 3, none⟩ v) db s n bad tv v av rv := by unfold DB; rw [heap_setCell_same h]; rfl
theorem DB.set4 (h : DB w db s n bad tv lv av rv) (v : Value) : DB (w.setCell ⟨db, 4, none⟩ v) db s n bad tv lv v rv := by unfold DB; rw [heap_setCell_same h]; rfl
theorem DB.set5 (h : DB w db s n bad tv lv av rv) (v : Value) : DB (w.setCell ⟨db, 5, none⟩ v) db s n bad tv lv av v := by unfold DB; rw [heap_setCell_same h]; rfl
theorem DB.set6 (h : DB w db s n bad tv lv av rv) (b : Bool) : DB (w.setCell ⟨db, 6, none⟩ (.bool b)) db s n b tv lv av rv := by unfold DB; rw [heap_setCell_same h]; rfl
theorem DB.alloc (h : DB w db s n bad tv lv av rv) (o : Obj) : DB (w.alloc o) db s n bad tv lv av rv := by unfold DB; rw [Below.heap_alloc _ _ _ (lt_of_heap h)]; exact h
theorem DB.keep (h : DB w db s n bad tv lv av rv) {X : Nat → Prop} (hf : Fr X w w') (hx : ¬ X db) : DB w' db s n bad tv lv av rv := hf.keep h hx
theorem DB.ne (h : DB w db s n bad tv lv av rv) {b : Nat} {c : Array Value} {t : TypeId} {f : Nat × Nat} (hb : w.heap[b]? = some (.cells c t f)) (ht : t ≠ 39) : b ≠ db := by
  intro e'
  subst e'
  unfold DB at h
  rw [h] at hb
  simp at hb
  exact ht hb.2.1.symm
end

def rIs (s : ByteArray) (n : Nat) (bad : Bool) (c : Nat) : Bool := !bad && decide (byteAt s n = c)

theorem is_any {w : World} {db : Nat} {s : ByteArray} {n : Nat} {bad : Bool} {tv lv av rv : Value} (h : DB w db s n bad tv lv av rv) (hs : s.size ≤ maxLen) (hle : n ≤ s.size) (cI : Int) (c : Nat) (hc : cI = (c : Int)) (h256 : c < 256) :
    Calls Tryd.prog 27 #[.pointer (some ⟨db, 0, none⟩), .int .u8 cI] w fun e w' => e = .returned (.bool (rIs s n bad c)) ∧ ∃ k, w' = w.drewN k := by
  have h0 := h.at0
  have h1 := h.at1
  have h6 := h.at6
  have hs' := hs
  unfold maxLen at hs'
  clear h
  cases bad with
  | true =>
    have hR : Hid (rIs s n true c = false) := rfl
    clear hc
    go_enter Tryd.func27, Tryd.ntmps27
    go_wp2_with fail
    go_quiet (fail)
    go_wp2_with fail
    go_ret
    rw [hR.out]
    exact ⟨rfl, _, rfl⟩
  | false =>
    by_cases hn : n < s.size
    · have hnI : ((n : Nat) : Int) < ((s.size : Nat) : Int) := by omega
      have hR : Hid (rIs s n false c = ((s[n].toNat : Int) == cI)) := by
        show rIs s n false c = _
        unfold rIs
        rw [byteAt_lt hn, hc]
        rw [Bool.eq_iff_iff]
        simp
        omega
      clear hc
      go_enter Tryd.func27, Tryd.ntmps27
      go_wp2_with fail
      go_quiet (fail)
      go_wp2_with fail
      go_ret
      rw [hR.out]
      exact ⟨rfl, _, rfl⟩
    · have hd : decide (((n : Nat) : Int) < ((s.size : Nat) : Int)) = false := decide_eq_false (by omega)
      have hR : Hid (rIs s n false c = false) := by
        show rIs s n false c = _
        unfold rIs
        rw [byteAt_end hn]
        simp
        omega
      clear hc
      go_enter Tryd.func27, Tryd.ntmps27
      go_wp2_with fail
      go_quiet (fail)
      go_wp2_with fail
      go_ret
      rw [hR.out]
      exact ⟨rfl, _, rfl⟩

def mustN (s : ByteArray) (n : Nat) (bad : Bool) (c : Nat) : Nat := if rIs s n bad c then n + 1 else n
def mustB (s : ByteArray) (n : Nat) (bad : Bool) (c : Nat) : Bool := if rIs s n bad c then false else true

theorem must_any {w : World} {db : Nat} {s : ByteArray} {n : Nat} {bad : Bool} {tv lv av rv : Value} (h : DB w db s n bad tv lv av rv) (hs : s.size ≤ maxLen) (hle : n ≤ s.size) (cI : Int) (c : Nat) (hc : cI = (c : Int)) (h256 : c < 256) :
    Calls Tryd.prog 16 #[.pointer (some ⟨db, 0, none⟩), .int .u8 cI] w fun e w' => e = .returned (.tuple #[]) ∧ Fr (One db) w w' ∧ DB w' db s (mustN s n bad c) (mustB s n bad c) tv lv av rv ∧ mustN s n bad c ≤ s.size := by
  have HD := hide h
  have HI := hide (is_any h hs hle cI c hc h256)
  have hs' := hs
  unfold maxLen at hs'
  clear h hc
  go_enter Tryd.func16, Tryd.ntmps16
  go_wp2_with fail
  refine HI.out.mono ?_
  rintro e w1 ⟨rfl, k, hw1⟩
  have hD1 : DB w1 db s n bad tv lv av rv := by rw [hw1]; exact HD
  have c1 := hD1.at1
  have c6 := hD1.at6
  have f1 := hD1.free 1
  have f6 := hD1.free 6
  have HD1 := hide hD1
  have HF1 : Hid (Fr (One db) w w1) := by show Fr _ _ _; rw [hw1]; exact Fr.drewN _ _ _
  clear hw1 hD1
  rcases hr : rIs s n bad c with _ | _
  · have e1 : Hid (mustN s n bad c = n) := by show _ = _; unfold mustN; rw [hr]; rfl
    have e2 : Hid (mustB s n bad c = true) := by show _ = _; unfold mustB; rw [hr]; rfl
    clear hr
    go_wp2_with fail
    refine bodyPost_ret (v := .tuple #[]) (by simp [results, Tryd.results16, go_sem]) rfl ?_
    rw [e1.out, e2.out]
    exact ⟨rfl, HF1.out.trans (Fr.setCell _ _ _ _ (show One db db from rfl)), HD1.out.set6 true, hle⟩
  · have e1 : Hid (mustN s n bad c = n + 1) := by show _ = _; unfold mustN; rw [hr]; rfl
    have e2 : Hid (mustB s n bad c = bad) := by
      show _ = _
      unfold mustB
      rw [hr]
      unfold rIs at hr
      simp at hr
      simp [hr.1]
    have hn : n + 1 ≤ s.size := by
      unfold rIs at hr
      simp at hr
      exact byteAt_in (by omega)
    clear hr
    go_wp2_with fail
    go_end0
    rw [e1.out, e2.out]
    exact ⟨rfl, HF1.out.trans (Fr.setCell _ _ _ _ (show One db db from rfl)), HD1.out.set1 (n + 1), hn⟩

end Go.Proofs.YtapblkmlhoalgaaDoor
