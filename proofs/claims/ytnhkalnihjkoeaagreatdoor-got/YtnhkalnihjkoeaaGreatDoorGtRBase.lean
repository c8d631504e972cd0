/- The other reader of descriptions: its state in memory, and its small calls. The other reader's word, wordKind and name. The other reader's wordKind. The other reader's name and add. -/
import Derived.Deep.RegionLaw
import Derived.Test.YtnhkalnihjkoeaaGreatDoorGtParse
namespace Go.Proofs.YtnhkalnihjkoeaaGreatDoor
open Go.RowKit

/-- A row of the table of types: its kind, what it is made of, names, places. -/
structure RT where
  kind : Nat
  of : List Nat
  names : List ByteArray
  ats : List Nat

/-- Such a row as it lies in memory. -/
structure RV where
  k : Nat
  o : Value
  n : Value
  a : Value

def rvCells (l : List RV) : List Value := l.flatMap fun r => [.int .i64 r.k, r.o, r.n, r.a]
def ints (l : List Nat) : List Value := l.map fun (x : Nat) => .int .i64 (x : Int)
def texts (l : List ByteArray) : List Value := l.map .string

theorem rvCells_snoc (l : List RV) (r : RV) : rvCells (l ++ [r]) = rvCells l ++ [.int .i64 r.k, r.o, r.n, r.a] := by simp [rvCells]
theorem rvCells_get (l : List RV) : ∀ (j : Nat) (r : RV), l[j]? = some r → (rvCells l)[j * 4]? = some (.int .i64 r.k) ∧ (rvCells l)[j * 4 + 1]? = some r.o ∧ (rvCells l)[j * 4 + 2]? = some r.n ∧ (rvCells l)[j * 4 + 3]? = some r.a := by
  induction l with
  | nil => intro j p h; simp at h
  | cons q l ih =>
    intro j p h
    cases j with
    | zero => simp at h; subst h; exact ⟨rfl, rfl, rfl, rfl⟩
    | succ j =>
      have h' : l[j]? = some p := by simpa using h
      have e : rvCells (q :: l) = .int .i64 q.k :: q.o :: q.n :: q.a :: rvCells l := rfl
      rw [e, show (j + 1) * 4 = j * 4 + 1 + 1 + 1 + 1 by omega]
      exact ih j p h'

/-- A slice of one-cell elements whose array is not in X. -/
def SL (w : World) (X : Nat → Prop) (e : TypeId) (v : Value) (xs : List Value) : Prop := w.ownsRow 0 e 1 v xs.length xs ∧ ∀ g, v.ownBlock = some g → ¬ X g

def RTR (w : World) (X : Nat → Prop) (r : RV) (t : RT) : Prop := r.k = t.kind ∧ SL w X 3 r.o (ints t.of) ∧ SL w X 9 r.n (texts t.names) ∧ SL w X 3 r.a (ints t.ats)

def TabR (w : World) (X : Nat → Prop) (rows : List RV) (tab : List RT) : Prop :=
  rows.length = tab.length ∧ ∀ (j : Nat) (r : RV) (t : RT), rows[j]? = some r → tab[j]? = some t → RTR w X r t

theorem SL.keep {w w' : World} {X : Nat → Prop} {e : TypeId} {v : Value} {xs : List Value} (h : SL w X e v xs) (hf : Fr X w w') : SL w' X e v xs := ⟨ownsRow_keep h.1 hf h.2, h.2⟩
theorem SL.avoid {w : World} {X Y : Nat → Prop} {e : TypeId} {v : Value} {xs : List Value} (h : SL w X e v xs) (hxy : ∀ b, b < w.heap.size → Y b → X b) : SL w Y e v xs := ⟨h.1, fun g hg hy => h.2 g hg (hxy g (h.1.lt g hg).2 hy)⟩
theorem SL.nil (w : World) (X : Nat → Prop) (e : TypeId) : SL w X e (.slice none 0 0) [] := ⟨World.ownsRow_nil _ _ _ _, fun g hg => by simp [Value.ownBlock] at hg⟩
theorem RTR.keep {w w' : World} {X : Nat → Prop} {r : RV} {t : RT} (h : RTR w X r t) (hf : Fr X w w') : RTR w' X r t := ⟨h.1, h.2.1.keep hf, h.2.2.1.keep hf, h.2.2.2.keep hf⟩
theorem RTR.avoid {w : World} {X Y : Nat → Prop} {r : RV} {t : RT} (h : RTR w X r t) (hxy : ∀ b, b < w.heap.size → Y b → X b) : RTR w Y r t := ⟨h.1, h.2.1.avoid hxy, h.2.2.1.avoid hxy, h.2.2.2.avoid hxy⟩
theorem TabR.keep {w w' : World} {X : Nat → Prop} {rows : List RV} {tab : List RT} (h : TabR w X rows tab) (hf : Fr X w w') : TabR w' X rows tab := ⟨h.1, fun j r t hr ht => (h.2 j r t hr ht).keep hf⟩
theorem TabR.avoid {w : World} {X Y : Nat → Prop} {rows : List RV} {tab : List RT} (h : TabR w X rows tab) (hxy : ∀ b, b < w.heap.size → Y b → X b) : TabR w Y rows tab := ⟨h.1, fun j r t hr ht => (h.2 j r t hr ht).avoid hxy⟩
theorem TabR.snoc {w : World} {X : Nat → Prop} {rows : List RV} {tab : List RT} (h : TabR w X rows tab) {r : RV} {t : RT} (ht : RTR w X r t) : TabR w X (rows ++ [r]) (tab ++ [t]) := by
  have hl := h.1
  refine ⟨by simp [hl], fun j p q hp hq => ?_⟩
  by_cases hj : j < rows.length
  · rw [List.getElem?_append_left hj] at hp
    rw [List.getElem?_append_left (by omega)] at hq
    exact h.2 j p q hp hq
  · rw [List.getElem?_append_right (by omega)] at hp hq
    have hj0 : j - rows.length = 0 := by
      rcases Nat.eq_zero_or_pos (j - rows.length) with e | e
      · exact e
      · rw [List.getElem?_eq_none (by simp; omega)] at hp; cases hp
    rw [← hl, hj0] at hq
    rw [hj0] at hp
    simp at hp hq
    subst hp hq
    exact ht

/-- The reader in memory. -/
def DB (w : World) (db : Nat) (s : ByteArray) (n : Nat) (bad : Bool) (tv lv av rv : Value) : Prop :=
  w.heap[db]? = some (.cells #[.string s, .int .i64 n, tv, lv, av, rv, .bool bad] 202 (0, 0))

section
variable {w w' : World} {db : Nat} {s : ByteArray} {n : Nat} {bad : Bool} {tv lv av rv : Value}
theorem DB.at0 (h : DB w db s n bad tv lv av rv) : w.cell? ⟨db, 0, none⟩ = some (.string s) := by rw [cell_of_heap h]; rfl
theorem DB.at1 (h : DB w db s n bad tv lv av rv) : w.cell? ⟨db, 1, none⟩ = some (.int .i64 n) := by rw [cell_of_heap h]; rfl
theorem DB.at2 (h : DB w db s n bad tv lv av rv) : w.cell? ⟨db, 2, none⟩ = some tv := by rw [cell_of_heap h]; rfl
theorem DB.at3 (h : DB w db s n bad tv lv av rv) : w.cell? ⟨db, 3, none⟩ = some lv := by rw [cell_of_heap h]; rfl
theorem DB.at4 (h : DB w db s n bad tv lv av rv) : w.cell? ⟨db, 4, none⟩ = some av := by rw [cell_of_heap h]; rfl
theorem DB.at5 (h : DB w db s n bad tv lv av rv) : w.cell? ⟨db, 5, none⟩ = some rv := by rw [cell_of_heap h]; rfl
theorem DB.at6 (h : DB w db s n bad tv lv av rv) : w.cell? ⟨db, 6, none⟩ = some (.bool bad) := by rw [cell_of_heap h]; rfl
theorem DB.free (h : DB w db s n bad tv lv av rv) (o : Nat) : w.frozen? ⟨db, o, none⟩ = false := free_of_heap h
theorem DB.drewN (h : DB w db s n bad tv lv av rv) (k : Nat) : DB (w.drewN k) db s n bad tv lv av rv := h
theorem DB.set1 (h : DB w db s n bad tv lv av rv) (m : Nat) : DB (w.setCell ⟨db, 1, none⟩ (.int .i64 m)) db s m bad tv lv av rv := by unfold DB; rw [heap_setCell_same h]; rfl
theorem DB.set2 (h : DB w db s n bad tv lv av rv) (v : Value) : DB (w.setCell ⟨db, 2, none⟩ v) db s n bad v lv av rv := by unfold DB; rw [heap_setCell_same h]; rfl
theorem DB.set3 (h : DB w db s n bad tv lv av rv) (v : Value) : DB (w.setCell ⟨db, 3, none⟩ v) db s n bad tv v av rv := by unfold DB; rw [heap_setCell_same h]; rfl
theorem DB.set4 (h : DB w db s n bad tv lv av rv) (v : Value) : DB (w.setCell ⟨db, 4, none⟩ v) db s n bad tv lv v rv := by unfold DB; rw [heap_setCell_same h]; rfl
theorem DB.set5 (h : DB w db s n bad tv lv av rv) (v : Value) : DB (w.setCell ⟨db, 5, none⟩ v) db s n bad tv lv av v := by unfold DB; rw [heap_setCell_same h]; rfl
theorem DB.set6 (h : DB w db s n bad tv lv av rv) (b : Bool) : DB (w.setCell ⟨db, 6, none⟩ (.bool b)) db s n b tv lv av rv := by unfold DB; rw [heap_setCell_same h]; rfl
theorem DB.alloc (h : DB w db s n bad tv lv av rv) (o : Obj) : DB (w.alloc o) db s n bad tv lv av rv := by unfold DB; rw [Below.heap_alloc _ _ _ (lt_of_heap h)]; exact h
theorem DB.keep (h : DB w db s n bad tv lv av rv) {X : Nat → Prop} (hf : Fr X w w') (hx : ¬ X db) : DB w' db s n bad tv lv av rv := hf.keep h hx
theorem DB.ne (h : DB w db s n bad tv lv av rv) {b : Nat} {c : Array Value} {t : TypeId} {f : Nat × Nat} (hb : w.heap[b]? = some (.cells c t f)) (ht : t ≠ 202) : b ≠ db := by
  intro e'
  subst e'
  unfold DB at h
  rw [h] at hb
  simp at hb
  exact ht hb.2.1.symm
end

def rIs (s : ByteArray) (n : Nat) (bad : Bool) (c : Nat) : Bool := !bad && decide (byteAt s n = c)

theorem is_any {w : World} {db : Nat} {s : ByteArray} {n : Nat} {bad : Bool} {tv lv av rv : Value} (h : DB w db s n bad tv lv av rv) (hs : s.size ≤ maxLen) (hle : n ≤ s.size) (cI : Int) (c : Nat) (hc : cI = (c : Int)) (h256 : c < 256) :
    Calls Tryz.prog 240 #[.pointer (some ⟨db, 0, none⟩), .int .u8 cI] w fun e w' => e = .returned (.bool (rIs s n bad c)) ∧ ∃ k, w' = w.drewN k := by
  have h0 := h.at0
  have h1 := h.at1
  have h6 := h.at6
  have hs' := hs
  unfold maxLen at hs'
  clear h
  cases bad with
  | true =>
    have hR : Hid (rIs s n true c = false) := rfl
    clear hc
    go_enter Tryz.func240, Tryz.ntmps240
    go_wp2_with fail
    go_quiet (fail)
    go_wp2_with fail
    go_ret
    rw [hR.out]
    exact ⟨rfl, _, rfl⟩
  | false =>
    by_cases hn : n < s.size
    · have hnI : ((n : Nat) : Int) < ((s.size : Nat) : Int) := by omega
      have hR : Hid (rIs s n false c = ((s[n].toNat : Int) == cI)) := by
        show rIs s n false c = _
        unfold rIs
        rw [byteAt_lt hn, hc]
        rw [Bool.eq_iff_iff]
        simp
        omega
      clear hc
      go_enter Tryz.func240, Tryz.ntmps240
      go_wp2_with fail
      go_quiet (fail)
      go_wp2_with fail
      go_ret
      rw [hR.out]
      exact ⟨rfl, _, rfl⟩
    · have hd : decide (((n : Nat) : Int) < ((s.size : Nat) : Int)) = false := decide_eq_false (by omega)
      have hR : Hid (rIs s n false c = false) := by
        show rIs s n false c = _
        unfold rIs
        rw [byteAt_end hn]
        simp
        omega
      clear hc
      go_enter Tryz.func240, Tryz.ntmps240
      go_wp2_with fail
      go_quiet (fail)
      go_wp2_with fail
      go_ret
      rw [hR.out]
      exact ⟨rfl, _, rfl⟩

def mustN (s : ByteArray) (n : Nat) (bad : Bool) (c : Nat) : Nat := if rIs s n bad c then n + 1 else n
def mustB (s : ByteArray) (n : Nat) (bad : Bool) (c : Nat) : Bool := if rIs s n bad c then false else true

theorem must_any {w : World} {db : Nat} {s : ByteArray} {n : Nat} {bad : Bool} {tv lv av rv : Value} (h : DB w db s n bad tv lv av rv) (hs : s.size ≤ maxLen) (hle : n ≤ s.size) (cI : Int) (c : Nat) (hc : cI = (c : Int)) (h256 : c < 256) :
    Calls Tryz.prog 167 #[.pointer (some ⟨db, 0, none⟩), .int .u8 cI] w fun e w' => e = .returned (.tuple #[]) ∧ Fr (One db) w w' ∧ DB w' db s (mustN s n bad c) (mustB s n bad c) tv lv av rv ∧ mustN s n bad c ≤ s.size := by
  have HD := hide h
  have HI := hide (is_any h hs hle cI c hc h256)
  have hs' := hs
  unfold maxLen at hs'
  clear h hc
  go_enter Tryz.func167, Tryz.ntmps167
  go_wp2_with fail
  refine HI.out.mono ?_
  rintro e w1 ⟨rfl, k, hw1⟩
  have hD1 : DB w1 db s n bad tv lv av rv := by rw [hw1]; exact HD
  have c1 := hD1.at1
  have c6 := hD1.at6
  have f1 := hD1.free 1
  have f6 := hD1.free 6
  have HD1 := hide hD1
  have HF1 : Hid (Fr (One db) w w1) := by show Fr _ _ _; rw [hw1]; exact Fr.drewN _ _ _
  clear hw1 hD1
  rcases hr : rIs s n bad c with _ | _
  · have e1 : Hid (mustN s n bad c = n) := by show _ = _; unfold mustN; rw [hr]; rfl
    have e2 : Hid (mustB s n bad c = true) := by show _ = _; unfold mustB; rw [hr]; rfl
    clear hr
    go_wp2_with fail
    refine bodyPost_ret (v := .tuple #[]) (by simp [results, Tryz.results167, go_sem]) rfl ?_
    rw [e1.out, e2.out]
    exact ⟨rfl, HF1.out.trans (Fr.setCell _ _ _ _ (show One db db from rfl)), HD1.out.set6 true, hle⟩
  · have e1 : Hid (mustN s n bad c = n + 1) := by show _ = _; unfold mustN; rw [hr]; rfl
    have e2 : Hid (mustB s n bad c = bad) := by
      show _ = _
      unfold mustB
      rw [hr]
      unfold rIs at hr
      simp at hr
      simp [hr.1]
    have hn : n + 1 ≤ s.size := by
      unfold rIs at hr
      simp at hr
      exact byteAt_in (by omega)
    clear hr
    go_wp2_with fail
    go_end0
    rw [e1.out, e2.out]
    exact ⟨rfl, HF1.out.trans (Fr.setCell _ _ _ _ (show One db db from rfl)), HD1.out.set1 (n + 1), hn⟩

end Go.Proofs.YtnhkalnihjkoeaaGreatDoor

namespace Go.Proofs.YtnhkalnihjkoeaaGreatDoor
open Go.RowKit

def isLetter (s : ByteArray) (n : Nat) : Bool := decide (97 ≤ byteAt s n ∧ byteAt s n ≤ 122)
/-- Are there more than six letters? -/
def tooMany (s : ByteArray) (n : Nat) : Bool := decide (lettersTo s n 6 = n + 6) && isLetter s (n + 6)
def wordN (s : ByteArray) (n : Nat) (bad : Bool) : Nat := if bad then n else lettersTo s n 6
def wordB (s : ByteArray) (n : Nat) (bad : Bool) : Bool := bad || tooMany s n || decide (lettersTo s n 6 = n)
def wordS (s : ByteArray) (n : Nat) (bad : Bool) : ByteArray := if bad then ByteArray.empty else if tooMany s n then ⟨#[]⟩ else nameAt s n

/-- Where the reader stands. -/
def placeD (db : Nat) (w : World) : Nat := match w.cell? ⟨db, 1, none⟩ with
  | some (.int _ q) => q.toNat
  | _ => 0
theorem DB.place {w : World} {db : Nat} {s : ByteArray} {n : Nat} {bad : Bool} {tv lv av rv : Value} (h : DB w db s n bad tv lv av rv) : placeD db w = n := by
  unfold placeD; rw [h.at1]; simp

set_option maxHeartbeats 4000000 in
theorem word_any {w : World} {db : Nat} {s : ByteArray} {n : Nat} {bad : Bool} {tv lv av rv : Value} (h : DB w db s n bad tv lv av rv) (hs : s.size ≤ maxLen) (hle : n ≤ s.size) :
    Calls Tryz.prog 238 #[.pointer (some ⟨db, 0, none⟩)] w fun e w' => e = .returned (.string (wordS s n bad)) ∧ Fr (One db) w w' ∧ DB w' db s (wordN s n bad) (wordB s n bad) tv lv av rv ∧ wordN s n bad ≤ s.size := by
  have hs' := hs
  unfold maxLen at hs'
  have h1 := h.at1
  cases bad with
  | true =>
    have h0 := h.at0
    have h6 := h.at6
    have f6 := h.free 6
    have HD := hide h
    clear h
    go_enter Tryz.func238, Tryz.ntmps238
    go_wp2_with fail
    refine wp_loop_rounds 1 ?_
    rw [rounds_succ]
    go_wp2_with fail
    go_quiet (fail)
    go_wp2_with fail
    have hnI : ((n : Nat) : Int) ≤ ((s.size : Nat) : Int) := by omega
    clear h0 h1 h6 f6
    have hD2 : DB ((w.drewN nq).setCell ⟨db, 6, none⟩ (.bool true)) db s n true tv lv av rv := (HD.out.drewN nq).set6 true
    have HF2 : Hid (Fr (One db) w ((w.drewN nq).setCell ⟨db, 6, none⟩ (.bool true))) := (Fr.refl _ _).trans ((Fr.drewN _ _ nq).trans (Fr.setCell _ _ _ _ (show One db db from rfl)))
    generalize (w.drewN nq).setCell ⟨db, 6, none⟩ (.bool true) = w2 at *
    have k0 := hD2.at0
    have k1 := hD2.at1
    have HD2 := hide hD2
    clear hD2
    go_quiet (fail)
    go_wp2_with fail
    go_ret
    exact ⟨rfl, HF2.out.trans (Fr.drewN _ _ _), HD2.out.drewN _, hle⟩
  | false =>
    have HD := hide h
    have hN : Hid (wordN s n false = lettersTo s n 6) := rfl
    have hLe := lettersTo_le s 6 n hle
    clear h
    go_enter Tryz.func238, Tryz.ntmps238
    go_wp2_with fail
    clear h1
    go_loopw [2] (fun v wr => v = .string ⟨#[]⟩ ∧ ∃ m : Nat, n ≤ m ∧ m ≤ n + 6 ∧ m ≤ s.size ∧ Hid (lettersTo s n 6 = lettersTo s m (6 - (m - n))) ∧ Hid (DB wr db s m false tv lv av rv) ∧ Hid (Fr (One db) w wr)) (fun _ wr => s.size + 1 - placeD db wr)
    case atStart => exact ⟨rfl, n, Nat.le_refl _, by omega, hle, by rw [Nat.sub_self]; rfl, HD, Fr.refl _ _⟩
    case round =>
      obtain ⟨rfl, m, hnm, hm6, hms, HL, HDr, HF⟩ := hrel
      have h0 := HDr.out.at0
      have h1 := HDr.out.at1
      have h6 := HDr.out.at6
      have f6 := HDr.out.free 6
      have f1 := HDr.out.free 1
      have HPL := hide HDr.out.place
      have hmI : ((n : Nat) : Int) ≤ ((m : Nat) : Int) := by omega
      by_cases hlt : m < s.size
      · have hltI : ((m : Nat) : Int) < ((s.size : Nat) : Int) := by omega
        have hb := byteAt_lt hlt
        by_cases ha : 97 ≤ s[m].toNat
        · have haI : (97 : Int) ≤ ((s[m].toNat : Nat) : Int) := by omega
          by_cases hz : s[m].toNat ≤ 122
          · have hzI : ((s[m].toNat : Nat) : Int) ≤ (122 : Int) := by omega
            have HLET : Hid (97 ≤ byteAt s m ∧ byteAt s m ≤ 122) := by show _ ∧ _; rw [hb]; exact ⟨ha, hz⟩
            clear hb
            by_cases h6m : m = n + 6
            · have hq : (((m : Nat) : Int) - ((n : Nat) : Int) == 6) = true := beq_iff_eq.2 (by omega)
              have HT : Hid (tooMany s n = true ∧ lettersTo s n 6 = m) := by
                have e : lettersTo s n 6 = m := HL.out.trans (by rw [show 6 - (m - n) = 0 by omega]; rfl)
                refine ⟨?_, e⟩
                unfold tooMany isLetter
                rw [e, ← h6m]
                simp [HLET.out]
              clear ha hz h6m
              go_wp2_with fail
              go_quiet (fail)
              go_wp2_with fail
              go_ret
              have eS : wordS s n false = ⟨#[]⟩ := by simp [wordS, HT.out.1]
              have eB : wordB s n false = true := by simp [wordB, HT.out.1]
              rw [hN.out, HT.out.2, eS, eB]
              exact ⟨rfl, HF.out.trans ((Fr.drewN _ _ _).trans (Fr.setCell _ _ _ _ (show One db db from rfl))), (HDr.out.drewN _).set6 true, hms⟩
            · have hq : (((m : Nat) : Int) - ((n : Nat) : Int) == 6) = false := beq_eq_false_iff_ne.2 (by omega)
              have HM := hide h6m
              clear ha hz h6m
              go_wp2_with fail
              go_quiet (fail)
              go_wp2_with fail
              go_roundw
              case rel =>
                have := HM.out
                refine ⟨rfl, m + 1, by omega, by omega, by omega, ?_, (HDr.out.drewN _).set1 (m + 1), HF.out.trans ((Fr.drewN _ _ _).trans (Fr.setCell _ _ _ _ (show One db db from rfl)))⟩
                show lettersTo s n 6 = _
                rw [HL.out, show 6 - (m - n) = (6 - (m + 1 - n)) + 1 by omega]
                exact lettersTo_more s m _ HLET
              case measure =>
                have e := ((HDr.out.drewN nq).set1 (m + 1)).place
                rw [HPL.out]
                show s.size + 1 - placeD db _ < _
                rw [show placeD db ((wr.drewN nq).setCell ⟨db, 1, none⟩ (.int .i64 ((m : Int) + 1))) = m + 1 from e]
                omega
          · have hzI : decide (((s[m].toNat : Nat) : Int) ≤ (122 : Int)) = false := decide_eq_false (by omega)
            have HST : Hid (¬ (97 ≤ byteAt s m ∧ byteAt s m ≤ 122)) := by show ¬ _; rw [hb]; omega
            clear hb ha hz
            have HEQ : Hid (lettersTo s n 6 = m) := HL.out.trans (lettersTo_stop s m _ HST)
            have hTM : Hid (tooMany s n = false) := by
              show tooMany s n = false
              unfold tooMany
              rw [HEQ.out]
              by_cases e : m = n + 6
              · unfold isLetter
                rw [← e]
                simp [HST.out]
              · simp [e]
            have eS : Hid (wordS s n false = s.extract n m) := by show wordS s n false = _; simp [wordS, hTM.out, nameAt, HEQ.out]
            have hmsI : ((m : Nat) : Int) ≤ ((s.size : Nat) : Int) := by omega
            by_cases hmn : m = n
            · have hq : (((m : Nat) : Int) == ((n : Nat) : Int)) = true := beq_iff_eq.2 (by omega)
              have eB : Hid (wordB s n false = true) := by show wordB s n false = _; simp [wordB, hTM.out, HEQ.out, hmn]
              clear hmn HST hTM
              go_wp2_with fail
              go_quiet (fail)
              go_wp2_with fail
              clear h0 h1 h6 f6 f1
              have hD2 : DB ((wr.drewN nq).setCell ⟨db, 6, none⟩ (.bool true)) db s m true tv lv av rv := (HDr.out.drewN nq).set6 true
              have HF2 : Hid (Fr (One db) w ((wr.drewN nq).setCell ⟨db, 6, none⟩ (.bool true))) := HF.out.trans ((Fr.drewN _ _ nq).trans (Fr.setCell _ _ _ _ (show One db db from rfl)))
              generalize (wr.drewN nq).setCell ⟨db, 6, none⟩ (.bool true) = w2 at *
              have k0 := hD2.at0
              have k1 := hD2.at1
              have HD2 := hide hD2
              clear hD2
              go_quiet (fail)
              go_wp2_with fail
              go_ret
              rw [hN.out, HEQ.out, eS.out, eB.out]
              exact ⟨rfl, HF2.out.trans (Fr.drewN _ _ _), HD2.out.drewN _, hms⟩
            · have hq : (((m : Nat) : Int) == ((n : Nat) : Int)) = false := beq_eq_false_iff_ne.2 (by omega)
              have eB : Hid (wordB s n false = false) := by show wordB s n false = _; simp [wordB, hTM.out, HEQ.out, hmn]
              clear hmn HST hTM
              go_wp2_with fail
              go_quiet (fail)
              go_wp2_with fail
              clear h0 h1 h6 f6 f1
              have hD2 : DB ((wr.drewN nq).setCell ⟨db, 6, none⟩ (.bool false)) db s m false tv lv av rv := (HDr.out.drewN nq).set6 false
              have HF2 : Hid (Fr (One db) w ((wr.drewN nq).setCell ⟨db, 6, none⟩ (.bool false))) := HF.out.trans ((Fr.drewN _ _ nq).trans (Fr.setCell _ _ _ _ (show One db db from rfl)))
              generalize (wr.drewN nq).setCell ⟨db, 6, none⟩ (.bool false) = w2 at *
              have k0 := hD2.at0
              have k1 := hD2.at1
              have HD2 := hide hD2
              clear hD2
              go_quiet (fail)
              go_wp2_with fail
              go_ret
              rw [hN.out, HEQ.out, eS.out, eB.out]
              exact ⟨rfl, HF2.out.trans (Fr.drewN _ _ _), HD2.out.drewN _, hms⟩
        · have haI : decide ((97 : Int) ≤ ((s[m].toNat : Nat) : Int)) = false := decide_eq_false (by omega)
          have HST : Hid (¬ (97 ≤ byteAt s m ∧ byteAt s m ≤ 122)) := by show ¬ _; rw [hb]; omega
          clear hb ha
          have HEQ : Hid (lettersTo s n 6 = m) := HL.out.trans (lettersTo_stop s m _ HST)
          have hTM : Hid (tooMany s n = false) := by
            show tooMany s n = false
            unfold tooMany
            rw [HEQ.out]
            by_cases e : m = n + 6
            · unfold isLetter
              rw [← e]
              simp [HST.out]
            · simp [e]
          have eS : Hid (wordS s n false = s.extract n m) := by show wordS s n false = _; simp [wordS, hTM.out, nameAt, HEQ.out]
          have hmsI : ((m : Nat) : Int) ≤ ((s.size : Nat) : Int) := by omega
          by_cases hmn : m = n
          · have hq : (((m : Nat) : Int) == ((n : Nat) : Int)) = true := beq_iff_eq.2 (by omega)
            have eB : Hid (wordB s n false = true) := by show wordB s n false = _; simp [wordB, hTM.out, HEQ.out, hmn]
            clear hmn HST hTM
            go_wp2_with fail
            go_quiet (fail)
            go_wp2_with fail
            clear h0 h1 h6 f6 f1
            have hD2 : DB ((wr.drewN nq).setCell ⟨db, 6, none⟩ (.bool true)) db s m true tv lv av rv := (HDr.out.drewN nq).set6 true
            have HF2 : Hid (Fr (One db) w ((wr.drewN nq).setCell ⟨db, 6, none⟩ (.bool true))) := HF.out.trans ((Fr.drewN _ _ nq).trans (Fr.setCell _ _ _ _ (show One db db from rfl)))
            generalize (wr.drewN nq).setCell ⟨db, 6, none⟩ (.bool true) = w2 at *
            have k0 := hD2.at0
            have k1 := hD2.at1
            have HD2 := hide hD2
            clear hD2
            go_quiet (fail)
            go_wp2_with fail
            go_ret
            rw [hN.out, HEQ.out, eS.out, eB.out]
            exact ⟨rfl, HF2.out.trans (Fr.drewN _ _ _), HD2.out.drewN _, hms⟩
          · have hq : (((m : Nat) : Int) == ((n : Nat) : Int)) = false := beq_eq_false_iff_ne.2 (by omega)
            have eB : Hid (wordB s n false = false) := by show wordB s n false = _; simp [wordB, hTM.out, HEQ.out, hmn]
            clear hmn HST hTM
            go_wp2_with fail
            go_quiet (fail)
            go_wp2_with fail
            clear h0 h1 h6 f6 f1
            have hD2 : DB ((wr.drewN nq).setCell ⟨db, 6, none⟩ (.bool false)) db s m false tv lv av rv := (HDr.out.drewN nq).set6 false
            have HF2 : Hid (Fr (One db) w ((wr.drewN nq).setCell ⟨db, 6, none⟩ (.bool false))) := HF.out.trans ((Fr.drewN _ _ nq).trans (Fr.setCell _ _ _ _ (show One db db from rfl)))
            generalize (wr.drewN nq).setCell ⟨db, 6, none⟩ (.bool false) = w2 at *
            have k0 := hD2.at0
            have k1 := hD2.at1
            have HD2 := hide hD2
            clear hD2
            go_quiet (fail)
            go_wp2_with fail
            go_ret
            rw [hN.out, HEQ.out, eS.out, eB.out]
            exact ⟨rfl, HF2.out.trans (Fr.drewN _ _ _), HD2.out.drewN _, hms⟩
      · have hltN : decide (m < s.size) = false := decide_eq_false (by omega)
        have HST : Hid (¬ (97 ≤ byteAt s m ∧ byteAt s m ≤ 122)) := by show ¬ _; rw [byteAt_end hlt]; omega
        clear hlt
        have HEQ : Hid (lettersTo s n 6 = m) := HL.out.trans (lettersTo_stop s m _ HST)
        have hTM : Hid (tooMany s n = false) := by
          show tooMany s n = false
          unfold tooMany
          rw [HEQ.out]
          by_cases e : m = n + 6
          · unfold isLetter
            rw [← e]
            simp [HST.out]
          · simp [e]
        have eS : Hid (wordS s n false = s.extract n m) := by show wordS s n false = _; simp [wordS, hTM.out, nameAt, HEQ.out]
        have hmsI : ((m : Nat) : Int) ≤ ((s.size : Nat) : Int) := by omega
        by_cases hmn : m = n
        · have hq : (((m : Nat) : Int) == ((n : Nat) : Int)) = true := beq_iff_eq.2 (by omega)
          have eB : Hid (wordB s n false = true) := by show wordB s n false = _; simp [wordB, hTM.out, HEQ.out, hmn]
          clear hmn HST hTM
          go_wp2_with fail
          go_quiet (fail)
          go_wp2_with fail
          clear h0 h1 h6 f6 f1
          have hD2 : DB ((wr.drewN nq).setCell ⟨db, 6, none⟩ (.bool true)) db s m true tv lv av rv := (HDr.out.drewN nq).set6 true
          have HF2 : Hid (Fr (One db) w ((wr.drewN nq).setCell ⟨db, 6, none⟩ (.bool true))) := HF.out.trans ((Fr.drewN _ _ nq).trans (Fr.setCell _ _ _ _ (show One db db from rfl)))
          generalize (wr.drewN nq).setCell ⟨db, 6, none⟩ (.bool true) = w2 at *
          have k0 := hD2.at0
          have k1 := hD2.at1
          have HD2 := hide hD2
          clear hD2
          go_quiet (fail)
          go_wp2_with fail
          go_ret
          rw [hN.out, HEQ.out, eS.out, eB.out]
          exact ⟨rfl, HF2.out.trans (Fr.drewN _ _ _), HD2.out.drewN _, hms⟩
        · have hq : (((m : Nat) : Int) == ((n : Nat) : Int)) = false := beq_eq_false_iff_ne.2 (by omega)
          have eB : Hid (wordB s n false = false) := by show wordB s n false = _; simp [wordB, hTM.out, HEQ.out, hmn]
          clear hmn HST hTM
          go_wp2_with fail
          go_quiet (fail)
          go_wp2_with fail
          clear h0 h1 h6 f6 f1
          have hD2 : DB ((wr.drewN nq).setCell ⟨db, 6, none⟩ (.bool false)) db s m false tv lv av rv := (HDr.out.drewN nq).set6 false
          have HF2 : Hid (Fr (One db) w ((wr.drewN nq).setCell ⟨db, 6, none⟩ (.bool false))) := HF.out.trans ((Fr.drewN _ _ nq).trans (Fr.setCell _ _ _ _ (show One db db from rfl)))
          generalize (wr.drewN nq).setCell ⟨db, 6, none⟩ (.bool false) = w2 at *
          have k0 := hD2.at0
          have k1 := hD2.at1
          have HD2 := hide hD2
          clear hD2
          go_quiet (fail)
          go_wp2_with fail
          go_ret
          rw [hN.out, HEQ.out, eS.out, eB.out]
          exact ⟨rfl, HF2.out.trans (Fr.drewN _ _ _), HD2.out.drewN _, hms⟩

end Go.Proofs.YtnhkalnihjkoeaaGreatDoor

namespace Go.Proofs.YtnhkalnihjkoeaaGreatDoor
open Go.RowKit

theorem wdl0 (nm : ByteArray) : (([98, 121, 116, 101] : List UInt8) == nm.toList) = decide (wd 0 = nm) := by rw [← strEq, ByteArray.toList_eq (wd 0)]; rfl
theorem wdl1 (nm : ByteArray) : (([115, 104, 111, 114, 116] : List UInt8) == nm.toList) = decide (wd 1 = nm) := by rw [← strEq, ByteArray.toList_eq (wd 1)]; rfl
theorem wdl2 (nm : ByteArray) : (([119, 111, 114, 100] : List UInt8) == nm.toList) = decide (wd 2 = nm) := by rw [← strEq, ByteArray.toList_eq (wd 2)]; rfl
theorem wdl3 (nm : ByteArray) : (([105, 110, 116] : List UInt8) == nm.toList) = decide (wd 3 = nm) := by rw [← strEq, ByteArray.toList_eq (wd 3)]; rfl
theorem wdl4 (nm : ByteArray) : (([98, 111, 111, 108] : List UInt8) == nm.toList) = decide (wd 4 = nm) := by rw [← strEq, ByteArray.toList_eq (wd 4)]; rfl
theorem wdl5 (nm : ByteArray) : (([116, 101, 120, 116] : List UInt8) == nm.toList) = decide (wd 5 = nm) := by rw [← strEq, ByteArray.toList_eq (wd 5)]; rfl
theorem wdl6 (nm : ByteArray) : (([98, 121, 116, 101, 115] : List UInt8) == nm.toList) = decide (wd 6 = nm) := by rw [← strEq, ByteArray.toList_eq (wd 6)]; rfl

set_option maxRecDepth 100000 in
set_option maxHeartbeats 4000000 in
theorem wordKind_no (nm : ByteArray) (w : World) (hno : ∀ i, i < 7 → wd i ≠ nm) :
    Calls Tryz.prog 239 #[.string nm] w fun e w' => e = .returned (.int .i64 (-1)) ∧ Fr Zero w w' := by
  have n0 : (([98, 121, 116, 101] : List UInt8) == nm.toList) = false := by rw [wdl0]; exact decide_eq_false (hno 0 (by omega))
  have n1 : (([115, 104, 111, 114, 116] : List UInt8) == nm.toList) = false := by rw [wdl1]; exact decide_eq_false (hno 1 (by omega))
  have n2 : (([119, 111, 114, 100] : List UInt8) == nm.toList) = false := by rw [wdl2]; exact decide_eq_false (hno 2 (by omega))
  have n3 : (([105, 110, 116] : List UInt8) == nm.toList) = false := by rw [wdl3]; exact decide_eq_false (hno 3 (by omega))
  have n4 : (([98, 111, 111, 108] : List UInt8) == nm.toList) = false := by rw [wdl4]; exact decide_eq_false (hno 4 (by omega))
  have n5 : (([116, 101, 120, 116] : List UInt8) == nm.toList) = false := by rw [wdl5]; exact decide_eq_false (hno 5 (by omega))
  have n6 : (([98, 121, 116, 101, 115] : List UInt8) == nm.toList) = false := by rw [wdl6]; exact decide_eq_false (hno 6 (by omega))
  clear hno
  go_enter Tryz.func239, Tryz.ntmps239
  go_wp2
  refine wp_loop_rounds 8 ?_
  rw [rounds_succ]; go_wp2
  rw [rounds_succ]; go_wp2
  rw [rounds_succ]; go_wp2
  rw [rounds_succ]; go_wp2
  rw [rounds_succ]; go_wp2
  rw [rounds_succ]; go_wp2
  rw [rounds_succ]; go_wp2
  rw [rounds_succ]; go_wp2
  go_ret
  exact ⟨rfl, Fr.alloc _ _ _⟩

set_option maxRecDepth 100000 in
set_option maxHeartbeats 4000000 in
theorem wordKind_yes0 (w : World) :
    Calls Tryz.prog 239 #[.string (wd 0)] w fun e w' => e = .returned (.int .i64 0) ∧ Fr Zero w w' := by
  have n0 : (([98, 121, 116, 101] : List UInt8) == (wd 0).toList) = true := by rw [wdl0]; exact decide_eq_true rfl
  generalize wd 0 = nm at *
  go_enter Tryz.func239, Tryz.ntmps239
  go_wp2
  refine wp_loop_rounds 8 ?_
  rw [rounds_succ]; go_wp2
  go_ret
  exact ⟨rfl, Fr.alloc _ _ _⟩

set_option maxRecDepth 100000 in
set_option maxHeartbeats 4000000 in
theorem wordKind_yes1 (w : World) :
    Calls Tryz.prog 239 #[.string (wd 1)] w fun e w' => e = .returned (.int .i64 1) ∧ Fr Zero w w' := by
  have n0 : (([98, 121, 116, 101] : List UInt8) == (wd 1).toList) = false := by rw [wdl0]; exact decide_eq_false (wd_ne 0 (by omega) 1 (by omega) (by omega))
  have n1 : (([115, 104, 111, 114, 116] : List UInt8) == (wd 1).toList) = true := by rw [wdl1]; exact decide_eq_true rfl
  generalize wd 1 = nm at *
  go_enter Tryz.func239, Tryz.ntmps239
  go_wp2
  refine wp_loop_rounds 8 ?_
  rw [rounds_succ]; go_wp2
  rw [rounds_succ]; go_wp2
  go_ret
  exact ⟨rfl, Fr.alloc _ _ _⟩

set_option maxRecDepth 100000 in
set_option maxHeartbeats 4000000 in
theorem wordKind_yes2 (w : World) :
    Calls Tryz.prog 239 #[.string (wd 2)] w fun e w' => e = .returned (.int .i64 2) ∧ Fr Zero w w' := by
  have n0 : (([98, 121, 116, 101] : List UInt8) == (wd 2).toList) = false := by rw [wdl0]; exact decide_eq_false (wd_ne 0 (by omega) 2 (by omega) (by omega))
  have n1 : (([115, 104, 111, 114, 116] : List UInt8) == (wd 2).toList) = false := by rw [wdl1]; exact decide_eq_false (wd_ne 1 (by omega) 2 (by omega) (by omega))
  have n2 : (([119, 111, 114, 100] : List UInt8) == (wd 2).toList) = true := by rw [wdl2]; exact decide_eq_true rfl
  generalize wd 2 = nm at *
  go_enter Tryz.func239, Tryz.ntmps239
  go_wp2
  refine wp_loop_rounds 8 ?_
  rw [rounds_succ]; go_wp2
  rw [rounds_succ]; go_wp2
  rw [rounds_succ]; go_wp2
  go_ret
  exact ⟨rfl, Fr.alloc _ _ _⟩

set_option maxRecDepth 100000 in
set_option maxHeartbeats 4000000 in
theorem wordKind_yes3 (w : World) :
    Calls Tryz.prog 239 #[.string (wd 3)] w fun e w' => e = .returned (.int .i64 3) ∧ Fr Zero w w' := by
  have n0 : (([98, 121, 116, 101] : List UInt8) == (wd 3).toList) = false := by rw [wdl0]; exact decide_eq_false (wd_ne 0 (by omega) 3 (by omega) (by omega))
  have n1 : (([115, 104, 111, 114, 116] : List UInt8) == (wd 3).toList) = false := by rw [wdl1]; exact decide_eq_false (wd_ne 1 (by omega) 3 (by omega) (by omega))
  have n2 : (([119, 111, 114, 100] : List UInt8) == (wd 3).toList) = false := by rw [wdl2]; exact decide_eq_false (wd_ne 2 (by omega) 3 (by omega) (by omega))
  have n3 : (([105, 110, 116] : List UInt8) == (wd 3).toList) = true := by rw [wdl3]; exact decide_eq_true rfl
  generalize wd 3 = nm at *
  go_enter Tryz.func239, Tryz.ntmps239
  go_wp2
  refine wp_loop_rounds 8 ?_
  rw [rounds_succ]; go_wp2
  rw [rounds_succ]; go_wp2
  rw [rounds_succ]; go_wp2
  rw [rounds_succ]; go_wp2
  go_ret
  exact ⟨rfl, Fr.alloc _ _ _⟩

set_option maxRecDepth 100000 in
set_option maxHeartbeats 4000000 in
theorem wordKind_yes4 (w : World) :
    Calls Tryz.prog 239 #[.string (wd 4)] w fun e w' => e = .returned (.int .i64 4) ∧ Fr Zero w w' := by
  have n0 : (([98, 121, 116, 101] : List UInt8) == (wd 4).toList) = false := by rw [wdl0]; exact decide_eq_false (wd_ne 0 (by omega) 4 (by omega) (by omega))
  have n1 : (([115, 104, 111, 114, 116] : List UInt8) == (wd 4).toList) = false := by rw [wdl1]; exact decide_eq_false (wd_ne 1 (by omega) 4 (by omega) (by omega))
  have n2 : (([119, 111, 114, 100] : List UInt8) == (wd 4).toList) = false := by rw [wdl2]; exact decide_eq_false (wd_ne 2 (by omega) 4 (by omega) (by omega))
  have n3 : (([105, 110, 116] : List UInt8) == (wd 4).toList) = false := by rw [wdl3]; exact decide_eq_false (wd_ne 3 (by omega) 4 (by omega) (by omega))
  have n4 : (([98, 111, 111, 108] : List UInt8) == (wd 4).toList) = true := by rw [wdl4]; exact decide_eq_true rfl
  generalize wd 4 = nm at *
  go_enter Tryz.func239, Tryz.ntmps239
  go_wp2
  refine wp_loop_rounds 8 ?_
  rw [rounds_succ]; go_wp2
  rw [rounds_succ]; go_wp2
  rw [rounds_succ]; go_wp2
  rw [rounds_succ]; go_wp2
  rw [rounds_succ]; go_wp2
  go_ret
  exact ⟨rfl, Fr.alloc _ _ _⟩

set_option maxRecDepth 100000 in
set_option maxHeartbeats 4000000 in
theorem wordKind_yes5 (w : World) :
    Calls Tryz.prog 239 #[.string (wd 5)] w fun e w' => e = .returned (.int .i64 5) ∧ Fr Zero w w' := by
  have n0 : (([98, 121, 116, 101] : List UInt8) == (wd 5).toList) = false := by rw [wdl0]; exact decide_eq_false (wd_ne 0 (by omega) 5 (by omega) (by omega))
  have n1 : (([115, 104, 111, 114, 116] : List UInt8) == (wd 5).toList) = false := by rw [wdl1]; exact decide_eq_false (wd_ne 1 (by omega) 5 (by omega) (by omega))
  have n2 : (([119, 111, 114, 100] : List UInt8) == (wd 5).toList) = false := by rw [wdl2]; exact decide_eq_false (wd_ne 2 (by omega) 5 (by omega) (by omega))
  have n3 : (([105, 110, 116] : List UInt8) == (wd 5).toList) = false := by rw [wdl3]; exact decide_eq_false (wd_ne 3 (by omega) 5 (by omega) (by omega))
  have n4 : (([98, 111, 111, 108] : List UInt8) == (wd 5).toList) = false := by rw [wdl4]; exact decide_eq_false (wd_ne 4 (by omega) 5 (by omega) (by omega))
  have n5 : (([116, 101, 120, 116] : List UInt8) == (wd 5).toList) = true := by rw [wdl5]; exact decide_eq_true rfl
  generalize wd 5 = nm at *
  go_enter Tryz.func239, Tryz.ntmps239
  go_wp2
  refine wp_loop_rounds 8 ?_
  rw [rounds_succ]; go_wp2
  rw [rounds_succ]; go_wp2
  rw [rounds_succ]; go_wp2
  rw [rounds_succ]; go_wp2
  rw [rounds_succ]; go_wp2
  rw [rounds_succ]; go_wp2
  go_ret
  exact ⟨rfl, Fr.alloc _ _ _⟩

set_option maxRecDepth 100000 in
set_option maxHeartbeats 4000000 in
theorem wordKind_yes6 (w : World) :
    Calls Tryz.prog 239 #[.string (wd 6)] w fun e w' => e = .returned (.int .i64 6) ∧ Fr Zero w w' := by
  have n0 : (([98, 121, 116, 101] : List UInt8) == (wd 6).toList) = false := by rw [wdl0]; exact decide_eq_false (wd_ne 0 (by omega) 6 (by omega) (by omega))
  have n1 : (([115, 104, 111, 114, 116] : List UInt8) == (wd 6).toList) = false := by rw [wdl1]; exact decide_eq_false (wd_ne 1 (by omega) 6 (by omega) (by omega))
  have n2 : (([119, 111, 114, 100] : List UInt8) == (wd 6).toList) = false := by rw [wdl2]; exact decide_eq_false (wd_ne 2 (by omega) 6 (by omega) (by omega))
  have n3 : (([105, 110, 116] : List UInt8) == (wd 6).toList) = false := by rw [wdl3]; exact decide_eq_false (wd_ne 3 (by omega) 6 (by omega) (by omega))
  have n4 : (([98, 111, 111, 108] : List UInt8) == (wd 6).toList) = false := by rw [wdl4]; exact decide_eq_false (wd_ne 4 (by omega) 6 (by omega) (by omega))
  have n5 : (([116, 101, 120, 116] : List UInt8) == (wd 6).toList) = false := by rw [wdl5]; exact decide_eq_false (wd_ne 5 (by omega) 6 (by omega) (by omega))
  have n6 : (([98, 121, 116, 101, 115] : List UInt8) == (wd 6).toList) = true := by rw [wdl6]; exact decide_eq_true rfl
  generalize wd 6 = nm at *
  go_enter Tryz.func239, Tryz.ntmps239
  go_wp2
  refine wp_loop_rounds 8 ?_
  rw [rounds_succ]; go_wp2
  rw [rounds_succ]; go_wp2
  rw [rounds_succ]; go_wp2
  rw [rounds_succ]; go_wp2
  rw [rounds_succ]; go_wp2
  rw [rounds_succ]; go_wp2
  rw [rounds_succ]; go_wp2
  go_ret
  exact ⟨rfl, Fr.alloc _ _ _⟩

/-- The number of a word; -1: none. -/
def kindOf (nm : ByteArray) : Int := match wordIdx nm with
  | some k => (k : Int)
  | none => -1

theorem wordKind_any (nm : ByteArray) (w : World) :
    Calls Tryz.prog 239 #[.string nm] w fun e w' => e = .returned (.int .i64 (kindOf nm)) ∧ Fr Zero w w' := by
  unfold kindOf
  rcases hk : wordIdx nm with _ | k
  · exact wordKind_no nm w (wordIdx_none hk)
  · obtain ⟨h7, rfl⟩ := wordIdx_some hk
    match k, h7 with
    | 0, _ => exact wordKind_yes0 w
    | 1, _ => exact wordKind_yes1 w
    | 2, _ => exact wordKind_yes2 w
    | 3, _ => exact wordKind_yes3 w
    | 4, _ => exact wordKind_yes4 w
    | 5, _ => exact wordKind_yes5 w
    | 6, _ => exact wordKind_yes6 w

end Go.Proofs.YtnhkalnihjkoeaaGreatDoor

namespace Go.Proofs.YtnhkalnihjkoeaaGreatDoor
open Go.RowKit

def nameB (s : ByteArray) (n : Nat) (bad : Bool) : Bool := wordB s n bad || (wordIdx (wordS s n bad)).isSome

theorem kindOf_nonneg (nm : ByteArray) : decide (0 ≤ kindOf nm) = (wordIdx nm).isSome := by
  unfold kindOf
  rcases wordIdx nm with _ | k
  · rfl
  · simp

set_option maxHeartbeats 1000000 in
theorem name_any {w : World} {db : Nat} {s : ByteArray} {n : Nat} {bad : Bool} {tv lv av rv : Value} (h : DB w db s n bad tv lv av rv) (hs : s.size ≤ maxLen) (hle : n ≤ s.size) :
    Calls Tryz.prog 166 #[.pointer (some ⟨db, 0, none⟩)] w fun e w' => e = .returned (.string (wordS s n bad)) ∧ Fr (One db) w w' ∧ DB w' db s (wordN s n bad) (nameB s n bad) tv lv av rv ∧ wordN s n bad ≤ s.size := by
  have HD := hide h
  clear h
  go_enter Tryz.func166, Tryz.ntmps166
  go_wp2_with fail
  refine (word_any HD hs hle).mono ?_
  have hB : Hid (nameB s n bad = (wordB s n bad || (wordIdx (wordS s n bad)).isSome)) := rfl
  rintro e w1 ⟨rfl, hF1, hD1, hn1⟩
  have HF1 := hide hF1
  have HD1 := hide hD1
  clear hF1 hD1
  generalize hS : wordS s n bad = nm at *
  have HS := hide hS
  clear hS
  go_wp2_with fail
  refine (wordKind_any nm _).mono ?_
  rintro e w2 ⟨rfl, hF2⟩
  have hD2 := hF2.keep HD1.out (fun h => h)
  have hD2' : DB w2 db s (wordN s n bad) (wordB s n bad) tv lv av rv := hD2
  have h6 := hD2'.at6
  have f6 := hD2'.free 6
  have HF2 := hide (HF1.out.trans hF2.of0)
  have HD2 := hide hD2'
  have HK := hide (kindOf_nonneg nm)
  clear hF2 hD2 hD2'
  rcases hb : wordB s n bad with _ | _
  · rw [hb] at h6
    have HB : Hid (nameB s n bad = decide (0 ≤ kindOf nm)) := by show _ = _; rw [hB.out, hb, HK.out]; rfl
    clear hb
    go_wp2_with fail
    go_ret
    rw [HS.out, HB.out]
    exact ⟨rfl, HF2.out.trans (Fr.setCell _ _ _ _ (show One db db from rfl)), HD2.out.set6 _, hn1⟩
  · rw [hb] at h6
    have HB : Hid (nameB s n bad = true) := by show _ = _; rw [hB.out, hb]; rfl
    clear hb
    go_wp2_with fail
    go_ret
    rw [HS.out, HB.out]
    exact ⟨rfl, HF2.out.trans (Fr.setCell _ _ _ _ (show One db db from rfl)), HD2.out.set6 _, hn1⟩

/-- The reader and its table. -/
def DS (w : World) (X : Nat → Prop) (db : Nat) (s : ByteArray) (n : Nat) (bad : Bool) (tv lv av rv : Value) (tab : List RT) : Prop :=
  DB w db s n bad tv lv av rv ∧ ∃ rows : List RV, w.ownsRow 0 293 4 tv rows.length (rvCells rows) ∧ TabR w (XO X tv) rows tab

/-- What a call that adds types may turn. -/
def Ch (db : Nat) (tv : Value) : Nat → Prop := fun k => k = db ∨ tv.ownBlock = some k

theorem Tryz.info56 : (Tryz.prog.info? 293).map (fun i => (i.zero, i.size, i.bytes)) = some (some (.agg #[.int .i64 0, .slice none 0 0, .slice none 0 0, .slice none 0 0]), 4, 80) := by kernel_rfl

theorem RTR.shape {w : World} {X : Nat → Prop} {r : RV} {t : RT} (h : RTR w X r t) : ∀ v, (v = r.o ∨ v = r.n ∨ v = r.a) → ∃ a n c, v = .slice a n c := by
  have f : ∀ (e : TypeId) (v : Value) (xs : List Value), SL w X e v xs → ∃ a n c, v = .slice a n c := by
    intro e v xs hv
    rcases hv.1.2 with ⟨h, _⟩ | ⟨g, cap, cur, h, _⟩
    · exact ⟨_, _, _, h⟩
    · exact ⟨_, _, _, h⟩
  rintro v (rfl | rfl | rfl)
  · exact f _ _ _ h.2.1
  · exact f _ _ _ h.2.2.1
  · exact f _ _ _ h.2.2.2

theorem news4_heap {w w' : World} {x y z u : Value} {t : TypeId} {k : Nat} (hk : w.heap.size = k) (he : w'.heap = (w.alloc (.cells #[x, y, z, u] t)).heap) : ∀ (j : Nat) (q : Value), [x, y, z, u][j]? = some q → w'.cell? ((⟨k, 0, none⟩ : Addr).add j) = some q := by
  subst hk
  have h : w'.heap[w.heap.size]? = some (.cells #[x, y, z, u] t (0, 0)) := by rw [he]; exact heap_new_at rfl _
  intro j q hj
  match j, hj with
  | 0, hj => simp at hj; subst hj; simp [Addr.add, World.cell?, h]
  | 1, hj => simp at hj; subst hj; simp [Addr.add, World.cell?, h]
  | 2, hj => simp at hj; subst hj; simp [Addr.add, World.cell?, h]
  | 3, hj => simp at hj; subst hj; simp [Addr.add, World.cell?, h]
  | j + 4, hj => simp at hj

theorem dAfter {W wq w' : World} {o : Obj} {db : Nat} {s : ByteArray} {n : Nat} {bad : Bool} {tv lv av rv v : Value} (he : W.heap = (wq.alloc o).heap) (hD : DB wq db s n bad tv lv av rv) (hg : W.grownBy w' v.ownBlock) (hne : ∀ g, v.ownBlock = some g → g ≠ db) : DB w' db s n bad tv lv av rv := by
  have h1 : W.heap[db]? = some (.cells #[.string s, .int .i64 n, tv, lv, av, rv, .bool bad] 202 (0, 0)) := by rw [he]; exact hD.alloc o
  exact (hg.block db (lt_of_heap h1) (fun e => hne db e.symm rfl)).trans h1

theorem owned_neD {w : World} {db : Nat} {s : ByteArray} {n : Nat} {bad : Bool} {tv lv av rv v : Value} {base k size : Nat} {e : TypeId} {xs : List Value} (hD : DB w db s n bad tv lv av rv) (h : w.ownsRow base e size v k xs) (he : e ≠ 202) : ∀ g, v.ownBlock = some g → g ≠ db := by
  intro g hg
  obtain ⟨cur, hh⟩ := own_type h hg
  exact hD.ne hh he

theorem add_end {W wq w' : World} {X : Nat → Prop} {db : Nat} {s : ByteArray} {n : Nat} {bad : Bool} {tv lv av rv v' : Value} {rows : List RV} {tab : List RT} {r : RV} {t : RT} {o : Obj} (he : W.heap = (wq.alloc o).heap) (hos : W.os = wq.os) (htp : W.tape = wq.tape) (hou : W.output = wq.output)
    (hX : X db) (hD : DB wq db s n bad tv lv av rv) (hO : wq.ownsRow 0 293 4 tv rows.length (rvCells rows)) (hT : TabR wq (XO X tv) rows tab) (ht : RTR wq (XO X tv) r t)
    (hO2 : w'.ownsRow 0 293 4 v' (rows.length + 1) (rvCells rows ++ [.int .i64 r.k, r.o, r.n, r.a])) (hg : W.grownBy w' tv.ownBlock) (hv : ∃ g cap, v' = .slice (some ⟨g, 0, none⟩) (rows.length + 1) cap ∧ (tv.ownBlock = some g ∨ W.heap.size ≤ g)) :
    DS (w'.setCell ⟨db, 2, none⟩ v') X db s n bad v' lv av rv (tab ++ [t]) ∧ Fr (Ch db tv) wq (w'.setCell ⟨db, 2, none⟩ v') ∧ (∀ g, v'.ownBlock = some g → tv.ownBlock = some g ∨ wq.heap.size ≤ g) := by
  have hF0 : Fr Zero wq W := ⟨hos, htp, hou, by rw [he]; simp, fun k hk _ => by rw [he]; exact Below.heap_alloc _ _ _ hk⟩
  have hDW := hF0.keep hD (fun h => h)
  have hne := owned_neD hD hO (by decide)
  have hO1 := ownsRow_keep hO hF0 (fun _ _ h => h)
  have hT1 := hT.keep (hF0.of0 (X := XO X tv))
  have ht1 := ht.keep (hF0.of0 (X := XO X tv))
  have hfL : Fr (fun k => tv.ownBlock = some k) W w' := Fr.grown hg (fun k e _ => e)
  have hDw : DB w' db s n bad tv lv av rv := hfL.keep hDW (fun e => hne db e rfl)
  have hfS : Fr (One db) w' (w'.setCell ⟨db, 2, none⟩ v') := Fr.setCell _ _ _ _ rfl
  obtain ⟨g, cap, rfl, hgg⟩ := hv
  have hgd : g ≠ db := by
    rcases hgg with h | h
    · exact hne g h
    · have := lt_of_heap hDW; omega
  have hZ1 : ∀ b, b < W.heap.size → (XO X tv b ∨ W.heap.size ≤ b) → XO X tv b := fun b hb h => by
    rcases h with h | h
    · exact h
    · omega
  have hZ2 : ∀ b, b < w'.heap.size → XO X (.slice (some ⟨g, 0, none⟩) (rows.length + 1) cap) b → (XO X tv b ∨ W.heap.size ≤ b) := fun b _ h => by
    rcases h with h | h
    · exact .inl (.inl h)
    · simp [Value.ownBlock] at h
      subst h
      rcases hgg with h | h
      · exact .inl (.inr h)
      · exact .inr h
  have hfZ : Fr (fun b => XO X tv b ∨ W.heap.size ≤ b) W w' := Fr.grown hg (fun k e _ => .inl (.inr e))
  have hT2 : TabR w' (XO X (.slice (some ⟨g, 0, none⟩) (rows.length + 1) cap)) (rows ++ [r]) (tab ++ [t]) := (((hT1.snoc ht1).avoid hZ1).keep hfZ).avoid hZ2
  refine ⟨⟨hDw.set2 _, rows ++ [r], ?_, hT2.keep (hfS.one (.inl hX))⟩, ?_, ?_⟩
  · rw [rvCells_snoc, List.length_append]
    exact ownsRow_keep hO2 hfS (fun g' hg' e => by simp [Value.ownBlock] at hg'; subst hg'; exact hgd e)
  · exact (hF0.of0 (X := Ch db tv)).trans ((hfL.mono (fun k _ e => .inr e)).trans (hfS.mono (fun k _ e => .inl e)))
  · intro g' hg'
    simp [Value.ownBlock] at hg'
    subst hg'
    rcases hgg with h | h
    · exact .inl h
    · have := hF0.size; exact .inr (by omega)

set_option maxHeartbeats 4000000 in
theorem add_any {w : World} {X : Nat → Prop} {db : Nat} {s : ByteArray} {n : Nat} {bad : Bool} {tv lv av rv : Value} {tab : List RT} (h : DS w X db s n bad tv lv av rv tab) (hX : X db) (hl : tab.length ≤ 1000000) (kI : Int) (r : RV) (t : RT) (hk : kI = (r.k : Int)) (ht : RTR w (XO X tv) r t) :
    Calls Tryz.prog 241 #[.pointer (some ⟨db, 0, none⟩), .agg #[.int .i64 kI, r.o, r.n, r.a]] w fun e w' => e = .returned (.int .i64 tab.length) ∧ Fr (Ch db tv) w w' ∧ ∃ tv', DS w' X db s n bad tv' lv av rv (tab ++ [t]) ∧ (∀ g, tv'.ownBlock = some g → tv.ownBlock = some g ∨ w.heap.size ≤ g) := by
  subst hk
  obtain ⟨hD, rows, hO, hT⟩ := h
  have hrl : rows.length = tab.length := hT.1
  obtain ⟨oa, on, oc, ho⟩ := ht.shape r.o (.inl rfl)
  obtain ⟨na, nn, nc, hn⟩ := ht.shape r.n (.inr (.inl rfl))
  obtain ⟨aa, an, ac, ha⟩ := ht.shape r.a (.inr (.inr rfl))
  obtain ⟨rk, ro, rn, ra⟩ := r
  simp only at ho hn ha
  subst ho hn ha
  have HRL := hide hrl
  have hrb : (rows.length : Int) ≤ 1000000 := by omega
  have hdl := lt_of_heap hD
  have k2 := hD.at2
  have kf := hD.free 2
  have k2a := (hD.alloc (.cells #[.int .i64 rk, .slice oa on oc, .slice na nn nc, .slice aa an ac] 293)).at2
  have k2b := ((hD.alloc (.cells #[.int .i64 rk, .slice oa on oc, .slice na nn nc, .slice aa an ac] 293)).alloc (.cells #[.int .i64 rk, .slice oa on oc, .slice na nn nc, .slice aa an ac] 293)).at2
  have HNE := hide (owned_neD hD hO (by decide))
  have HT0 := hide ht
  have HD := hide hD
  have HO := hide hO
  have HTt := hide hT
  clear hD hO hT ht hrl
  have m1 : Hid (rows.length + 1 ≤ maxLen) := by show _ ≤ _; have := HRL.out; unfold maxLen; omega
  have m2 : Hid ((rows.length + 1) * 80 ≤ 140737488355328) := by show _ ≤ _; have := HRL.out; omega
  have m3 : Hid (∀ u ∈ [Value.int .i64 rk, .slice oa on oc, .slice na nn nc, .slice aa an ac], u.oneCell' = true) := by intro u hu; simp at hu; rcases hu with rfl | rfl | rfl | rfl <;> rfl
  obtain ⟨i0, hi, hz0, hz1, hz2⟩ := info_parts Tryz.info56
  go_enter Tryz.func241, Tryz.ntmps241
  go_wp2_with fail
  go_region_law (refine step_append_mine rfl (.tmp 9) (.tmp 11) 200 rfl 0 293 i0 (.agg #[.int .i64 0, .slice none 0 0, .slice none 0 0, .slice none 0 0]) 4 80 Tryz.underlying200 hi hz0 hz1 hz2 rfl (by decide) tv rows.length (rvCells rows) (by simp [Act.eval]) (by exact ownsRow_heap (o := .cells #[.int .i64 rk, .slice oa on oc, .slice na nn nc, .slice aa an ac] 293) (HO.out.alloc (.cells #[.int .i64 rk, .slice oa on oc, .slice na nn nc, .slice aa an ac] 293)) (by rfl)) ⟨w.heap.size + 1, 0, none⟩ 1 1 (by omega) [.int .i64 rk, .slice oa on oc, .slice na nn nc, .slice aa an ac] (by simp [Act.eval]) rfl (by exact news4_heap (w := w.alloc (.cells #[.int .i64 rk, .slice oa on oc, .slice na nn nc, .slice aa an ac] 293)) (t := 293) (x := .int .i64 rk) (y := .slice oa on oc) (z := .slice na nn nc) (u := .slice aa an ac) (by simp) (by rfl)) m3.out m1.out m2.out (Nat.zero_le _) ?_; intro v' w' hO2 hg2 hv2; obtain ⟨gn, capn, rfl, hgn⟩ := hv2; have hDw := dAfter (o := .cells #[.int .i64 rk, .slice oa on oc, .slice na nn nc, .slice aa an ac] 293) (by rfl) (HD.out.alloc (.cells #[.int .i64 rk, .slice oa on oc, .slice na nn nc, .slice aa an ac] 293)) hg2 HNE.out; have q2 := hDw.at2; have qf := hDw.free 2; have HE := hide (add_end (r := ⟨rk, .slice oa on oc, .slice na nn nc, .slice aa an ac⟩) (o := .cells #[.int .i64 rk, .slice oa on oc, .slice na nn nc, .slice aa an ac] 293) (by rfl) (by rfl) (by rfl) (by rfl) hX (HD.out.alloc (.cells #[.int .i64 rk, .slice oa on oc, .slice na nn nc, .slice aa an ac] 293)) (HO.out.alloc _) (HTt.out.keep (Fr.alloc _ _ _)) (HT0.out.keep (Fr.alloc _ _ _)) hO2 hg2 ⟨gn, capn, rfl, hgn⟩); clear hO2 hg2 hgn hDw)
  all_goals
    have r2 := HE.out.1.1.at2
    go_wp2_with fail
    go_ret
    refine ⟨by rw [← HRL.out]; rfl, (Fr.alloc _ _ _).trans HE.out.2.1, _, HE.out.1, fun g hg => ?_⟩
    · rcases HE.out.2.2 g hg with h | h
      · exact .inl h
      · simp at h; exact .inr (by omega)

end Go.Proofs.YtnhkalnihjkoeaaGreatDoor
