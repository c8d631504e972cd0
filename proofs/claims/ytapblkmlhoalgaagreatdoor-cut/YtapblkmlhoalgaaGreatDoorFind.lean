/- What find finds in a row of parts, and refuseName, refuseDepth. -/
import Derived.Test.YtapblkmlhoalgaaGreatDoorAppend
namespace Go.Proofs.YtapblkmlhoalgaaGreatDoor
open Go.RowKit

/-- The cells of a row of parts. -/
def rowCells (l : List (ByteArray × Addr)) : List Value := l.flatMap fun p => [.string p.1, .pointer (some p.2)]

theorem rowCells_length (l : List (ByteArray × Addr)) : (rowCells l).length = l.length * 2 := by
  induction l with
  | nil => rfl
  | cons p l ih => simp only [rowCells, List.flatMap_cons, List.length_append, List.length_cons, List.length_nil] at ih ⊢; omega
theorem rowCells_get (l : List (ByteArray × Addr)) : ∀ (j : Nat) (p : ByteArray × Addr), l[j]? = some p → (rowCells l)[j * 2]? = some (.string p.1) ∧ (rowCells l)[j * 2 + 1]? = some (.pointer (some p.2)) := by
  induction l with
  | nil => intro j p h; simp at h
  | cons q l ih =>
    intro j p h
    cases j with
    | zero => simp at h; subst h; exact ⟨rfl, rfl⟩
    | succ j =>
      have h' : l[j]? = some p := by simpa using h
      have e : rowCells (q :: l) = .string q.1 :: .pointer (some q.2) :: rowCells l := rfl
      rw [e, show (j + 1) * 2 = j * 2 + 1 + 1 by omega]
      exact ih j p h'
theorem rowCells_snoc (l : List (ByteArray × Addr)) (p : ByteArray × Addr) : rowCells (l ++ [p]) = rowCells l ++ [.string p.1, .pointer (some p.2)] := by simp [rowCells]

/-- The first of a name. -/
def findRow (nm : ByteArray) : List (ByteArray × Addr) → Option Addr
  | [] => none
  | p :: r => if p.1 = nm then some p.2 else findRow nm r

theorem findRow_none {nm : ByteArray} {l : List (ByteArray × Addr)} : (∀ p ∈ l, p.1 ≠ nm) → findRow nm l = none := by
  induction l with
  | nil => intro _; rfl
  | cons p r ih =>
    intro h
    rw [findRow, if_neg (h p (by simp))]
    exact ih (fun q hq => h q (by simp [hq]))
theorem findRow_some {nm : ByteArray} {l : List (ByteArray × Addr)} : ∀ (k : Nat) (p : ByteArray × Addr), l[k]? = some p → p.1 = nm → (∀ j q, j < k → l[j]? = some q → q.1 ≠ nm) → findRow nm l = some p.2 := by
  induction l with
  | nil => intro k p h; simp at h
  | cons q r ih =>
    intro k p h he hn
    cases k with
    | zero => simp at h; subst h; rw [findRow, if_pos he]
    | succ k =>
      rw [findRow, if_neg (hn 0 q (by omega) rfl)]
      exact ih k p (by simpa using h) he (fun j q' hj hq => hn (j + 1) q' (by omega) (by simpa using hq))

def foundV (r : Option Addr) : Value := .tuple #[.pointer r, .bool r.isSome]

set_option maxHeartbeats 1000000 in
theorem find_row (g cap : Nat) (l : List (ByteArray × Addr)) (nm : ByteArray) (base : Nat) (w : World) (hl : l.length ≤ 1000)
    (hown : w.ownsRow base 180 2 (.slice (some ⟨g, 0, none⟩) l.length cap) l.length (rowCells l)) :
    Calls Tryz.prog 254 #[.slice (some ⟨g, 0, none⟩) l.length cap, .string nm] w fun e w' => e = .returned (foundV (findRow nm l)) ∧ Fr Zero w w' := by
  have hg : g < w.heap.size := (hown.lt g rfl).2
  have HO := hide hown
  clear hown
  go_enter Tryz.func254, Tryz.ntmps254
  go_wp2_with fail
  go_loopw [10] (fun i wr => ∃ k : Nat, k ≤ l.length ∧ i = .int .i64 k ∧ Hid (∀ j q, j < k → l[j]? = some q → q.1 ≠ nm) ∧ Hid (Fr Zero w wr)) (fun i _ => l.length - (intOf i).toNat)
  case atStart => exact ⟨0, by omega, rfl, fun j q hj => by omega, Fr.refl _ _⟩
  case round =>
    obtain ⟨k, hk, rfl, HN, HF⟩ := hrel
    by_cases hlt : k < l.length
    · obtain ⟨p, hp⟩ : ∃ p, l[k]? = some p := ⟨l[k], by simp [hlt]⟩
      have hc0 : wr.cell? ⟨g, k * 2, none⟩ = some (.string p.1) := by
        rw [HF.out.cell (a := ⟨g, k * 2, none⟩) hg (by intro h; exact h), HO.out.cellAt (k * 2) (by omega)]
        exact (rowCells_get l k p hp).1
      have hc1 : wr.cell? ⟨g, k * 2 + 1, none⟩ = some (.pointer (some p.2)) := by
        rw [HF.out.cell (a := ⟨g, k * 2 + 1, none⟩) hg (by intro h; exact h), HO.out.cellAt (k * 2 + 1) (by omega)]
        exact (rowCells_get l k p hp).2
      have HPp := hide hp
      clear hp
      by_cases hq : p.1 = nm
      · have hb : (p.1.toList == nm.toList) = true := by rw [strEq]; simp [hq]
        have HQ := hide hq
        clear hq
        go_wp2_with fail
        go_ret2
        exact ⟨by rw [findRow_some k p HPp HQ HN]; rfl, HF.out.trans (Fr.alloc _ _ _)⟩
      · have hb : (p.1.toList == nm.toList) = false := by rw [strEq]; simp [hq]
        have HQ := hide hq
        clear hq
        go_wp2_with fail
        go_roundw
        case rel =>
          refine ⟨k + 1, by omega, by go_num, ?_, HF.out.trans (Fr.alloc _ _ _)⟩
          · intro j q hj hq
            by_cases e : j < k
            · exact HN j q e hq
            · have : j = k := by omega
              subst this
              have e2 : q = p := Option.some.inj (hq.symm.trans HPp)
              subst e2
              exact HQ
        case measure => simp [intOf]; omega
    · go_wp2_with fail
      go_ret2
      exact ⟨by rw [findRow_none (fun p hp => by obtain ⟨j, hj⟩ := List.getElem?_of_mem hp; obtain ⟨hj', _⟩ := List.getElem?_eq_some_iff.1 hj; exact HN j p (by omega) hj)]; rfl, HF⟩

theorem find_nil (nm : ByteArray) (w : World) :
    Calls Tryz.prog 254 #[.slice none 0 0, .string nm] w fun e w' => e = .returned (.tuple #[.pointer none, .bool false]) ∧ Fr Zero w w' := by
  go_enter Tryz.func254, Tryz.ntmps254
  go_wp2_with fail
  refine wp_loop_rounds 1 ?_
  rw [rounds_succ]
  go_wp2_with fail
  go_ret2
  exact ⟨rfl, Fr.refl _ _⟩

theorem find_any (v : Value) (l : List (ByteArray × Addr)) (nm : ByteArray) (base : Nat) (w : World) (hl : l.length ≤ 1000) (hown : w.ownsRow base 180 2 v l.length (rowCells l)) :
    Calls Tryz.prog 254 #[v, .string nm] w fun e w' => e = .returned (foundV (findRow nm l)) ∧ Fr Zero w w' := by
  rcases hown.2 with ⟨rfl, h0⟩ | ⟨g, cap, cur, rfl, _⟩
  · have : l = [] := List.eq_nil_of_length_eq_zero h0
    subst this
    exact find_nil nm w
  · exact find_row g cap l nm base w hl hown

/-- A refusal that is kept: none, or one of this number at this place. -/
def RefV (w : World) (errno : Int) (v : Value) : Option Nat → Prop
  | none => v = .pointer none
  | some n => ∃ b, v = .pointer (some ⟨b, 0, none⟩) ∧ w.heap[b]? = some (.cells #[.int .i64 errno, .int .i64 n] 114 (0, 0))

theorem RefV.keep {w w' : World} {errno : Int} {v : Value} {r : Option Nat} {pb : Nat} {s : ByteArray} {n : Nat} {lv bn td : Value} (h : RefV w errno v r) (hP : PB w pb s n lv bn td) (hf : Fr (One pb) w w') : RefV w' errno v r := by
  cases r with
  | none => exact h
  | some m =>
    obtain ⟨b, hv, hb⟩ := h
    exact ⟨b, hv, hf.keep hb (hP.ne hb (by decide))⟩

def orElse (r : Option Nat) (n : Nat) : Option Nat := match r with | none => some n | some m => some m

theorem refuseName_any {w : World} {pb : Nat} {s : ByteArray} {n : Nat} {lv bn td : Value} (at' : Nat) (bad : Option Nat) (hP : PB w pb s n lv bn td) (hb : RefV w 3 bn bad) :
    Calls Tryz.prog 255 #[.pointer (some ⟨pb, 0, none⟩), .int .i64 at'] w fun e w' => e = .returned (.tuple #[]) ∧ Fr (One pb) w w' ∧ ∃ bn', PB w' pb s n lv bn' td ∧ RefV w' 3 bn' (orElse bad at') := by
  have h3 := hP.at3
  have hf := hP.free 3
  have hlt := lt_of_heap hP
  have HP := hide hP
  clear hP
  cases bad with
  | none =>
    have e : bn = .pointer none := hb
    subst e
    clear hb
    go_enter Tryz.func255, Tryz.ntmps255
    go_wp2_with fail
    go_end0
    exact ⟨rfl, (Fr.setCell _ _ _ _ (show One pb pb from rfl)).trans (Fr.alloc _ _ _), _, (HP.out.set3 _).alloc _, w.heap.size, rfl, heap_new_at (by simp [World.setCell]) _⟩
  | some m =>
    obtain ⟨b, rfl, hb⟩ := hb
    have HB := hide hb
    clear hb
    go_enter Tryz.func255, Tryz.ntmps255
    go_wp2_with fail
    go_end0
    exact ⟨rfl, Fr.refl _ _, _, HP, b, rfl, HB⟩

theorem refuseDepth_any {w : World} {pb : Nat} {s : ByteArray} {n : Nat} {lv bn td : Value} (at' : Nat) (bad : Option Nat) (hP : PB w pb s n lv bn td) (hb : RefV w 4 td bad) :
    Calls Tryz.prog 215 #[.pointer (some ⟨pb, 0, none⟩), .int .i64 at'] w fun e w' => e = .returned (.tuple #[]) ∧ Fr (One pb) w w' ∧ ∃ td', PB w' pb s n lv bn td' ∧ RefV w' 4 td' (orElse bad at') := by
  have h4 := hP.at4
  have hf := hP.free 4
  have hlt := lt_of_heap hP
  have HP := hide hP
  clear hP
  cases bad with
  | none =>
    have e : td = .pointer none := hb
    subst e
    clear hb
    go_enter Tryz.func215, Tryz.ntmps215
    go_wp2_with fail
    go_end0
    exact ⟨rfl, (Fr.setCell _ _ _ _ (show One pb pb from rfl)).trans (Fr.alloc _ _ _), _, (HP.out.set4 _).alloc _, w.heap.size, rfl, heap_new_at (by simp [World.setCell]) _⟩
  | some m =>
    obtain ⟨b, rfl, hb⟩ := hb
    have HB := hide hb
    clear hb
    go_enter Tryz.func215, Tryz.ntmps215
    go_wp2_with fail
    go_end0
    exact ⟨rfl, Fr.refl _ _, _, HP, b, rfl, HB⟩

end Go.Proofs.YtapblkmlhoalgaaGreatDoor
