/- A frame more behind a row of frames. -/
import Derived.Test.YtdcjogpkogidaaaGreatDoorProg
import Derived.WalkKit
import Derived.WalkSpells
import Derived.Deep.QuietTactic
import Derived.BigQuiet
import Derived.ArgAppend
import Derived.Deep.RegionLaw
import Derived.Deep.RegionHeld3
import Derived.Lib.UnsafeStr
import Derived.Laws.IdiomStrings
import Derived.Laws.BytesArg
import Derived.Deep.AppendSrc
import Derived.RegionTactic
import Derived.Lib.BufferWrite
import Derived.OwnWalk
import Derived.Test.YtdcjogpkogidaaaGreatDoorMdWordType
import Derived.Test.YtdcjogpkogidaaaGreatDoorMdParts
import Derived.Test.YtdcjogpkogidaaaGreatDoorMdVMem
import Derived.Test.YtdcjogpkogidaaaGreatDoorMdVOut
import Derived.Test.YtdcjogpkogidaaaGreatDoorMdVReg
import Derived.Test.YtdcjogpkogidaaaGreatDoorMdVOne
section
namespace Go.Proofs.YtdcjogpkogidaaaGreatDoor.Q
open Go.RowKit

/-- A frame: its first granule, how many it takes with its gap, its state (0 it waits, 1 it is held, 2 it was released), its bytes. -/
structure PF where
  at_ : Nat
  takes : Nat
  st : Nat
  data : Bs
/-- A ring: its granules, its row of bytes, its frames, the number of the first of them, the granule behind the newest, whether it is shut. -/
structure PR where
  g : Nat
  row : Bs
  fs : List PF
  first : Nat
  next : Nat
  shut : Bool

def fcells (f : PF) : List Value := [.int .i64 f.at_, .int .i64 f.takes, .int .i64 f.st]
def fsCells (l : List PF) : List Value := l.flatMap fcells
theorem fsCells_length (l : List PF) : (fsCells l).length = l.length * 3 := by
  induction l with
  | nil => rfl
  | cons f l ih => simp only [fsCells, List.flatMap_cons, List.length_append] at ih ⊢; rw [ih]; simp [fcells]; omega
theorem fsCells_at {l : List PF} {i : Nat} {f : PF} (h : l[i]? = some f) : (fsCells l)[i * 3]? = some (.int .i64 f.at_) ∧ (fsCells l)[i * 3 + 1]? = some (.int .i64 f.takes) ∧ (fsCells l)[i * 3 + 2]? = some (.int .i64 f.st) := by
  induction l generalizing i with
  | nil => simp at h
  | cons x l ih =>
    have e : fsCells (x :: l) = .int .i64 x.at_ :: .int .i64 x.takes :: .int .i64 x.st :: fsCells l := rfl
    rw [e]
    rcases i with _ | i
    · simp at h; subst h; exact ⟨rfl, rfl, rfl⟩
    · simp at h
      obtain ⟨h1, h2, h3⟩ := ih h
      rw [show (i + 1) * 3 = i * 3 + 3 by omega]
      exact ⟨h1, h2, h3⟩

/-- A row of frames in memory: a piece of a greater one, from some cell on. -/
def FRow (w : World) (v : Value) (l : List PF) : Prop :=
  (v = .slice none 0 0 ∧ l = []) ∨ ∃ (fb off cap : Nat) (cur : Array Value), v = .slice (some ⟨fb, off, none⟩) l.length cap ∧ w.heap[fb]? = some (.cells cur 266 (0, 0)) ∧ l.length ≤ cap ∧ off + cap * 3 ≤ cur.size ∧ cap ≤ maxLen ∧ ∀ j u, (fsCells l)[j]? = some u → cur[off + j]? = some u
def blockOf (v : Value) : Option Nat := match v with
  | .slice (some a) _ _ => some a.block
  | _ => none

theorem FRow.keep {X : Nat → Prop} {w w' : World} {v : Value} {l : List PF} (h : FRow w v l) (hf : Fr X w w') (hx : ∀ g, blockOf v = some g → ¬ X g) : FRow w' v l := by
  rcases h with h | ⟨fb, off, cap, cur, h1, h2, h3⟩
  · exact .inl h
  · exact .inr ⟨fb, off, cap, cur, h1, hf.keep h2 (hx fb (by rw [h1]; rfl)), h3⟩
theorem FRow.len {w : World} {v : Value} {l : List PF} (h : FRow w v l) : ∃ a cap, v = .slice a l.length cap := by
  rcases h with ⟨rfl, rfl⟩ | ⟨fb, off, cap, cur, rfl, _⟩
  · exact ⟨none, 0, rfl⟩
  · exact ⟨_, cap, rfl⟩
theorem FRow.at_ {w : World} {v : Value} {l : List PF} (h : FRow w v l) {i : Nat} {f : PF} (hf : l[i]? = some f) : ∃ fb off cap, v = .slice (some ⟨fb, off, none⟩) l.length cap ∧ w.cell? ⟨fb, off + i * 3, none⟩ = some (.int .i64 f.at_) ∧ w.cell? ⟨fb, off + i * 3 + 1, none⟩ = some (.int .i64 f.takes) ∧ w.cell? ⟨fb, off + i * 3 + 2, none⟩ = some (.int .i64 f.st) ∧ (∀ o, w.frozen? ⟨fb, o, none⟩ = false) := by
  rcases h with ⟨_, rfl⟩ | ⟨fb, off, cap, cur, rfl, h2, _, _, _, h6⟩
  · simp at hf
  · obtain ⟨e1, e2, e3⟩ := fsCells_at hf
    refine ⟨fb, off, cap, rfl, ?_, ?_, ?_, fun o => free_of_heap h2⟩
    · rw [cell_of_heap h2]; exact h6 _ _ e1
    · rw [cell_of_heap h2, Nat.add_assoc]; exact h6 _ _ e2
    · rw [cell_of_heap h2, Nat.add_assoc]; exact h6 _ _ e3

/-- A ring in memory. -/
structure RM (w : World) (rb yb : Nat) (R : PR) (fv : Value) : Prop where
  r : w.heap[rb]? = some (.cells #[.slice (some ⟨yb, 0, none⟩) (8 * R.g) (8 * R.g), fv, .int .i64 R.first, .int .i64 R.next, .bool R.shut] 262 (0, 0))
  y : w.heap[yb]? = some (.cells (Lib.byteCells R.row).toArray 5 (0, 0))
  f : FRow w fv R.fs
  g2 : 2 ≤ R.g
  g64 : R.g ≤ 64
  len : R.row.length = 8 * R.g

section
variable {w w' : World} {rb yb : Nat} {R : PR} {fv : Value}
theorem RM.at0 (h : RM w rb yb R fv) : w.cell? ⟨rb, 0, none⟩ = some (.slice (some ⟨yb, 0, none⟩) (8 * R.g) (8 * R.g)) := by rw [cell_of_heap h.r]; rfl
theorem RM.at1 (h : RM w rb yb R fv) : w.cell? ⟨rb, 1, none⟩ = some fv := by rw [cell_of_heap h.r]; rfl
theorem RM.at2 (h : RM w rb yb R fv) : w.cell? ⟨rb, 2, none⟩ = some (.int .i64 R.first) := by rw [cell_of_heap h.r]; rfl
theorem RM.at3 (h : RM w rb yb R fv) : w.cell? ⟨rb, 3, none⟩ = some (.int .i64 R.next) := by rw [cell_of_heap h.r]; rfl
theorem RM.at4 (h : RM w rb yb R fv) : w.cell? ⟨rb, 4, none⟩ = some (.bool R.shut) := by rw [cell_of_heap h.r]; rfl
theorem RM.free (h : RM w rb yb R fv) (o : Nat) : w.frozen? ⟨rb, o, none⟩ = false := free_of_heap h.r
theorem RM.ne (h : RM w rb yb R fv) : ¬ One yb rb := fun e => by
  have e' : rb = yb := e
  have h1 := h.r
  rw [e', h.y] at h1
  simp at h1
theorem RM.fne (h : RM w rb yb R fv) {g : Nat} (hg : blockOf fv = some g) : ¬ One yb g := fun e => by
  have e' : g = yb := e
  rcases h.f with ⟨h1, _⟩ | ⟨fb, off, cap, cur, h1, h2, _⟩
  · rw [h1] at hg; simp [blockOf] at hg
  · rw [h1] at hg
    simp [blockOf] at hg
    rw [hg, e', h.y] at h2
    simp at h2
theorem RM.fner (h : RM w rb yb R fv) {g : Nat} (hg : blockOf fv = some g) : ¬ One rb g := fun e => by
  have e' : g = rb := e
  rcases h.f with ⟨h1, _⟩ | ⟨fb, off, cap, cur, h1, h2, _⟩
  · rw [h1] at hg; simp [blockOf] at hg
  · rw [h1] at hg
    simp [blockOf] at hg
    rw [hg, e', h.r] at h2
    simp at h2
theorem RM.quiet (h : RM w rb yb R fv) (hf : Fr Zero w w') : RM w' rb yb R fv := ⟨hf.keep h.r (fun h => h), hf.keep h.y (fun h => h), h.f.keep hf (fun _ _ h => h), h.g2, h.g64, h.len⟩
end

def needs (n : Nat) : Nat := (n + 9) / 8
def taken (l : List PF) : Nat := (l.map PF.takes).sum

theorem taken_take (l : List PF) (k : Nat) : taken (l.take k) ≤ taken l := by
  unfold taken
  have h : l = l.take k ++ l.drop k := (List.take_append_drop k l).symm
  have : (l.map PF.takes).sum = ((l.take k).map PF.takes).sum + ((l.drop k).map PF.takes).sum := by rw [← List.sum_append, ← List.map_append, ← h]
  omega

set_option maxHeartbeats 4000000 in
theorem granulesFor_any (n : Nat) (hn : n ≤ 1000000000000000) (w : World) :
    Calls Tryz.prog 147 #[.int .i64 n] w fun e w' => e = .returned (.int .i64 (needs n : Nat)) ∧ w' = w := by
  go_enter Tryz.func147, Tryz.ntmps147
  go_wp2_with fail
  go_ret
  refine ⟨?_, rfl⟩
  unfold needs
  go_num

set_option maxHeartbeats 4000000 in
theorem granules_any {w : World} {rb yb : Nat} {R : PR} {fv : Value} (h : RM w rb yb R fv) :
    Calls Tryz.prog 148 #[.pointer (some ⟨rb, 0, none⟩)] w fun e w' => e = .returned (.int .i64 (R.g : Nat)) ∧ w' = w := by
  have h0 := h.at0
  have h1 := h.g64
  have h2 := h.g2
  clear h
  go_enter Tryz.func148, Tryz.ntmps148
  go_wp2_with fail
  go_ret
  refine ⟨?_, rfl⟩
  go_num

set_option maxHeartbeats 4000000 in
set_option maxRecDepth 100000 in
theorem taken_any {w : World} {rb yb : Nat} {R : PR} {fv : Value} (h : RM w rb yb R fv) (ht : taken R.fs ≤ 1000000) (hl : R.fs.length ≤ 1000000) :
    Calls Tryz.prog 150 #[.pointer (some ⟨rb, 0, none⟩)] w fun e w' => e = .returned (.int .i64 (taken R.fs : Nat)) ∧ Fr Zero w w' := by
  have h1 := h.at1
  have H := hide h
  obtain ⟨fa, fc, rfl⟩ := h.f.len
  clear h
  go_enter Tryz.func150, Tryz.ntmps150
  go_wp2_with fail
  go_loopw [3, 11] (fun nv iv wr => ∃ k : Nat, k ≤ R.fs.length ∧ nv = .int .i64 (taken (R.fs.take k) : Nat) ∧ iv = .int .i64 k ∧ Hid (Fr Zero w wr)) (fun _ iv _ => R.fs.length - (intOf iv).toNat)
  case atStart => exact ⟨0, by omega, rfl, rfl, Fr.refl _ _⟩
  case round =>
    obtain ⟨k, hk, rfl, rfl, HF⟩ := hrel
    have HR := hide (H.out.quiet HF.out)
    by_cases hlt : k < R.fs.length
    · have hI : (k : Int) < (R.fs.length : Int) := by omega
      obtain ⟨f, hf⟩ : ∃ f, R.fs[k]? = some f := ⟨R.fs[k], by simp⟩
      obtain ⟨fb, off, cap, e1, c1, c2, c3, _⟩ := HR.out.f.at_ hf
      obtain ⟨rfl, _, rfl⟩ : fa = some ⟨fb, off, none⟩ ∧ True ∧ fc = cap := by simp at e1; exact ⟨e1.1, trivial, e1.2⟩
      obtain ⟨hkk, hke⟩ := List.getElem?_eq_some_iff.1 hf
      have HT : Hid (taken (R.fs.take (k + 1)) = taken (R.fs.take k) + f.takes) := by
        show _ = _
        unfold taken
        rw [List.take_succ_eq_append_getElem hkk, hke, List.map_append, List.sum_append]
        simp
      have HTl : Hid (taken (R.fs.take (k + 1)) ≤ taken R.fs) := taken_take _ _
      have ht1 : taken (R.fs.take k) + f.takes ≤ 1000000 := by have := HTl.out; have := HT.out; omega
      generalize taken (R.fs.take k) = N at *
      have HF2 : Hid (Fr Zero w (wr.alloc (.cells #[.int .i64 f.at_, .int .i64 f.takes, .int .i64 f.st] 266))) := HF.out.trans (Fr.alloc _ _ _)
      clear hf hkk hke e1
      go_wp2_with fail
      go_roundw
      case rel => exact ⟨k + 1, by omega, by rw [HT.out]; go_num, by go_num, HF2⟩
      case measure => simp [intOf]; omega
    · have hkl : k = R.fs.length := by omega
      subst hkl
      have hI : ¬ (R.fs.length : Int) < (R.fs.length : Int) := by omega
      rw [List.take_length]
      go_wp2_with fail
      go_ret
      exact ⟨rfl, HF⟩

end Go.Proofs.YtdcjogpkogidaaaGreatDoor.Q
end
section
namespace Go.Proofs.YtdcjogpkogidaaaGreatDoor.Q
open Go.RowKit

def countOf (x : Nat) (l : List PF) : Nat := (l.filter (fun f => decide (f.st = x))).length
theorem countOf_snoc (x : Nat) (l : List PF) (f : PF) : countOf x (l ++ [f]) = countOf x l + (if f.st = x then 1 else 0) := by
  unfold countOf
  rw [List.filter_append, List.length_append]
  by_cases h : f.st = x <;> simp [h]
theorem take_snoc {α : Type} {l : List α} {k : Nat} {f : α} (h : l[k]? = some f) : l.take (k + 1) = l.take k ++ [f] := by
  obtain ⟨hkk, hke⟩ := List.getElem?_eq_some_iff.1 h
  rw [List.take_succ_eq_append_getElem hkk, hke]
theorem countOf_le (x : Nat) (l : List PF) : countOf x l ≤ l.length := List.length_filter_le _ _

set_option maxHeartbeats 4000000 in
set_option maxRecDepth 100000 in
theorem count_any {w : World} {rb yb : Nat} {R : PR} {fv : Value} (h : RM w rb yb R fv) (hl : R.fs.length ≤ 1000000) (x : Nat) (_hx : x ≤ 2) :
    Calls Tryz.prog 155 #[.pointer (some ⟨rb, 0, none⟩), .int .i64 x] w fun e w' => e = .returned (.int .i64 (countOf x R.fs : Nat)) ∧ Fr Zero w w' := by
  have h1 := h.at1
  have H := hide h
  obtain ⟨fa, fc, rfl⟩ := h.f.len
  clear h
  go_enter Tryz.func155, Tryz.ntmps155
  go_wp2_with fail
  go_loopw [5, 13] (fun nv iv wr => ∃ k : Nat, k ≤ R.fs.length ∧ nv = .int .i64 (countOf x (R.fs.take k) : Nat) ∧ iv = .int .i64 k ∧ Hid (Fr Zero w wr)) (fun _ iv _ => R.fs.length - (intOf iv).toNat)
  case atStart => exact ⟨0, by omega, rfl, rfl, Fr.refl _ _⟩
  case round =>
    obtain ⟨k, hk, rfl, rfl, HF⟩ := hrel
    have HR := hide (H.out.quiet HF.out)
    by_cases hlt : k < R.fs.length
    · have hI : (k : Int) < (R.fs.length : Int) := by omega
      obtain ⟨f, hf⟩ : ∃ f, R.fs[k]? = some f := ⟨R.fs[k], by simp⟩
      obtain ⟨fb, off, cap, e1, c1, c2, c3, _⟩ := HR.out.f.at_ hf
      obtain ⟨rfl, _, rfl⟩ : fa = some ⟨fb, off, none⟩ ∧ True ∧ fc = cap := by simp at e1; exact ⟨e1.1, trivial, e1.2⟩
      have HT : Hid (countOf x (R.fs.take (k + 1)) = countOf x (R.fs.take k) + (if f.st = x then 1 else 0)) := by
        show _ = _
        rw [take_snoc hf, countOf_snoc]
      have hcl : countOf x (R.fs.take k) ≤ k := Nat.le_trans (countOf_le _ _) (by rw [List.length_take]; omega)
      generalize countOf x (R.fs.take k) = N at *
      have HF2 : Hid (Fr Zero w (wr.alloc (.cells #[.int .i64 f.at_, .int .i64 f.takes, .int .i64 f.st] 266))) := HF.out.trans (Fr.alloc _ _ _)
      clear hf e1
      by_cases hs : f.st = x
      · have hq : ((f.st : Int) == (x : Int)) = true := beq_iff_eq.2 (by omega)
        rw [if_pos hs] at HT
        rw [hs] at HF2 c3
        clear hs hq
        go_wp2_with fail
        go_roundw
        case rel => exact ⟨k + 1, by omega, by rw [HT.out]; go_num, by go_num, HF2⟩
        case measure => simp [intOf]; omega
      · have hq : ((f.st : Int) == (x : Int)) = false := beq_eq_false_iff_ne.2 (by omega)
        rw [if_neg hs] at HT
        clear hs
        go_wp2_with fail
        go_roundw
        case rel => exact ⟨k + 1, by omega, by rw [HT.out]; rfl, by go_num, HF2⟩
        case measure => simp [intOf]; omega
    · have hkl : k = R.fs.length := by omega
      subst hkl
      have hI : ¬ (R.fs.length : Int) < (R.fs.length : Int) := by omega
      rw [List.take_length]
      go_wp2_with fail
      go_ret
      exact ⟨rfl, HF⟩

def gapOf (g next need : Nat) : Nat := if g - next < need then g - next else 0

set_option maxHeartbeats 4000000 in
set_option maxRecDepth 100000 in
theorem gap_any {w : World} {rb yb : Nat} {R : PR} {fv : Value} (h : RM w rb yb R fv) (hn : R.next < R.g) (n : Nat) (hnn : n ≤ 1000000000000000) :
    Calls Tryz.prog 149 #[.pointer (some ⟨rb, 0, none⟩), .int .i64 n] w fun e w' => e = .returned (.int .i64 (gapOf R.g R.next n : Nat)) ∧ Fr Zero w w' := by
  have h3 := h.at3
  have hg := h.g64
  have H := hide h
  clear h
  by_cases hlt : R.g - R.next < n
  · have HU : Hid (gapOf R.g R.next n = R.g - R.next) := if_pos hlt
    have hI : (R.g : Int) - (R.next : Int) < (n : Int) := by omega
    go_enter Tryz.func149, Tryz.ntmps149
    go_wp2_with fail
    go_region_held3 (fun W => W.cell? ⟨rb, 3, none⟩ = some (.int .i64 R.next)) (first | assumption | exact h3) (first | (go_at_call 148; refine (granules_any (H.out.quiet (Fr.drew _ _))).mono ?_; rintro e w1 ⟨rfl, rfl⟩))
    all_goals
      go_wp2_with fail
      go_ret
      rw [HU.out]
      refine ⟨?_, Fr.drew _ _⟩
      rw [show IntKind.i64.wrap ((R.g : Int) - (R.next : Int)) = ((R.g - R.next : Nat) : Int) by rw [IntKind.wrap_i64]; omega]
      try rfl
  · have HU : Hid (gapOf R.g R.next n = 0) := if_neg hlt
    have hI : ¬ (R.g : Int) - (R.next : Int) < (n : Int) := by omega
    go_enter Tryz.func149, Tryz.ntmps149
    go_wp2_with fail
    go_region_held3 (fun W => W.cell? ⟨rb, 3, none⟩ = some (.int .i64 R.next)) (first | assumption | exact h3) (first | (go_at_call 148; refine (granules_any (H.out.quiet (Fr.drew _ _))).mono ?_; rintro e w1 ⟨rfl, rfl⟩))
    all_goals
      go_wp2_with fail
      go_ret
      rw [HU.out]
      exact ⟨rfl, Fr.drew _ _⟩

end Go.Proofs.YtdcjogpkogidaaaGreatDoor.Q
end
section
namespace Go.Proofs.YtdcjogpkogidaaaGreatDoor.Q
open Go.RowKit

set_option maxHeartbeats 4000000 in
theorem waits_any (f : PF) (w : World) :
    Calls Tryz.prog 153 #[.agg #[.int .i64 f.at_, .int .i64 f.takes, .int .i64 f.st]] w fun e w' => e = .returned (.bool (decide (f.st = 0))) ∧ Fr Zero w w' := by
  by_cases hs : f.st = 0
  · rw [hs]
    go_enter Tryz.func153, Tryz.ntmps153
    go_wp2_with fail
    go_ret
    exact ⟨rfl, Fr.alloc _ _ _⟩
  · have hq : ((f.st : Int) == 0) = false := beq_eq_false_iff_ne.2 (by omega)
    have hd : decide (f.st = 0) = false := decide_eq_false hs
    rw [hd]
    go_enter Tryz.func153, Tryz.ntmps153
    go_wp2_with fail
    go_ret
    exact ⟨rfl, Fr.alloc _ _ _⟩

def waitI (l : List PF) : Option Nat := l.findIdx? (fun f => decide (f.st = 0))
def idxI (o : Option Nat) : Int := match o with
  | some i => i
  | none => -1

theorem findIdx_at {α : Type} {l : List α} {q : α → Bool} {k : Nat} {x : α} (hx : l[k]? = some x) (hq : q x = true) (hn : ∀ j y, j < k → l[j]? = some y → q y = false) : l.findIdx? q = some k := by
  obtain ⟨hk, he⟩ := List.getElem?_eq_some_iff.1 hx
  rw [List.findIdx?_eq_some_iff_getElem]
  refine ⟨hk, by rw [he]; exact hq, fun j hj => ?_⟩
  have := hn j l[j] hj (by simp)
  rw [this]
  simp
theorem findIdx_no {α : Type} {l : List α} {q : α → Bool} (hn : ∀ j y, j < l.length → l[j]? = some y → q y = false) : l.findIdx? q = none := by
  rw [List.findIdx?_eq_none_iff]
  intro x hx
  obtain ⟨j, hj, e⟩ := List.mem_iff_getElem.1 hx
  exact hn j x hj (by rw [List.getElem?_eq_getElem hj, e])

set_option maxHeartbeats 4000000 in
set_option maxRecDepth 100000 in
theorem indexFunc_any {w : World} {v : Value} {l : List PF} (h : FRow w v l) (hl : l.length ≤ 1000000) :
    Calls Tryz.prog 152 #[v, .func (Fn.func 153) #[] #[]] w fun e w' => e = .returned (.int .i64 (idxI (waitI l))) ∧ Fr Zero w w' := by
  have H := hide h
  obtain ⟨fa, fc, rfl⟩ := h.len
  clear h
  go_enter Tryz.func152, Tryz.ntmps152
  go_wp2_with fail
  go_loopw [8] (fun i wr => ∃ k : Nat, k ≤ l.length ∧ i = .int .i64 k ∧ Hid (∀ (j : Nat) (y : PF), j < k → l[j]? = some y → decide (y.st = 0) = false) ∧ Hid (Fr Zero w wr)) (fun i _ => l.length - (intOf i).toNat)
  case atStart => exact ⟨0, by omega, rfl, fun j q hj => by omega, Fr.refl _ _⟩
  case round =>
    obtain ⟨k, hk, rfl, HN, HF⟩ := hrel
    by_cases hlt : k < l.length
    · have hI : (k : Int) < (l.length : Int) := by omega
      obtain ⟨f, hf⟩ : ∃ f, l[k]? = some f := ⟨l[k], by simp⟩
      obtain ⟨fb, off, cap, e1, c1, c2, c3, _⟩ := (H.out.keep HF.out (fun _ _ h => h)).at_ hf
      obtain ⟨rfl, _, rfl⟩ : fa = some ⟨fb, off, none⟩ ∧ True ∧ fc = cap := by simp at e1; exact ⟨e1.1, trivial, e1.2⟩
      have HFp := hide hf
      clear hf e1
      go_wp2_with fail
      refine (waits_any f _).mono ?_
      rintro e w1 ⟨rfl, hF1⟩
      have HF1 := hide (HF.out.trans hF1)
      clear hF1
      rcases hq : decide (f.st = 0) with _ | _
      · have HQ := hide hq
        clear hq
        go_wp2_with fail
        refine ⟨⟨k + 1, by omega, by go_num, fun j y hj hy => ?_, HF1⟩, by simp [intOf]; omega⟩
        by_cases e : j = k
        · subst e
          rw [HFp.out] at hy
          cases hy
          exact HQ
        · exact HN j y (by omega) hy
      · have HQ := hide hq
        clear hq
        go_wp2_with fail
        go_ret
        refine ⟨?_, HF1⟩
        unfold waitI
        rw [findIdx_at (q := fun f : PF => decide (f.st = 0)) HFp.out HQ HN]
        rfl
    · have hkl : k = l.length := by omega
      subst hkl
      have hI : ¬ (l.length : Int) < (l.length : Int) := by omega
      go_wp2_with fail
      go_ret
      refine ⟨?_, HF⟩
      unfold waitI
      rw [findIdx_no (q := fun f : PF => decide (f.st = 0)) HN]
      rfl

end Go.Proofs.YtdcjogpkogidaaaGreatDoor.Q
end
section
namespace Go.Proofs.YtdcjogpkogidaaaGreatDoor.Q
open Go.RowKit

def putRow (row : Bs) (o : Nat) (x : Bs) : Bs := row.take o ++ x ++ row.drop (o + x.length)
def hdr (n : Nat) : Bs := [UInt8.ofNat n, UInt8.ofNat (n / 256)]

theorem putRow_at (p s d : Bs) (u v b0 b1 : UInt8) : putRow (p ++ u :: v :: s) p.length ([b0, b1] ++ d) = p ++ [b0, b1] ++ d ++ s.drop d.length := by
  unfold putRow
  rw [List.take_left, show p.length + ([b0, b1] ++ d).length = p.length + (d.length + 1 + 1) by simp, ← List.drop_drop, List.drop_left]
  simp
theorem row_put (row : Bs) (o : Nat) (d : Bs) (b0 b1 : UInt8) (h : o + 2 + d.length ≤ row.length) :
    ((((Lib.byteCells row).set o (.int .u8 b0.toNat)).set (o + 1) (.int .u8 b1.toNat)).take (o + 2) ++ Lib.byteCells d ++ (((Lib.byteCells row).set o (.int .u8 b0.toNat)).set (o + 1) (.int .u8 b1.toNat)).drop (o + 2 + d.length)) = Lib.byteCells (putRow row o ([b0, b1] ++ d)) := by
  obtain ⟨p, q, rfl, hp⟩ : ∃ p q, row = p ++ q ∧ p.length = o := ⟨row.take o, row.drop o, (List.take_append_drop o row).symm, by rw [List.length_take]; omega⟩
  subst hp
  rw [List.length_append] at h
  rcases q with _ | ⟨u, _ | ⟨v, s⟩⟩
  · simp at h; omega
  · simp at h; omega
  · rw [putRow_at]
    have e : (((Lib.byteCells (p ++ u :: v :: s)).set p.length (.int .u8 b0.toNat)).set (p.length + 1) (.int .u8 b1.toNat)) = Lib.byteCells (p ++ [b0, b1]) ++ Lib.byteCells s := by
      have e1 : Lib.byteCells (p ++ u :: v :: s) = Lib.byteCells p ++ .int .u8 u.toNat :: .int .u8 v.toNat :: Lib.byteCells s := by simp [Lib.byteCells]
      have hl : p.length = (Lib.byteCells p).length := by simp [Lib.byteCells]
      rw [e1, hl, List.set_append_right _ _ (Nat.le_refl _), List.set_append_right _ _ (by omega), Nat.sub_self, show (Lib.byteCells p).length + 1 - (Lib.byteCells p).length = 1 by omega]
      simp [Lib.byteCells]
    have hl2 : p.length + 2 = (Lib.byteCells (p ++ [b0, b1])).length := by simp [Lib.byteCells]
    rw [e, hl2, List.take_left, ← List.drop_drop, List.drop_left]
    simp [Lib.byteCells, List.map_drop]

set_option maxHeartbeats 4000000 in
set_option maxRecDepth 100000 in
theorem write_any {w : World} {rb yb : Nat} {R : PR} {fv : Value} (h : RM w rb yb R fv) (at_ : Nat) (data : ByteArray) (hfit : 8 * at_ + 2 + data.size ≤ 8 * R.g) :
    Calls Tryz.prog 151 #[.pointer (some ⟨rb, 0, none⟩), .int .i64 at_, .string data] w fun e w' => e = .returned (.tuple #[]) ∧ RM w' rb yb { R with row := putRow R.row (8 * at_) (hdr data.size ++ data.data.toList) } fv ∧ Fr (One yb) w w' := by
  have h0 := h.at0
  have hg := h.g64
  have H := hide h
  have hl := h.len
  have hy := h.y
  have hbs : (Lib.byteCells R.row).toArray.size = 8 * R.g := by simp [Lib.byteCells, hl]
  have hf : ∀ o, w.frozen? ⟨yb, o, none⟩ = false := fun o => free_of_heap hy
  have hI1 : ((at_ : Int) * 8) ≤ ((8 * R.g : Nat) : Int) := by omega
  have hcell : ∀ o, o < 8 * R.g → ∃ b : UInt8, w.cell? ⟨yb, o, none⟩ = some (.int .u8 b.toNat) := fun o ho => by
    rw [cell_of_heap hy]
    obtain ⟨b, hb⟩ : ∃ b, R.row[o]? = some b := ⟨R.row[o]'(by omega), by simp⟩
    exact ⟨b, by simp [Lib.byteCells, hb]⟩
  obtain ⟨b0, c0⟩ := hcell (at_ * 8) (by omega)
  obtain ⟨b1, c1⟩ := hcell (at_ * 8 + 1) (by omega)
  have hsz : data.size ≤ 512 := by omega
  clear h hcell
  go_enter Tryz.func151, Tryz.ntmps151
  have HX : Hid ((((data.size : Int) % 256) = ((UInt8.ofNat data.size).toNat : Int)) ∧ (((data.size : Int) / 256) = ((UInt8.ofNat (data.size / 256)).toNat : Int))) := ⟨by simp, by simp; omega⟩
  obtain ⟨cur, hcur⟩ : ∃ cur, cur = (((Lib.byteCells R.row).toArray.setIfInBounds (at_ * 8) (.int .u8 ((data.size : Int) % 256))).setIfInBounds (at_ * 8 + 1) (.int .u8 ((data.size : Int) / 256))) := ⟨_, rfl⟩
  have hW : ((w.setCell ⟨yb, at_ * 8, none⟩ (.int .u8 ((data.size : Int) % 256))).setCell ⟨yb, at_ * 8 + 1, none⟩ (.int .u8 ((data.size : Int) / 256))).heap[yb]? = some (.cells cur 5 (0, 0)) := by
    rw [hcur]
    exact heap_setCell_same (heap_setCell_same hy)
  have hcs : cur.size = 8 * R.g := by rw [hcur]; simp [Lib.byteCells, hl]
  have hrun := Lib.run_copy_row_string (P := Tryz.prog) ((w.setCell ⟨yb, at_ * 8, none⟩ (.int .u8 ((data.size : Int) % 256))).setCell ⟨yb, at_ * 8 + 1, none⟩ (.int .u8 ((data.size : Int) / 256))) 24 9 3 5 yb (at_ * 8 + 2) (8 * R.g - at_ * 8 - 2) (8 * R.g - at_ * 8 - 2) data cur 5 Tryz.underlying24 (by kernel_rfl) hW (by omega) (by omega)
  have HR : Hid ((cur.toList.take (at_ * 8 + 2) ++ Lib.byteCells data.data.toList ++ cur.toList.drop (at_ * 8 + 2 + data.size)).toArray = (Lib.byteCells (putRow R.row (8 * at_) (hdr data.size ++ data.data.toList))).toArray) := by
    have := row_put R.row (at_ * 8) data.data.toList (UInt8.ofNat data.size) (UInt8.ofNat (data.size / 256)) (by rw [Array.length_toList]; show _ + _ + data.size ≤ _; omega)
    rw [Array.length_toList] at this
    show _ = _
    rw [hcur, HX.out.1, HX.out.2, Nat.mul_comm 8 at_]
    simp only [Array.toList_setIfInBounds]
    exact congrArg List.toArray this
  rw [HR.out] at hrun
  have HW := hide hW
  clear hW hcur HR
  generalize hrw : putRow R.row (8 * at_) (hdr data.size ++ data.data.toList) = row' at *
  have HRL : Hid (row'.length = 8 * R.g) := by
    show _ = _
    rw [← hrw]
    unfold putRow
    simp only [List.length_append, List.length_take, List.length_drop, hdr, List.length_cons, List.length_nil, Array.length_toList]
    have e : data.data.size = data.size := rfl
    omega
  clear hrw
  go_wp2_with fail
  go_end0
  have hyr := setRow_heap _ yb _ (Lib.byteCells row').toArray 5 _ HW.out
  have hF : Fr (One yb) w (((w.setCell ⟨yb, at_ * 8, none⟩ (.int .u8 ((data.size : Int) % 256))).setCell ⟨yb, at_ * 8 + 1, none⟩ (.int .u8 ((data.size : Int) / 256))).setRow yb (Lib.byteCells row').toArray) :=
    ((Fr.setCell (One yb) w ⟨yb, at_ * 8, none⟩ _ rfl).trans (Fr.setCell (One yb) _ ⟨yb, at_ * 8 + 1, none⟩ _ rfl)).trans ⟨rfl, rfl, rfl, by simp, fun k _ hk => setRow_other _ yb k _ hk⟩
  refine ⟨rfl, ⟨hF.keep H.out.r H.out.ne, hyr, H.out.f.keep hF (fun g hg e => H.out.fne hg e), H.out.g2, H.out.g64, HRL.out⟩, hF⟩

end Go.Proofs.YtdcjogpkogidaaaGreatDoor.Q
end
section
namespace Go.Proofs.YtdcjogpkogidaaaGreatDoor.Q
open Go.RowKit

def Owns (v : Value) : Nat → Prop := fun k => blockOf v = some k

theorem fsCells_snoc (l : List PF) (f : PF) : fsCells (l ++ [f]) = fsCells l ++ fcells f := by simp [fsCells]

theorem src_frame {w : World} {n : Nat} (f : PF) {t : TypeId} (h : w.heap[n]? = some (.cells #[.int .i64 f.at_, .int .i64 f.takes, .int .i64 f.st] t (0, 0))) : Src Tryz.prog 3 260 (.slice (some ⟨n, 0, none⟩) 1 1) 1 (fcells f) w := by
  refine Src.ofSlice w Tryz.underlying260 _ _ _ _ rfl (fun j u hj => ?_) (fun u hu => ?_)
  · have e : (⟨n, 0, none⟩ : Addr).add j = ⟨n, j, none⟩ := by simp [Addr.add]; omega
    rw [e, cell_of_heap h]
    simpa [fcells] using hj
  · simp [fcells] at hu
    rcases hu with rfl | rfl | rfl <;> rfl

theorem infoF : (Tryz.prog.info? 266).map (fun i => (i.zero, i.size, i.bytes)) = some (some (.agg #[.int .i64 0, .int .i64 0, .int .i64 0]), 3, 24) := by kernel_rfl
theorem run_fappend {w : World} {v : Value} {l : List PF} (h : FRow w v l) (tx ty : TypeId) (x : Value) (f : PF) (hs : Src Tryz.prog 3 tx x 1 (fcells f) w) (hl : l.length ≤ 1000000) :
    ∃ v' w', (Builtin.append_ #[260, tx] ty #[v, x]).run Tryz.prog w = .ok v' w' ∧ FRow w' v' (l ++ [f]) ∧ Fr (Owns v) w w' ∧ ∀ k, k < w.heap.size → blockOf v' = some k → blockOf v = some k := by
  obtain ⟨i, hi, hz, hsize, hby⟩ := info_parts infoF
  have ht : Tryz.prog.underlying 260 = some (.slice 266) := Tryz.underlying260
  have hs' := hs
  rw [← hsize] at hs'
  have hfl : (fcells f).length = 3 := rfl
  have grown : ∀ (base : Option Addr) (cap : Nat), cap < l.length + 1 → v = .slice base l.length cap → (Builtin.firstCells i.size l.length (.slice base l.length cap)).run Tryz.prog w.drew = .ok (fsCells l).toArray w.drew →
      ∃ v' w', (Builtin.append_ #[260, tx] ty #[v, x]).run Tryz.prog w = .ok v' w' ∧ FRow w' v' (l ++ [f]) ∧ Fr (Owns v) w w' ∧ ∀ k, k < w.heap.size → blockOf v' = some k → blockOf v = some k := by
    intro base cap hcap hsv hold
    subst hsv
    have hr := run_append_grow_src (P := Tryz.prog) w 260 tx ty 266 i _ ht hi hz base l.length cap (fsCells l) hold x 1 (fcells f) hs' hcap (by omega) (by rw [hby]; exact growslice_fits hcap (by omega))
    have hge := grownCap_ge w (l.length + 1) cap 266
    have hcm : grownCap w (l.length + 1) cap 266 ≤ maxLen := grownCap_le_maxLen w (l.length + 1) cap 266 (by unfold maxLen; omega)
    refine ⟨_, _, hr, .inr ⟨w.heap.size, 0, grownCap w (l.length + 1) cap 266, _, by rw [List.length_append]; rfl, heap_alloc_new w.drew _, by rw [List.length_append]; exact hge, ?_, hcm, fun j u hj => ?_⟩, ⟨rfl, rfl, rfl, by simp, fun k hk _ => Below.heap_alloc w.drew _ _ hk⟩, fun k hk e => by simp [blockOf] at e; omega⟩
    · simp only [Array.size_append, List.size_toArray, size_zeroCells, List.length_append, fsCells_length, hfl, Value.cells]
      simp
      omega
    · rw [fsCells_snoc] at hj
      rw [Nat.zero_add]
      have hjl : j < (fsCells l ++ fcells f).length := (List.getElem?_eq_some_iff.1 hj).1
      rw [Array.getElem?_append_left (by simpa using hjl)]
      simpa using hj
  rcases h with ⟨rfl, rfl⟩ | ⟨fb, off, cap, cur, rfl, h2, h3, h4, h5, h6⟩
  · exact grown none 0 (by simp) rfl (run_firstCells_none w.drew i.size 0 0 0)
  · by_cases hroom : l.length + 1 ≤ cap
    · have hfit : off + l.length * i.size + (fcells f).length ≤ cur.size := by rw [hfl, hsize]; omega
      have hst := run_storeCells_at Tryz.prog fb (off + l.length * i.size) 266 (fcells f) 0 cur w h2 (by simpa using hfit) hs.one
      simp only [Nat.add_zero] at hst
      have hr : (Builtin.append_ #[260, tx] ty #[.slice (some ⟨fb, off, none⟩) l.length cap, x]).run Tryz.prog w = .ok (.slice (some ⟨fb, off, none⟩) (l.length + 1) cap) (w.setRow fb (cur.toList.take (off + l.length * i.size) ++ fcells f ++ cur.toList.drop (off + l.length * i.size + (fcells f).length)).toArray) := by
        rcases hs'.kind with ⟨e', hk⟩ | hk <;> simp [Builtin.append_, run_underlying ht, run_underlying hk, sizeOf, typeInfo, hi, hs'.len, hroom, hs'.cells, Addr.add_lit, hst]
      refine ⟨_, _, hr, .inr ⟨fb, off, cap, _, by rw [List.length_append]; rfl, setRow_heap w fb cur _ 266 _ h2, by rw [List.length_append]; exact hroom, ?_, h5, fun j u hj => ?_⟩, ⟨rfl, rfl, rfl, by simp, fun k _ hk => setRow_other w fb k _ (fun e => hk (by subst e; rfl))⟩, fun k _ e => by simpa [blockOf] using e⟩
      · simp only [List.size_toArray, List.length_append, List.length_take, List.length_drop, Array.length_toList]
        omega
      · rw [fsCells_snoc] at hj
        rw [hsize] at hfit ⊢
        have hcl : (cur.toList.take (off + l.length * 3)).length = off + l.length * 3 := by
          have e : cur.toList.length = cur.size := Array.length_toList
          rw [List.length_take, e]
          exact Nat.min_eq_left (by omega)
        rw [List.getElem?_toArray]
        rcases Nat.lt_or_ge j (l.length * 3) with q | q
        · rw [List.getElem?_append_left (by rw [List.length_append, hcl]; omega), List.getElem?_append_left (by rw [hcl]; omega), List.getElem?_take_of_lt (by omega)]
          rw [List.getElem?_append_left (by rw [fsCells_length]; exact q)] at hj
          rw [Array.getElem?_toList]
          exact h6 j u hj
        · rw [List.getElem?_append_right (by rw [fsCells_length]; exact q), fsCells_length] at hj
          have hj3 : j - l.length * 3 < (fcells f).length := (List.getElem?_eq_some_iff.1 hj).1
          rw [hfl] at hj3
          rw [List.getElem?_append_left (by rw [List.length_append, hcl, hfl]; omega), List.getElem?_append_right (by rw [hcl]; omega), hcl, show off + j - (off + l.length * 3) = j - l.length * 3 by omega]
          exact hj
    · exact grown _ cap (by omega) rfl (run_firstCells_some w.drew i.size l.length _ _ _ (fsCells l) (by rw [fsCells_length, hsize]) (fun j u hj => by
        have e : (⟨fb, off, none⟩ : Addr).add j = ⟨fb, off + j, none⟩ := by simp [Addr.add]
        rw [e]
        show w.cell? _ = _
        rw [cell_of_heap h2]
        exact h6 j u hj))

theorem wpList_fappend {w : World} {ops : Array Oper} {rest : List Oper} {o : Oper} {a : Act} {Q : Exit → Act → World → Prop}
    (hg : o.guard = none) (s x : Operand) (tx : TypeId) (hop : o.op = Op.call { callee := Callee.builtin Builtin.append, args := #[s, x], argTypes := #[260, tx] })
    {sv xv : Value} {l : List PF} (f : PF) (hs : a.eval s = sv) (hx : a.eval x = xv) (h : FRow w sv l) (hsrc : Src Tryz.prog 3 tx xv 1 (fcells f) w) (hl : l.length ≤ 1000000)
    (hK : ∀ v' w', FRow w' v' (l ++ [f]) → Fr (Owns sv) w w' → (∀ k, k < w.heap.size → blockOf v' = some k → blockOf sv = some k) → wpList Tryz.prog ops Q rest (a.put o.dst v') w') :
    wpList Tryz.prog ops Q (o :: rest) a w := by
  refine wpList_plain hg fun K hK' => ?_
  obtain ⟨v', w', hrun, r1, r2, r3⟩ := run_fappend h tx o.type xv f hsrc hl
  unfold Oper.wp
  simp [execOp, hop, resolve, invoke, builtin, hs, hx, hrun, Result.andThen]
  exact hK' _ _ (hK v' w' r1 r2 r3)

end Go.Proofs.YtdcjogpkogidaaaGreatDoor.Q
end
