/- A ring in memory; what its small calls tell. -/
import Derived.Test.YtnhkalnihjkoeaaGreatDoorProg
import Derived.WalkKit
import Derived.WalkSpells
import Derived.Deep.QuietTactic
import Derived.BigQuiet
import Derived.ArgAppend
import Derived.Deep.RegionLaw
import Derived.Deep.RegionHeld3
import Derived.Lib.UnsafeStr
import Derived.Laws.IdiomStrings
import Derived.Laws.BytesArg
import Derived.Deep.AppendSrc
import Derived.RegionTactic
import Derived.Test.YtnhkalnihjkoeaaGreatDoorRgWordType
import Derived.Test.YtnhkalnihjkoeaaGreatDoorRgParts
import Derived.Test.YtnhkalnihjkoeaaGreatDoorRgVMem
import Derived.Test.YtnhkalnihjkoeaaGreatDoorRgVOut
import Derived.Test.YtnhkalnihjkoeaaGreatDoorRgVReg
import Derived.Test.YtnhkalnihjkoeaaGreatDoorRgVOne
namespace Go.Proofs.YtnhkalnihjkoeaaGreatDoor.Q
open Go.RowKit

/-- A frame: its first granule, how many it takes with its gap, its state (0 it waits, 1 it is held, 2 it was released), its bytes. -/
structure PF where
  at_ : Nat
  takes : Nat
  st : Nat
  data : Bs
/-- A ring: its granules, its row of bytes, its frames, the number of the first of them, the granule behind the newest, whether it is shut. -/
structure PR where
  g : Nat
  row : Bs
  fs : List PF
  first : Nat
  next : Nat
  shut : Bool

def fcells (f : PF) : List Value := [.int .i64 f.at_, .int .i64 f.takes, .int .i64 f.st]
def fsCells (l : List PF) : List Value := l.flatMap fcells
theorem fsCells_length (l : List PF) : (fsCells l).length = l.length * 3 := by
  induction l with
  | nil => rfl
  | cons f l ih => simp only [fsCells, List.flatMap_cons, List.length_append] at ih ⊢; rw [ih]; simp [fcells]; omega
theorem fsCells_at {l : List PF} {i : Nat} {f : PF} (h : l[i]? = some f) : (fsCells l)[i * 3]? = some (.int .i64 f.at_) ∧ (fsCells l)[i * 3 + 1]? = some (.int .i64 f.takes) ∧ (fsCells l)[i * 3 + 2]? = some (.int .i64 f.st) := by
  induction l generalizing i with
  | nil => simp at h
  | cons x l ih =>
    have e : fsCells (x :: l) = .int .i64 x.at_ :: .int .i64 x.takes :: .int .i64 x.st :: fsCells l := rfl
    rw [e]
    rcases i with _ | i
    · simp at h; subst h; exact ⟨rfl, rfl, rfl⟩
    · simp at h
      obtain ⟨h1, h2, h3⟩ := ih h
      rw [show (i + 1) * 3 = i * 3 + 3 by omega]
      exact ⟨h1, h2, h3⟩

/-- A row of frames in memory: a piece of a greater one, from some cell on. -/
def FRow (w : World) (v : Value) (l : List PF) : Prop :=
  (v = .slice none 0 0 ∧ l = []) ∨ ∃ (fb off cap : Nat) (cur : Array Value), v = .slice (some ⟨fb, off, none⟩) l.length cap ∧ w.heap[fb]? = some (.cells cur 358 (0, 0)) ∧ l.length ≤ cap ∧ off + cap * 3 ≤ cur.size ∧ cap ≤ maxLen ∧ ∀ j u, (fsCells l)[j]? = some u → cur[off + j]? = some u
def blockOf (v : Value) : Option Nat := match v with
  | .slice (some a) _ _ => some a.block
  | _ => none

theorem FRow.keep {X : Nat → Prop} {w w' : World} {v : Value} {l : List PF} (h : FRow w v l) (hf : Fr X w w') (hx : ∀ g, blockOf v = some g → ¬ X g) : FRow w' v l := by
  rcases h with h | ⟨fb, off, cap, cur, h1, h2, h3⟩
  · exact .inl h
  · exact .inr ⟨fb, off, cap, cur, h1, hf.keep h2 (hx fb (by rw [h1]; rfl)), h3⟩
theorem FRow.len {w : World} {v : Value} {l : List PF} (h : FRow w v l) : ∃ a cap, v = .slice a l.length cap := by
  rcases h with ⟨rfl, rfl⟩ | ⟨fb, off, cap, cur, rfl, _⟩
  · exact ⟨none, 0, rfl⟩
  · exact ⟨_, cap, rfl⟩
theorem FRow.at_ {w : World} {v : Value} {l : List PF} (h : FRow w v l) {i : Nat} {f : PF} (hf : l[i]? = some f) : ∃ fb off cap, v = .slice (some ⟨fb, off, none⟩) l.length cap ∧ w.cell? ⟨fb, off + i * 3, none⟩ = some (.int .i64 f.at_) ∧ w.cell? ⟨fb, off + i * 3 + 1, none⟩ = some (.int .i64 f.takes) ∧ w.cell? ⟨fb, off + i * 3 + 2, none⟩ = some (.int .i64 f.st) ∧ (∀ o, w.frozen? ⟨fb, o, none⟩ = false) := by
  rcases h with ⟨_, rfl⟩ | ⟨fb, off, cap, cur, rfl, h2, _, _, _, h6⟩
  · simp at hf
  · obtain ⟨e1, e2, e3⟩ := fsCells_at hf
    refine ⟨fb, off, cap, rfl, ?_, ?_, ?_, fun o => free_of_heap h2⟩
    · rw [cell_of_heap h2]; exact h6 _ _ e1
    · rw [cell_of_heap h2, Nat.add_assoc]; exact h6 _ _ e2
    · rw [cell_of_heap h2, Nat.add_assoc]; exact h6 _ _ e3

/-- A ring in memory. -/
structure RM (w : World) (rb yb : Nat) (R : PR) (fv : Value) : Prop where
  r : w.heap[rb]? = some (.cells #[.slice (some ⟨yb, 0, none⟩) (8 * R.g) (8 * R.g), fv, .int .i64 R.first, .int .i64 R.next, .bool R.shut] 354 (0, 0))
  y : w.heap[yb]? = some (.cells (Lib.byteCells R.row).toArray 5 (0, 0))
  f : FRow w fv R.fs
  g2 : 2 ≤ R.g
  g64 : R.g ≤ 64
  len : R.row.length = 8 * R.g

section
variable {w w' : World} {rb yb : Nat} {R : PR} {fv : Value}
theorem RM.at0 (h : RM w rb yb R fv) : w.cell? ⟨rb, 0, none⟩ = some (.slice (some ⟨yb, 0, none⟩) (8 * R.g) (8 * R.g)) := by rw [cell_of_heap h.r]; rfl
theorem RM.at1 (h : RM w rb yb R fv) : w.cell? ⟨rb, 1, none⟩ = some fv := by rw [cell_of_heap h.r]; rfl
theorem RM.at2 (h : RM w rb yb R fv) : w.cell? ⟨rb, 2, none⟩ = some (.int .i64 R.first) := by rw [cell_of_heap h.r]; rfl
theorem RM.at3 (h : RM w rb yb R fv) : w.cell? ⟨rb, 3, none⟩ = some (.int .i64 R.next) := by rw [cell_of_heap h.r]; rfl
theorem RM.at4 (h : RM w rb yb R fv) : w.cell? ⟨rb, 4, none⟩ = some (.bool R.shut) := by rw [cell_of_heap h.r]; rfl
theorem RM.free (h : RM w rb yb R fv) (o : Nat) : w.frozen? ⟨rb, o, none⟩ = false := free_of_heap h.r
theorem RM.ne (h : RM w rb yb R fv) : ¬ One yb rb := fun e => by
  have e' : rb = yb := e
  have h1 := h.r
  rw [e', h.y] at h1
  simp at h1
theorem RM.fne (h : RM w rb yb R fv) {g : Nat} (hg : blockOf fv = some g) : ¬ One yb g := fun e => by
  have e' : g = yb := e
  rcases h.f with ⟨h1, _⟩ | ⟨fb, off, cap, cur, h1, h2, _⟩
  · rw [h1] at hg; simp [blockOf] at hg
  · rw [h1] at hg
    simp [blockOf] at hg
    rw [hg, e', h.y] at h2
    simp at h2
theorem RM.fner (h : RM w rb yb R fv) {g : Nat} (hg : blockOf fv = some g) : ¬ One rb g := fun e => by
  have e' : g = rb := e
  rcases h.f with ⟨h1, _⟩ | ⟨fb, off, cap, cur, h1, h2, _⟩
  · rw [h1] at hg; simp [blockOf] at hg
  · rw [h1] at hg
    simp [blockOf] at hg
    rw [hg, e', h.r] at h2
    simp at h2
theorem RM.quiet (h : RM w rb yb R fv) (hf : Fr Zero w w') : RM w' rb yb R fv := ⟨hf.keep h.r (fun h => h), hf.keep h.y (fun h => h), h.f.keep hf (fun _ _ h => h), h.g2, h.g64, h.len⟩
end

def needs (n : Nat) : Nat := (n + 9) / 8
def taken (l : List PF) : Nat := (l.map PF.takes).sum

theorem taken_take (l : List PF) (k : Nat) : taken (l.take k) ≤ taken l := by
  unfold taken
  have h : l = l.take k ++ l.drop k := (List.take_append_drop k l).symm
  have : (l.map PF.takes).sum = ((l.take k).map PF.takes).sum + ((l.drop k).map PF.takes).sum := by rw [← List.sum_append, ← List.map_append, ← h]
  omega

set_option maxHeartbeats 4000000 in
theorem granulesFor_any (n : Nat) (hn : n ≤ 1000000000000000) (w : World) :
    Calls Tryz.prog 228 #[.int .i64 n] w fun e w' => e = .returned (.int .i64 (needs n : Nat)) ∧ w' = w := by
  go_enter Tryz.func228, Tryz.ntmps228
  go_wp2_with fail
  go_ret
  refine ⟨?_, rfl⟩
  unfold needs
  go_num

set_option maxHeartbeats 4000000 in
theorem granules_any {w : World} {rb yb : Nat} {R : PR} {fv : Value} (h : RM w rb yb R fv) :
    Calls Tryz.prog 229 #[.pointer (some ⟨rb, 0, none⟩)] w fun e w' => e = .returned (.int .i64 (R.g : Nat)) ∧ w' = w := by
  have h0 := h.at0
  have h1 := h.g64
  have h2 := h.g2
  clear h
  go_enter Tryz.func229, Tryz.ntmps229
  go_wp2_with fail
  go_ret
  refine ⟨?_, rfl⟩
  go_num

set_option maxHeartbeats 4000000 in
set_option maxRecDepth 100000 in
theorem taken_any {w : World} {rb yb : Nat} {R : PR} {fv : Value} (h : RM w rb yb R fv) (ht : taken R.fs ≤ 1000000) (hl : R.fs.length ≤ 1000000) :
    Calls Tryz.prog 231 #[.pointer (some ⟨rb, 0, none⟩)] w fun e w' => e = .returned (.int .i64 (taken R.fs : Nat)) ∧ Fr Zero w w' := by
  have h1 := h.at1
  have H := hide h
  obtain ⟨fa, fc, rfl⟩ := h.f.len
  clear h
  go_enter Tryz.func231, Tryz.ntmps231
  go_wp2_with fail
  go_loopw [3, 11] (fun nv iv wr => ∃ k : Nat, k ≤ R.fs.length ∧ nv = .int .i64 (taken (R.fs.take k) : Nat) ∧ iv = .int .i64 k ∧ Hid (Fr Zero w wr)) (fun _ iv _ => R.fs.length - (intOf iv).toNat)
  case atStart => exact ⟨0, by omega, rfl, rfl, Fr.refl _ _⟩
  case round =>
    obtain ⟨k, hk, rfl, rfl, HF⟩ := hrel
    have HR := hide (H.out.quiet HF.out)
    by_cases hlt : k < R.fs.length
    · have hI : (k : Int) < (R.fs.length : Int) := by omega
      obtain ⟨f, hf⟩ : ∃ f, R.fs[k]? = some f := ⟨R.fs[k], by simp⟩
      obtain ⟨fb, off, cap, e1, c1, c2, c3, _⟩ := HR.out.f.at_ hf
      obtain ⟨rfl, _, rfl⟩ : fa = some ⟨fb, off, none⟩ ∧ True ∧ fc = cap := by simp at e1; exact ⟨e1.1, trivial, e1.2⟩
      obtain ⟨hkk, hke⟩ := List.getElem?_eq_some_iff.1 hf
      have HT : Hid (taken (R.fs.take (k + 1)) = taken (R.fs.take k) + f.takes) := by
        show _ = _
        unfold taken
        rw [List.take_succ_eq_append_getElem hkk, hke, List.map_append, List.sum_append]
        simp
      have HTl : Hid (taken (R.fs.take (k + 1)) ≤ taken R.fs) := taken_take _ _
      have ht1 : taken (R.fs.take k) + f.takes ≤ 1000000 := by have := HTl.out; have := HT.out; omega
      generalize taken (R.fs.take k) = N at *
      have HF2 : Hid (Fr Zero w (wr.alloc (.cells #[.int .i64 f.at_, .int .i64 f.takes, .int .i64 f.st] 358))) := HF.out.trans (Fr.alloc _ _ _)
      clear hf hkk hke e1
      go_wp2_with fail
      go_roundw
      case rel => exact ⟨k + 1, by omega, by rw [HT.out]; go_num, by go_num, HF2⟩
      case measure => simp [intOf]; omega
    · have hkl : k = R.fs.length := by omega
      subst hkl
      have hI : ¬ (R.fs.length : Int) < (R.fs.length : Int) := by omega
      rw [List.take_length]
      go_wp2_with fail
      go_ret
      exact ⟨rfl, HF⟩

end Go.Proofs.YtnhkalnihjkoeaaGreatDoor.Q
