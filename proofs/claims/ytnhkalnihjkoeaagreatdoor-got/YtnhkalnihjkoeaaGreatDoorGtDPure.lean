/- What is told on the way through a message: each part's path and text, each number's path. -/
import Derived.Test.YtnhkalnihjkoeaaGreatDoorGtVMem
import Derived.Test.YtnhkalnihjkoeaaGreatDoorGtVLen
namespace Go.Proofs.YtnhkalnihjkoeaaGreatDoor
open Go.RowKit

def under (p st : Bs) : Bs := if p = [] then st else p ++ 47 :: st
def stepOf (t : PT) (n : Int) (i : Nat) : Bs := if t.kind = 7 then decN 20 i else if t.kind = 8 then [43] else if t.kind = 9 then t.name i else t.name n.toNat
def starOf (t : PT) (n : Int) (i : Nat) : Bs := if t.kind = 7 then [42] else stepOf t n i
def kids {α : Type} (f : Nat → PV → List α) : Nat → List PV → List α
  | _, [] => []
  | i, v :: l => f i v ++ kids f (i + 1) l
def waysOf : Nat → Bs → PV → List (Bs × Bs)
  | 0, _, _ => []
  | k + 1, p, v => (p, wText (k + 1) v) :: kids (fun i x => waysOf k (under p (stepOf v.of v.num i)) x) 0 v.parts
def numsOf : Nat → Bs → PV → List (Bs × Int)
  | 0, _, _ => []
  | k + 1, p, v => if v.of.kind ≤ 3 then [(p, v.num)] else kids (fun i x => numsOf k (under p (starOf v.of v.num i)) x) 0 v.parts

theorem kids_snoc {α : Type} (f : Nat → PV → List α) (v : PV) : ∀ (l : List PV) (i : Nat), kids f i (l ++ [v]) = kids f i l ++ f (i + l.length) v := by
  intro l
  induction l with
  | nil => intro i; simp [kids]
  | cons x l ih => intro i; simp only [List.cons_append, kids, ih, List.append_assoc, List.length_cons]; rw [show i + 1 + l.length = i + (l.length + 1) by omega]
theorem wBetween_more (f : PV → Bs) (v : PV) : ∀ (l : List PV), wBetween f (l ++ [v]) = wBetween f l ++ ((if l.length = 0 then [] else [44]) ++ f v) := by
  intro l
  induction l with
  | nil => simp [wBetween]
  | cons x l ih =>
    cases l with
    | nil => simp [wBetween]
    | cons y l => rw [List.cons_append, wBetween_cons (by simp), wBetween_cons (by simp), ih]; simp
theorem under_size (p st : Bs) : (under p st).length ≤ p.length + 1 + st.length := by
  unfold under
  split
  · omega
  · simp; omega
theorem Fr.four (X : Nat → Prop) (w : World) (b : Nat) (v0 v1 v2 v3 : Value) (hx : X b) : Fr X w ((((w.setCell ⟨b, 0, none⟩ v0).setCell ⟨b, 1, none⟩ v1).setCell ⟨b, 2, none⟩ v2).setCell ⟨b, 3, none⟩ v3) :=
  (((Fr.setCell X w ⟨b, 0, none⟩ v0 hx).trans (Fr.setCell X _ ⟨b, 1, none⟩ v1 hx)).trans (Fr.setCell X _ ⟨b, 2, none⟩ v2 hx)).trans (Fr.setCell X _ ⟨b, 3, none⟩ v3 hx)
theorem heap_four {w : World} {b : Nat} {a0 a1 a2 a3 : Value} {t : TypeId} {f : Nat × Nat} (h : w.heap[b]? = some (.cells #[a0, a1, a2, a3] t f)) (v0 v1 v2 v3 : Value) :
    ((((w.setCell ⟨b, 0, none⟩ v0).setCell ⟨b, 1, none⟩ v1).setCell ⟨b, 2, none⟩ v2).setCell ⟨b, 3, none⟩ v3).heap[b]? = some (.cells #[v0, v1, v2, v3] t f) := by
  rw [heap_setCell_same (heap_setCell_same (heap_setCell_same (heap_setCell_same h)))]; rfl
theorem heap_four_ne {w : World} {b k : Nat} (hk : k ≠ b) (v0 v1 v2 v3 : Value) :
    ((((w.setCell ⟨b, 0, none⟩ v0).setCell ⟨b, 1, none⟩ v1).setCell ⟨b, 2, none⟩ v2).setCell ⟨b, 3, none⟩ v3).heap[k]? = w.heap[k]? := by
  rw [Below.heap_setCell _ _ _ _ hk, Below.heap_setCell _ _ _ _ hk, Below.heap_setCell _ _ _ _ hk, Below.heap_setCell _ _ _ _ hk]

end Go.Proofs.YtnhkalnihjkoeaaGreatDoor
