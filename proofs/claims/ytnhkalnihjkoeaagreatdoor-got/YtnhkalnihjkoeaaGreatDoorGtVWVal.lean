/- How values are written into a message. -/
import Derived.Test.YtnhkalnihjkoeaaGreatDoorGtVWrite
import Derived.Test.YtnhkalnihjkoeaaGreatDoorGtVValue
section
namespace Go.Proofs.YtnhkalnihjkoeaaGreatDoor
open Go.RowKit

def FromPost (w : World) (errno : Int) (s : ByteArray) (res : Option PV × Bs) (e : Ending) (w' : World) : Prop :=
  Fr Zero w w' ∧ ((∃ v c, res = (some v, []) ∧ (∃ o n k, c.sv = .slice o n k) ∧ e = .returned (.tuple #[VC.val c, .int .i64 0, .int .i64 0]) ∧ VR w' Zero c v) ∨
    (¬ (∃ v, res = (some v, [])) ∧ e = .returned (.tuple #[.agg #[.pointer none, .int .i64 0, .string ⟨#[]⟩, .slice none 0 0], .int .i64 errno, .int .i64 (pos s res.2)])))

/-- The four cells of a block, written empty. -/
def setZ (w : World) (b : Nat) : World := (((w.setCell ⟨b, 0, none⟩ (.pointer none)).setCell ⟨b, 1, none⟩ (.int .i64 0)).setCell ⟨b, 2, none⟩ (.string ⟨#[]⟩)).setCell ⟨b, 3, none⟩ (.slice none 0 0)
theorem setZ_cells {w : World} {b : Nat} {x0 x1 x2 x3 : Value} {t : TypeId} (h : w.heap[b]? = some (.cells #[x0, x1, x2, x3] t (0, 0))) : (setZ w b).cell? ⟨b, 0, none⟩ = some (.pointer none) ∧ (setZ w b).cell? ⟨b, 1, none⟩ = some (.int .i64 0) ∧ (setZ w b).cell? ⟨b, 2, none⟩ = some (.string ⟨#[]⟩) ∧ (setZ w b).cell? ⟨b, 3, none⟩ = some (.slice none 0 0) := by
  have h4 : (setZ w b).heap[b]? = some (.cells #[.pointer none, .int .i64 0, .string ⟨#[]⟩, .slice none 0 0] t (0, 0)) := by
    unfold setZ
    rw [heap_setCell_same (heap_setCell_same (heap_setCell_same (heap_setCell_same h)))]
    rfl
  obtain ⟨h1, h2, h3, h4, _⟩ := blk4 h4
  exact ⟨h1, h2, h3, h4⟩
theorem Fr.setZ (w : World) (b : Nat) : Fr (One b) w (setZ w b) :=
  ((Fr.setCell (One b) _ ⟨b, 0, none⟩ _ rfl).trans (Fr.setCell (One b) _ ⟨b, 1, none⟩ _ rfl)).trans ((Fr.setCell (One b) _ ⟨b, 2, none⟩ _ rfl).trans (Fr.setCell (One b) _ ⟨b, 3, none⟩ _ rfl))

theorem RB.start (ty : TypeId) (w : World) (s : ByteArray) : RB ty (w.alloc (.cells #[.int .i64 0, .string s] ty)) w.heap.size s s.data.toList := by
  have hl : s.data.toList.length = s.size := by rw [Array.length_toList]; rfl
  have hp : pos s s.data.toList = 0 := by unfold pos; omega
  refine ⟨by omega, by rw [hp]; rfl, ?_⟩
  rw [hp]
  exact heap_new_at rfl _

end Go.Proofs.YtnhkalnihjkoeaaGreatDoor
end
section
namespace Go.Proofs.YtnhkalnihjkoeaaGreatDoor
open Go.RowKit

/-- A value in memory, by its block. -/
structure VB (w : World) (n tb : Nat) (c : VC) (kind : Nat) : Prop where
  box : w.heap[n]? = some (.cells #[.pointer (some ⟨tb, 0, none⟩), .int .i64 c.n, .string (ba c.b), c.sv] 135 (0, 0))
  typ : w.cell? ⟨tb, 0, none⟩ = some (.int .i64 kind)
theorem VB.all {w : World} {n tb : Nat} {c : VC} {kind : Nat} (h : VB w n tb c kind) : w.cell? ⟨n, 0, none⟩ = some (.pointer (some ⟨tb, 0, none⟩)) ∧ w.cell? ⟨n, 1, none⟩ = some (.int .i64 c.n) ∧ w.cell? ⟨n, 2, none⟩ = some (.string (ba c.b)) ∧ w.cell? ⟨n, 3, none⟩ = some c.sv ∧ w.cell? ⟨tb, 0, none⟩ = some (.int .i64 kind) := by
  obtain ⟨h1, h2, h3, h4, _⟩ := blk4 h.box
  exact ⟨h1, h2, h3, h4, h.typ⟩

theorem vCell {w : World} {sv : Value} {rows : List VC} {g cap : Nat} (hO : w.ownsRow 0 135 4 sv rows.length (vCells rows)) (hv : sv = .slice (some ⟨g, 0, none⟩) rows.length cap) {j : Nat} {c : VC} (hj : rows[j]? = some c) : w.cell? ⟨g, j * 4, none⟩ = some (.pointer (some c.a)) ∧ w.cell? ⟨g, j * 4 + 1, none⟩ = some (.int .i64 c.n) ∧ w.cell? ⟨g, j * 4 + 2, none⟩ = some (.string (ba c.b)) ∧ w.cell? ⟨g, j * 4 + 3, none⟩ = some c.sv := by
  subst hv
  obtain ⟨h1, h2, h3, h4⟩ := vCells_get rows j c hj
  have hl := (List.getElem?_eq_some_iff.1 hj).1
  refine ⟨?_, ?_, ?_, ?_⟩
  · rw [hO.cellAt (j * 4) (by omega)]; exact h1
  · rw [hO.cellAt (j * 4 + 1) (by omega)]; exact h2
  · rw [hO.cellAt (j * 4 + 2) (by omega)]; exact h3
  · rw [hO.cellAt (j * 4 + 3) (by omega)]; exact h4
theorem VR.sliced {w : World} {X : Nat → Prop} {c : VC} {p : PV} (h : VR w X c p) : ∃ o n j, c.sv = .slice o n j := by
  obtain ⟨_, _, _, rows, hO, _, _⟩ := h.open
  obtain ⟨a, cap, e⟩ := own_slice hO
  exact ⟨_, _, _, e⟩

end Go.Proofs.YtnhkalnihjkoeaaGreatDoor
end
