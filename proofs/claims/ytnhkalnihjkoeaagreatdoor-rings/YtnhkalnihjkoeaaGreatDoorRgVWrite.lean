/- How bytes are written into a message. -/
import Derived.Deep.RegionHeld3
import Derived.Test.YtnhkalnihjkoeaaGreatDoorRgVText
namespace Go.Proofs.YtnhkalnihjkoeaaGreatDoor
open Go.RowKit

theorem Fr.dr (X : Nat → Prop) (w : World) : Fr X w w.drew := ⟨rfl, rfl, rfl, Nat.le_refl _, fun _ _ _ => rfl⟩

/-- A writer in memory: all that was written; of it the first thousand bytes are kept. -/
structure WB (w : World) (wb : Nat) (l : Bs) : Prop where
  block : ∃ cs : Array Value, cs.size = 1001 ∧ w.heap[wb]? = some (.cells cs 239 (0, 0)) ∧ cs[0]? = some (.int .i64 l.length) ∧ ∀ (j : Nat) (b : UInt8), j < 1000 → l[j]? = some b → cs[j + 1]? = some (.int .u8 b.toNat)

theorem WB.keep {w w' : World} {wb : Nat} {l : Bs} {X : Nat → Prop} (h : WB w wb l) (hf : Fr X w w') (hx : ¬ X wb) : WB w' wb l := by
  obtain ⟨cs, h1, h2, h3⟩ := h.block
  exact ⟨cs, h1, hf.keep h2 hx, h3⟩
theorem WB.at0 {w : World} {wb : Nat} {l : Bs} (h : WB w wb l) : w.cell? ⟨wb, 0, none⟩ = some (.int .i64 l.length) := by
  obtain ⟨cs, h1, h2, h3, _⟩ := h.block
  rw [cell_of_heap h2, h3]
theorem WB.atj {w : World} {wb : Nat} {l : Bs} (h : WB w wb l) {j : Nat} (hj : j < 1001) : ∃ v, w.cell? ⟨wb, j, none⟩ = some v := by
  obtain ⟨cs, h1, h2, h3, _⟩ := h.block
  exact ⟨cs[j]'(by omega), by rw [cell_of_heap h2]; simp [h1, hj]⟩
theorem WB.free {w : World} {wb : Nat} {l : Bs} (h : WB w wb l) (j : Nat) : w.frozen? ⟨wb, j, none⟩ = false := by
  obtain ⟨cs, h1, h2, h3, _⟩ := h.block
  exact free_of_heap h2
theorem WB.lt {w : World} {wb : Nat} {l : Bs} (h : WB w wb l) : wb < w.heap.size := by
  obtain ⟨cs, h1, h2, h3, _⟩ := h.block
  exact lt_of_heap h2
theorem WB.far {w w' : World} {wb : Nat} {l : Bs} {b : UInt8} (h : WB w wb l) (hl : 1000 ≤ l.length) (hw : w'.heap = (w.setCell ⟨wb, 0, none⟩ (.int .i64 ((l.length + 1 : Nat) : Int))).heap) : WB w' wb (l ++ [b]) := by
  obtain ⟨cs, h1, h2, h3, h4⟩ := h.block
  refine ⟨⟨cs.setIfInBounds 0 (.int .i64 ((l.length + 1 : Nat) : Int)), by simp [h1], ?_, ?_, ?_⟩⟩
  · rw [hw, heap_setCell_same h2]
  · rw [Array.getElem?_setIfInBounds_self_of_lt (by omega)]; simp
  · intro j c hj hc
    rw [Array.getElem?_setIfInBounds_ne (by omega)]
    rw [List.getElem?_append_left (by omega)] at hc
    exact h4 j c hj hc
theorem WB.near {w w' : World} {wb : Nat} {l : Bs} {b : UInt8} (h : WB w wb l) (hl : l.length < 1000) (hw : w'.heap = ((w.setCell ⟨wb, l.length + 1, none⟩ (.int .u8 b.toNat)).setCell ⟨wb, 0, none⟩ (.int .i64 ((l.length + 1 : Nat) : Int))).heap) : WB w' wb (l ++ [b]) := by
  obtain ⟨cs, h1, h2, h3, h4⟩ := h.block
  refine ⟨⟨(cs.setIfInBounds (l.length + 1) (.int .u8 b.toNat)).setIfInBounds 0 (.int .i64 ((l.length + 1 : Nat) : Int)), by simp [h1], ?_, ?_, ?_⟩⟩
  · rw [hw, heap_setCell_same (heap_setCell_same h2)]
  · rw [Array.getElem?_setIfInBounds_self_of_lt (by simp; omega)]; simp
  · intro j c hj hc
    rw [Array.getElem?_setIfInBounds_ne (by omega)]
    by_cases e : j = l.length
    · subst e
      rw [Array.getElem?_setIfInBounds_self_of_lt (by omega)]
      rw [List.getElem?_append_right (by omega)] at hc
      simp at hc
      subst hc
      rfl
    · rw [Array.getElem?_setIfInBounds_ne (by omega)]
      by_cases hlt : j < l.length
      · rw [List.getElem?_append_left hlt] at hc
        exact h4 j c hj hc
      · rw [List.getElem?_eq_none (by simp; omega)] at hc
        cases hc

def PutPost (w : World) (wb : Nat) (l : Bs) (e : Ending) (w' : World) : Prop := e = .returned (.tuple #[]) ∧ Fr (One wb) w w' ∧ WB w' wb l

set_option maxHeartbeats 4000000 in
set_option maxRecDepth 100000 in
theorem put_any (w : World) (wb : Nat) (l : Bs) (b : UInt8) (h : WB w wb l) (hl : l.length ≤ 1000000000000000000) :
    Calls Tryz.prog 197 #[.pointer (some ⟨wb, 0, none⟩), .int .u8 b.toNat] w fun e w' => PutPost w wb (l ++ [b]) e w' := by
  have hat := h.at0
  have f0 := h.free 0
  have HW := hide h
  by_cases hlt : l.length < 1000
  · have hI : (l.length : Int) < 1000 := by omega
    have f1 := h.free (l.length + 1)
    obtain ⟨u, hu⟩ := h.atj (j := l.length + 1) (by omega)
    have f1' : w.frozen? ⟨wb, 1 + l.length, none⟩ = false := by rw [Nat.add_comm]; exact f1
    have hu' : w.cell? ⟨wb, 1 + l.length, none⟩ = some u := by rw [Nat.add_comm]; exact hu
    have HL := hide hl
    clear h hl
    go_enter Tryz.func197, Tryz.ntmps197
    go_wp2_with fail
    refine (at_any wb l.length _ hat).mono ?_
    rintro e w1 ⟨rfl, e1⟩
    obtain rfl := e1.symm
    go_wp2_with fail
    go_region_held3 (fun _ => True) (trivial) (first | (go_at_call 111; refine (at_any wb l.length _ (by exact hat)).mono ?_; rintro e w2 ⟨rfl, rfl⟩))
    have k0 : (w.setCell ⟨wb, 1 + l.length, none⟩ (.int .u8 b.toNat)).drew.cell? ⟨wb, 0, none⟩ = some (.int .i64 l.length) := by
      obtain ⟨cs, h1, h2, h3, _⟩ := HW.out.block
      show (w.setCell ⟨wb, 1 + l.length, none⟩ (.int .u8 b.toNat)).cell? ⟨wb, 0, none⟩ = _
      rw [cell_of_heap (heap_setCell_same h2), Array.getElem?_setIfInBounds_ne (by omega)]
      exact h3
    have k1 : (w.setCell ⟨wb, 1 + l.length, none⟩ (.int .u8 b.toNat)).drew.frozen? ⟨wb, 0, none⟩ = false := by
      obtain ⟨cs, h1, h2, h3, _⟩ := HW.out.block
      show (w.setCell ⟨wb, 1 + l.length, none⟩ (.int .u8 b.toNat)).frozen? ⟨wb, 0, none⟩ = _
      exact free_of_heap (heap_setCell_same h2)
    go_wp2_with fail
    refine (step_any wb l.length 1 _ k0 k1 (by omega) (by omega)).mono ?_
    rintro e w2 ⟨rfl, hw2⟩
    have HW2 := hide hw2
    clear hw2
    go_wp2_with fail
    go_end0
    refine ⟨rfl, by rw [HW2.out]; exact (Fr.setCell (One wb) w ⟨wb, 1 + l.length, none⟩ (.int .u8 b.toNat) rfl).trans ((Fr.dr _ _).trans (Fr.setCell (One wb) _ ⟨wb, 0, none⟩ _ rfl)), HW.out.near hlt ?_⟩
    rw [HW2.out, Nat.add_comm l.length 1, show ((1 + l.length : Nat) : Int) = (l.length : Int) + 1 by omega]
    rfl
  · have hI : ¬ (l.length : Int) < 1000 := by omega
    clear h
    go_enter Tryz.func197, Tryz.ntmps197
    go_wp2_with fail
    refine (at_any wb l.length _ hat).mono ?_
    rintro e w1 ⟨rfl, e1⟩
    obtain rfl := e1.symm
    go_wp2_with fail
    refine (step_any wb l.length 1 _ hat f0 (by omega) (by omega)).mono ?_
    rintro e w2 ⟨rfl, hw2⟩
    have HW2 := hide hw2
    clear hw2
    go_wp2_with fail
    go_end0
    exact ⟨rfl, by rw [HW2.out]; exact Fr.setCell _ _ _ _ rfl, HW.out.far (by omega) (by rw [HW2.out]; rfl)⟩

end Go.Proofs.YtnhkalnihjkoeaaGreatDoor

namespace Go.Proofs.YtnhkalnihjkoeaaGreatDoor
open Go.RowKit

end Go.Proofs.YtnhkalnihjkoeaaGreatDoor

namespace Go.Proofs.YtnhkalnihjkoeaaGreatDoor
open Go.RowKit

theorem WB.same {w w' : World} {wb : Nat} {l : Bs} (h : WB w wb l) (e : w'.heap = w.heap) : WB w' wb l := by
  obtain ⟨cs, h1, h2, h3⟩ := h.block
  exact ⟨cs, h1, by rw [e]; exact h2, h3⟩
end Go.Proofs.YtnhkalnihjkoeaaGreatDoor

namespace Go.Proofs.YtnhkalnihjkoeaaGreatDoor
open Go.RowKit

end Go.Proofs.YtnhkalnihjkoeaaGreatDoor

namespace Go.Proofs.YtnhkalnihjkoeaaGreatDoor
open Go.RowKit

end Go.Proofs.YtnhkalnihjkoeaaGreatDoor
