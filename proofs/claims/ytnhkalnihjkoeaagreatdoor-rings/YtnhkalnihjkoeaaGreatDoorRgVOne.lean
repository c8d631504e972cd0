/- How one of some words is read of a text. -/
import Derived.Deep.Cut
import Derived.Deep.CutRange
import Derived.Deep.RegionHeld3
import Derived.Test.YtnhkalnihjkoeaaGreatDoorRgVReg
namespace Go.Proofs.YtnhkalnihjkoeaaGreatDoor
open Go.RowKit

theorem findIdx_at {q : Bs → Bool} {ws : List Bs} {k : Nat} {p : Bs} (hp : ws[k]? = some p) (hq : q p = true) (hn : ∀ j y, j < k → ws[j]? = some y → q y = false) : ws.findIdx? q = some k := by
  obtain ⟨hk, he⟩ := List.getElem?_eq_some_iff.1 hp
  refine List.findIdx?_eq_some_iff_getElem.2 ⟨hk, by rw [he]; exact hq, fun j hj => ?_⟩
  rw [hn j ws[j] hj (by rw [List.getElem?_eq_getElem])]
  simp
theorem findIdx_no {q : Bs → Bool} {ws : List Bs} (hn : ∀ j y, j < ws.length → ws[j]? = some y → q y = false) : ws.findIdx? q = none := by
  rw [List.findIdx?_eq_none_iff]
  intro x hx
  obtain ⟨j, hj, he⟩ := List.getElem_of_mem hx
  exact hn j x hj (by rw [List.getElem?_eq_getElem hj, he])

theorem RB.same {ty : TypeId} {w w' : World} {rb : Nat} {s : ByteArray} {l : Bs} (h : RB ty w rb s l) (e : w'.heap = w.heap) : RB ty w' rb s l := ⟨h.len, h.tail, by rw [e]; exact h.block⟩
theorem Fr.drew (X : Nat → Prop) (w : World) : Fr X w w.drew := ⟨rfl, rfl, rfl, Nat.le_refl _, fun _ _ _ => rfl⟩
end Go.Proofs.YtnhkalnihjkoeaaGreatDoor
