/- How numbers are read of a text. -/
import Derived.Test.YtnhkalnihjkoeaaGreatDoorRgVMem
namespace Go.Proofs.YtnhkalnihjkoeaaGreatDoor
open Go.RowKit

/-- What digits leaves. -/
def DigPost (ty : TypeId) (w : World) (rb : Nat) (s : ByteArray) (l : Bs) (most : Nat) (e : Ending) (w' : World) : Prop :=
  Fr (One rb) w w' ∧ RB ty w' rb s (rUns most l).2 ∧ ∃ n : Nat, n ≤ most ∧ e = .returned (.tuple #[.int .u64 n, .bool (rUns most l).1.isSome]) ∧ ((rUns most l).1.isSome = true → (rUns most l).1 = some n)

theorem DigPost.of {ty : TypeId} {w w' : World} {rb : Nat} {s : ByteArray} {l r : Bs} {most acc : Nat} (hc : rAcc 48 l = none) (hD : rDigits most 0 l = (acc, r)) (hF : Fr (One rb) w w') (hR : RB ty w' rb s r) (ha : acc ≤ most) (hl : l.length ≤ s.size) (hr : r.length ≤ l.length) :
    DigPost ty w rb s l most (.returned (.tuple #[.int .u64 acc, .bool (decide (pos s l < pos s r))])) w' := by
  have hU : rUns most l = (if r.length < l.length then some acc else none, r) := by
    unfold rUns
    rw [hc]
    simp only [hD]
  unfold DigPost
  rw [hU]
  refine ⟨hF, hR, acc, ha, ?_, ?_⟩
  · have : decide (pos s l < pos s r) = (if r.length < l.length then some acc else none).isSome := by
      unfold pos
      by_cases h : r.length < l.length
      · rw [if_pos h]; simp; omega
      · rw [if_neg h]; simp; omega
    rw [this]
  · intro h
    by_cases h' : r.length < l.length
    · simp [h']
    · simp [h'] at h

end Go.Proofs.YtnhkalnihjkoeaaGreatDoor
