/- How texts and bytes are read of a text. -/
import Derived.Lib.UnsafeStr
import Derived.Laws.IdiomStrings
import Derived.Laws.BytesArg
import Derived.Test.YtnhkalnihjkoeaaGreatDoorRgVNum
namespace Go.Proofs.YtnhkalnihjkoeaaGreatDoor
open Go.RowKit

/-- A row of bytes that a call has made: its blocks are from B on. -/
structure BO (w : World) (B : Nat) (sv : Value) (acc : Bs) : Prop where
  own : w.ownsRow 0 5 1 sv acc.length (Lib.byteCells acc)
  from_ : ∀ g, sv.ownBlock = some g → B ≤ g

theorem BO.nil (w : World) (B : Nat) : BO w B (.slice none 0 0) [] := ⟨World.ownsRow_nil _ _ _ _, fun g hg => by simp [Value.ownBlock] at hg⟩
theorem BO.keep {w w' : World} {B : Nat} {sv : Value} {acc : Bs} {X : Nat → Prop} (h : BO w B sv acc) (hf : Fr X w w') (hx : ∀ k, B ≤ k → ¬ X k) : BO w' B sv acc := ⟨ownsRow_keep h.own hf (fun g hg => hx g (h.from_ g hg)), h.from_⟩
theorem BO.alloc {w : World} {B : Nat} {sv : Value} {acc : Bs} (h : BO w B sv acc) (o : Obj) : BO (w.alloc o) B sv acc := ⟨h.own.alloc o, h.from_⟩
theorem BO.len {w : World} {B : Nat} {sv : Value} {acc : Bs} (h : BO w B sv acc) : ∃ a cap, sv = .slice a acc.length cap := by
  rcases h.own.2 with ⟨rfl, e⟩ | ⟨g, cap, cur, rfl, _⟩
  · exact ⟨none, 0, by rw [e]⟩
  · exact ⟨_, cap, rfl⟩
end Go.Proofs.YtnhkalnihjkoeaaGreatDoor
