/- How numbers are read of a text. -/
import Derived.Test.YtnhkalnihjkoeaaGreatDoorGtVMem
namespace Go.Proofs.YtnhkalnihjkoeaaGreatDoor
open Go.RowKit

theorem width_k (k : Nat) (hk : k ≤ 2) (w : World) :
    Calls Tryz.prog 195 #[.int .i64 k] w fun e w' => e = .returned (.int .i64 (widthOf k)) ∧ w' = w := by
  match k, hk with
  | 0, _ => go_enter Tryz.func195, Tryz.ntmps195; go_wp2; go_ret; exact ⟨rfl, rfl⟩
  | 1, _ => go_enter Tryz.func195, Tryz.ntmps195; go_wp2; go_ret; exact ⟨rfl, rfl⟩
  | 2, _ => go_enter Tryz.func195, Tryz.ntmps195; go_wp2; go_ret; exact ⟨rfl, rfl⟩

/-- What digits leaves. -/
def DigPost (ty : TypeId) (w : World) (rb : Nat) (s : ByteArray) (l : Bs) (most : Nat) (e : Ending) (w' : World) : Prop :=
  Fr (One rb) w w' ∧ RB ty w' rb s (rUns most l).2 ∧ ∃ n : Nat, n ≤ most ∧ e = .returned (.tuple #[.int .u64 n, .bool (rUns most l).1.isSome]) ∧ ((rUns most l).1.isSome = true → (rUns most l).1 = some n)

theorem DigPost.of {ty : TypeId} {w w' : World} {rb : Nat} {s : ByteArray} {l r : Bs} {most acc : Nat} (hc : rAcc 48 l = none) (hD : rDigits most 0 l = (acc, r)) (hF : Fr (One rb) w w') (hR : RB ty w' rb s r) (ha : acc ≤ most) (hl : l.length ≤ s.size) (hr : r.length ≤ l.length) :
    DigPost ty w rb s l most (.returned (.tuple #[.int .u64 acc, .bool (decide (pos s l < pos s r))])) w' := by
  have hU : rUns most l = (if r.length < l.length then some acc else none, r) := by
    unfold rUns
    rw [hc]
    simp only [hD]
  unfold DigPost
  rw [hU]
  refine ⟨hF, hR, acc, ha, ?_, ?_⟩
  · have : decide (pos s l < pos s r) = (if r.length < l.length then some acc else none).isSome := by
      unfold pos
      by_cases h : r.length < l.length
      · rw [if_pos h]; simp; omega
      · rw [if_neg h]; simp; omega
    rw [this]
  · intro h
    by_cases h' : r.length < l.length
    · simp [h']
    · simp [h'] at h

/-- What a reader of a number leaves. -/
def NumPost (ty : TypeId) (w : World) (rb : Nat) (s : ByteArray) (res : Option Int × Bs) (e : Ending) (w' : World) : Prop :=
  Fr (One rb) w w' ∧ RB ty w' rb s res.2 ∧ ∃ m : Int, e = .returned (.tuple #[.int .i64 m, .bool res.1.isSome]) ∧ (∀ x, res.1 = some x → m = x)

theorem NumPost.after {ty : TypeId} {w w1 w' : World} {rb : Nat} {s : ByteArray} {res : Option Int × Bs} {e : Ending} (h : NumPost ty w1 rb s res e w') (hf : Fr (One rb) w w1) : NumPost ty w rb s res e w' :=
  ⟨hf.trans h.1, h.2⟩

end Go.Proofs.YtnhkalnihjkoeaaGreatDoor
