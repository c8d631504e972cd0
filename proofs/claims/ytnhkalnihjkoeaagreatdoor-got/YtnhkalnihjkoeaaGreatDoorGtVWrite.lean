/- How bytes are written into a message. -/
import Derived.Lib.UnsafeStr
import Derived.Laws.IdiomStrings
import Derived.Laws.BytesArg
import Derived.Deep.RegionHeld3
import Derived.Test.YtnhkalnihjkoeaaGreatDoorGtVMem
section
namespace Go.Proofs.YtnhkalnihjkoeaaGreatDoor
open Go.RowKit

theorem width_k (k : Nat) (hk : k ≤ 2) (w : World) :
    Calls Tryz.prog 195 #[.int .i64 k] w fun e w' => e = .returned (.int .i64 (widthOf k)) ∧ w' = w := by
  match k, hk with
  | 0, _ => go_enter Tryz.func195, Tryz.ntmps195; go_wp2; go_ret; exact ⟨rfl, rfl⟩
  | 1, _ => go_enter Tryz.func195, Tryz.ntmps195; go_wp2; go_ret; exact ⟨rfl, rfl⟩
  | 2, _ => go_enter Tryz.func195, Tryz.ntmps195; go_wp2; go_ret; exact ⟨rfl, rfl⟩

/-- What digits leaves. -/
def DigPost (ty : TypeId) (w : World) (rb : Nat) (s : ByteArray) (l : Bs) (most : Nat) (e : Ending) (w' : World) : Prop :=
  Fr (One rb) w w' ∧ RB ty w' rb s (rUns most l).2 ∧ ∃ n : Nat, n ≤ most ∧ e = .returned (.tuple #[.int .u64 n, .bool (rUns most l).1.isSome]) ∧ ((rUns most l).1.isSome = true → (rUns most l).1 = some n)

theorem DigPost.of {ty : TypeId} {w w' : World} {rb : Nat} {s : ByteArray} {l r : Bs} {most acc : Nat} (hc : rAcc 48 l = none) (hD : rDigits most 0 l = (acc, r)) (hF : Fr (One rb) w w') (hR : RB ty w' rb s r) (ha : acc ≤ most) (hl : l.length ≤ s.size) (hr : r.length ≤ l.length) :
    DigPost ty w rb s l most (.returned (.tuple #[.int .u64 acc, .bool (decide (pos s l < pos s r))])) w' := by
  have hU : rUns most l = (if r.length < l.length then some acc else none, r) := by
    unfold rUns
    rw [hc]
    simp only [hD]
  unfold DigPost
  rw [hU]
  refine ⟨hF, hR, acc, ha, ?_, ?_⟩
  · have : decide (pos s l < pos s r) = (if r.length < l.length then some acc else none).isSome := by
      unfold pos
      by_cases h : r.length < l.length
      · rw [if_pos h]; simp; omega
      · rw [if_neg h]; simp; omega
    rw [this]
  · intro h
    by_cases h' : r.length < l.length
    · simp [h']
    · simp [h'] at h

/-- What a reader of a number leaves. -/
def NumPost (ty : TypeId) (w : World) (rb : Nat) (s : ByteArray) (res : Option Int × Bs) (e : Ending) (w' : World) : Prop :=
  Fr (One rb) w w' ∧ RB ty w' rb s res.2 ∧ ∃ m : Int, e = .returned (.tuple #[.int .i64 m, .bool res.1.isSome]) ∧ (∀ x, res.1 = some x → m = x)

theorem NumPost.after {ty : TypeId} {w w1 w' : World} {rb : Nat} {s : ByteArray} {res : Option Int × Bs} {e : Ending} (h : NumPost ty w1 rb s res e w') (hf : Fr (One rb) w w1) : NumPost ty w rb s res e w' :=
  ⟨hf.trans h.1, h.2⟩

end Go.Proofs.YtnhkalnihjkoeaaGreatDoor
end
section
namespace Go.Proofs.YtnhkalnihjkoeaaGreatDoor
open Go.RowKit

theorem Tryz.info5 : (Tryz.prog.info? 5).map (fun i => (i.zero, i.size, i.bytes)) = some (some (.int .u8 0), 1, 1) := by kernel_rfl

/-- A row of bytes that a call has made: its blocks are from B on. -/
structure BO (w : World) (B : Nat) (sv : Value) (acc : Bs) : Prop where
  own : w.ownsRow 0 5 1 sv acc.length (Lib.byteCells acc)
  from_ : ∀ g, sv.ownBlock = some g → B ≤ g

theorem BO.nil (w : World) (B : Nat) : BO w B (.slice none 0 0) [] := ⟨World.ownsRow_nil _ _ _ _, fun g hg => by simp [Value.ownBlock] at hg⟩
theorem BO.keep {w w' : World} {B : Nat} {sv : Value} {acc : Bs} {X : Nat → Prop} (h : BO w B sv acc) (hf : Fr X w w') (hx : ∀ k, B ≤ k → ¬ X k) : BO w' B sv acc := ⟨ownsRow_keep h.own hf (fun g hg => hx g (h.from_ g hg)), h.from_⟩
theorem BO.alloc {w : World} {B : Nat} {sv : Value} {acc : Bs} (h : BO w B sv acc) (o : Obj) : BO (w.alloc o) B sv acc := ⟨h.own.alloc o, h.from_⟩
theorem BO.len {w : World} {B : Nat} {sv : Value} {acc : Bs} (h : BO w B sv acc) : ∃ a cap, sv = .slice a acc.length cap := by
  rcases h.own.2 with ⟨rfl, e⟩ | ⟨g, cap, cur, rfl, _⟩
  · exact ⟨none, 0, by rw [e]⟩
  · exact ⟨_, cap, rfl⟩
theorem BO.conv {w : World} {B : Nat} {sv : Value} {acc : Bs} (h : BO w B sv acc) : (convert 32 9 sv).run Tryz.prog w = .ok (.string (ba acc)) w := by
  rcases h.own.2 with ⟨rfl, e⟩ | ⟨g, cap, cur, rfl, _⟩
  · have : acc = [] := List.eq_nil_of_length_eq_zero e
    subst this
    exact run_convert_bytes_nil w 32 5 Tryz.underlying32 Tryz.underlying5 0 0 9 Tryz.underlying9
  · exact run_convert_bytes_back (P := Tryz.prog) w 32 9 5 ⟨g, 0, none⟩ cap acc Tryz.underlying32 Tryz.underlying5 Tryz.underlying9 (fun j hj => h.own.cells (g := g) rfl j _ (by simp [Lib.byteCells, hj]))
theorem BO.grow {w1 w2 : World} {B : Nat} {pv v' : Value} {acc more : Bs} (h : BO w1 B pv acc) (hB : B ≤ w1.heap.size) (hO2 : w2.ownsRow 0 5 1 v' (acc.length + more.length) (Lib.byteCells acc ++ Lib.byteCells more)) (hg : w1.grownBy w2 pv.ownBlock)
    (hv : ∃ g cap, v' = .slice (some ⟨g, 0, none⟩) (acc.length + more.length) cap ∧ (pv.ownBlock = some g ∨ w1.heap.size ≤ g)) : BO w2 B v' (acc ++ more) ∧ Fr (fun k => B ≤ k) w1 w2 := by
  obtain ⟨g, cap, rfl, hgg⟩ := hv
  refine ⟨⟨?_, ?_⟩, Fr.grown hg (fun k e _ => h.from_ k e)⟩
  · rw [List.length_append, show Lib.byteCells (acc ++ more) = Lib.byteCells acc ++ Lib.byteCells more by simp [Lib.byteCells]]
    exact hO2
  · intro g' hg'
    simp [Value.ownBlock] at hg'
    subst hg'
    rcases hgg with h' | h'
    · exact h.from_ _ h'
    · omega

/-- What a reader of bytes leaves. -/
def StrPost (ty : TypeId) (w : World) (rb : Nat) (s : ByteArray) (res : Option Bs × Bs) (e : Ending) (w' : World) : Prop :=
  Fr (One rb) w w' ∧ RB ty w' rb s res.2 ∧ ∃ v : ByteArray, e = .returned (.tuple #[.string v, .bool res.1.isSome]) ∧ (∀ x, res.1 = some x → v = ba x)

end Go.Proofs.YtnhkalnihjkoeaaGreatDoor
end
section
namespace Go.Proofs.YtnhkalnihjkoeaaGreatDoor
open Go.RowKit

theorem Fr.dr (X : Nat → Prop) (w : World) : Fr X w w.drew := ⟨rfl, rfl, rfl, Nat.le_refl _, fun _ _ _ => rfl⟩

/-- A writer in memory: all that was written; of it the first thousand bytes are kept. -/
structure WB (w : World) (wb : Nat) (l : Bs) : Prop where
  block : ∃ cs : Array Value, cs.size = 1001 ∧ w.heap[wb]? = some (.cells cs 239 (0, 0)) ∧ cs[0]? = some (.int .i64 l.length) ∧ ∀ (j : Nat) (b : UInt8), j < 1000 → l[j]? = some b → cs[j + 1]? = some (.int .u8 b.toNat)

theorem WB.keep {w w' : World} {wb : Nat} {l : Bs} {X : Nat → Prop} (h : WB w wb l) (hf : Fr X w w') (hx : ¬ X wb) : WB w' wb l := by
  obtain ⟨cs, h1, h2, h3⟩ := h.block
  exact ⟨cs, h1, hf.keep h2 hx, h3⟩
theorem WB.at0 {w : World} {wb : Nat} {l : Bs} (h : WB w wb l) : w.cell? ⟨wb, 0, none⟩ = some (.int .i64 l.length) := by
  obtain ⟨cs, h1, h2, h3, _⟩ := h.block
  rw [cell_of_heap h2, h3]
theorem WB.free {w : World} {wb : Nat} {l : Bs} (h : WB w wb l) (j : Nat) : w.frozen? ⟨wb, j, none⟩ = false := by
  obtain ⟨cs, h1, h2, h3, _⟩ := h.block
  exact free_of_heap h2
theorem WB.lt {w : World} {wb : Nat} {l : Bs} (h : WB w wb l) : wb < w.heap.size := by
  obtain ⟨cs, h1, h2, h3, _⟩ := h.block
  exact lt_of_heap h2
end Go.Proofs.YtnhkalnihjkoeaaGreatDoor

namespace Go.Proofs.YtnhkalnihjkoeaaGreatDoor
open Go.RowKit

theorem ba_get {l : Bs} {j : Nat} {b : UInt8} (h : l[j]? = some b) : ∃ hj : j < (ba l).size, (ba l)[j] = b := by
  obtain ⟨hj, he⟩ := List.getElem?_eq_some_iff.1 h
  refine ⟨by rw [ba_size]; exact hj, ?_⟩
  exact he

end Go.Proofs.YtnhkalnihjkoeaaGreatDoor

namespace Go.Proofs.YtnhkalnihjkoeaaGreatDoor
open Go.RowKit

theorem WB.same {w w' : World} {wb : Nat} {l : Bs} (h : WB w wb l) (e : w'.heap = w.heap) : WB w' wb l := by
  obtain ⟨cs, h1, h2, h3⟩ := h.block
  exact ⟨cs, h1, by rw [e]; exact h2, h3⟩
end Go.Proofs.YtnhkalnihjkoeaaGreatDoor

namespace Go.Proofs.YtnhkalnihjkoeaaGreatDoor
open Go.RowKit

end Go.Proofs.YtnhkalnihjkoeaaGreatDoor

namespace Go.Proofs.YtnhkalnihjkoeaaGreatDoor
open Go.RowKit

end Go.Proofs.YtnhkalnihjkoeaaGreatDoor
end
