/- How numbers are written as text. -/
import Derived.Test.YtnhkalnihjkoeaaGreatDoorVOut
import Derived.Test.YtnhkalnihjkoeaaGreatDoorVLay
namespace Go.Proofs.YtnhkalnihjkoeaaGreatDoor
open Go.RowKit

/-- The library's table of powers, in memory. -/
def PowT (w : World) : Prop := Lib.TabIs Tryz.prog w "internal/strconv.uint64pow10" .u64 Lib.pow10Tab
theorem gPow : Tryz.prog.globalNamed "internal/strconv.uint64pow10" = some 5 := by kernel_rfl
theorem PowT.heap {w w' : World} (h : PowT w) (e : w'.heap[5]? = w.heap[5]?) : PowT w' := by
  unfold PowT Lib.TabIs World.var? at *
  simp only [gPow, Option.bind_some] at h ⊢
  rw [e]
  exact h
theorem PowT.lt {w : World} (h : PowT w) : 5 < w.heap.size := by
  unfold PowT Lib.TabIs World.var? at h
  simp only [gPow, Option.bind_some] at h
  rcases Nat.lt_or_ge 5 w.heap.size with h' | h'
  · exact h'
  · rw [Array.getElem?_eq_none h'] at h; simp at h
theorem PowT.keep {X : Nat → Prop} {w w' : World} (h : PowT w) (hf : Fr X w w') (hx : ¬ X 5) : PowT w' := h.heap (hf.block _ h.lt hx)
theorem PowT.tab {w : World} (h : PowT w) {B : Nat} (hB : 5 < B) : Lib.TabBelow Tryz.prog B w "internal/strconv.uint64pow10" .u64 Lib.pow10Tab := fun _ hb => h.heap (hb.block _ hB)

theorem decN_digits : ∀ (f n : Nat), n < 10 ^ f → 0 < f → decN f n = Lib.decDigits n := by
  intro f
  induction f with
  | zero => intro n h h0; omega
  | succ f ih =>
    intro n h _
    rw [Lib.decDigits]
    by_cases h10 : n < 10
    · rw [dif_pos h10]
      simp only [decN]
      rw [if_pos h10, Nat.mod_eq_of_lt h10]
      rfl
    · rw [dif_neg h10]
      simp only [decN]
      rw [if_neg h10, ih (n / 10) (by rw [Nat.pow_succ] at h; omega) (by
        rcases f with _ | f
        · simp at h; omega
        · omega)]
theorem decI_itoa (n : Int) (h0 : -9223372036854775808 ≤ n) (h1 : n ≤ 9223372036854775807) : decI n = Lib.itoa n := by
  unfold decI Lib.itoa
  rw [decN_digits 20 n.natAbs (by omega) (by omega)]
  by_cases h : n < 0
  · rw [if_pos h, if_pos h]
  · rw [if_neg h, if_neg h, show n.natAbs = n.toNat by omega]

theorem appendInt_any (w : World) (B : Nat) (sv : Value) (acc : Bs) (n : Int) (h0 : -9223372036854775808 ≤ n) (h1 : n ≤ 9223372036854775807) (h : BO w B sv acc) (hB : B ≤ w.heap.size) (hp : PowT w) (hg : 5 < B) (hl : acc.length + 21 ≤ 140737488355328) :
    Calls Tryz.prog 212 #[sv, .int .i64 n, .int .i64 10] w fun e w' => OutPost w B (acc ++ decI n) e w' := by
  have hown : w.ownsRow B 5 1 sv acc.length (Lib.byteCells acc) := by
    refine ⟨h.own.1, ?_⟩
    rcases h.own.2 with h' | ⟨g, cap, cur, hv, _, r⟩
    · exact .inl h'
    · exact .inr ⟨g, cap, cur, hv, h.from_ g (by rw [hv]; rfl), r⟩
  have hc := Any.strconv_AppendInt_10 laysM176 B acc.length n h0 h1 sv (Lib.byteCells acc) w hown hB hl (hp.tab hg)
  refine Calls.mono (show Calls Tryz.prog 212 #[sv, .int .i64 n, .int .i64 10] w _ from hc) ?_
  rintro e w' ⟨v', rfl, hO, hbl, _⟩
  refine ⟨⟨hbl.os, hbl.tape, hbl.output, hbl.size, fun k _ hk => hbl.block k (by unfold From at hk; omega)⟩, v', rfl, ?_⟩
  rw [decI_itoa n h0 h1]
  have hO' : w'.ownsRow B 5 1 v' (acc.length + (Lib.itoa n).length) (Lib.byteCells acc ++ Lib.byteCells (Lib.itoa n)) := hO
  refine ⟨?_, fun g hg' => ?_⟩
  · rw [List.length_append, show Lib.byteCells (acc ++ Lib.itoa n) = Lib.byteCells acc ++ Lib.byteCells (Lib.itoa n) by simp [Lib.byteCells]]
    refine ⟨hO'.1, ?_⟩
    rcases hO'.2 with h' | ⟨g, cap, cur, hv, _, r⟩
    · exact .inl h'
    · exact .inr ⟨g, cap, cur, hv, Nat.zero_le _, r⟩
  · rcases hO'.2 with ⟨h', _⟩ | ⟨g2, cap, cur, hv, hb, r⟩
    · rw [h'] at hg'; simp [Value.ownBlock] at hg'
    · rw [hv] at hg'; simp [Value.ownBlock] at hg'; omega

end Go.Proofs.YtnhkalnihjkoeaaGreatDoor
