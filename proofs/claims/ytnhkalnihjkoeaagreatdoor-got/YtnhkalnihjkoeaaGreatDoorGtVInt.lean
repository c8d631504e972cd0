/- How numbers are written as text. -/
import Derived.Shelf.LaysM
import Derived.Shelf.Strconv.AppendIntPublic10
import Derived.Test.YtnhkalnihjkoeaaGreatDoorProg
import Derived.Test.YtnhkalnihjkoeaaGreatDoorGtVOut
section
namespace Go.Proofs.YtnhkalnihjkoeaaGreatDoor
open Go.Shelf
def laysM176_ren : Go.Shelf.Ren := ⟨fun | 176 => 212 | 249 => 273 | 288 => 288 | 283 => 313 | 284 => 314 | 285 => 315 | 286 => 316 | 129 => 298 | 317 => 325 | 318 => 326 | 319 => 327 | 320 => 328 | 337 => 330 | 338 => 331 | n => n, fun | 37 => 32 | 2 => 2 | 3 => 3 | 53 => 157 | 4 => 4 | 9 => 9 | 171 => 415 | 0 => 0 | 173 => 417 | 212 => 429 | 51 => 160 | 5 => 5 | 20 => 20 | 213 => 430 | 46 => 255 | 232 => 433 | 233 => 434 | n => n, fun | 17 => 5 | 18 => 6 | 19 => 7 | n => n⟩
theorem laysM176 : Go.Proofs.LaysM.n176 Tryz.prog laysM176_ren := {
  mixed := by kernel_rfl
  f129 := Tryz.func298.trans (congrArg some (by kernel_rfl))
  f176 := Tryz.func212.trans (congrArg some (by kernel_rfl))
  f249 := Tryz.func273.trans (congrArg some (by kernel_rfl))
  f283 := Tryz.func313.trans (congrArg some (by kernel_rfl))
  f284 := Tryz.func314.trans (congrArg some (by kernel_rfl))
  f285 := Tryz.func315.trans (congrArg some (by kernel_rfl))
  f286 := Tryz.func316.trans (congrArg some (by kernel_rfl))
  f288 := Tryz.func288.trans (congrArg some (by kernel_rfl))
  f317 := Tryz.func325.trans (congrArg some (by kernel_rfl))
  f318 := Tryz.func326.trans (congrArg some (by kernel_rfl))
  f319 := Tryz.func327.trans (congrArg some (by kernel_rfl))
  f320 := Tryz.func328.trans (congrArg some (by kernel_rfl))
  f337 := Tryz.func330.trans (congrArg some (by kernel_rfl))
  f338 := Tryz.func331.trans (congrArg some (by kernel_rfl))
  t0 := Tryz.underlying0
  a0 := Tryz.isAgg0
  z0 := Tryz.sizeOf0
  v0 := Tryz.zeroValue0
  t2 := Tryz.underlying2
  a2 := Tryz.isAgg2
  z2 := Tryz.sizeOf2
  v2 := Tryz.zeroValue2
  t3 := Tryz.underlying3
  a3 := Tryz.isAgg3
  z3 := Tryz.sizeOf3
  v3 := Tryz.zeroValue3
  t4 := Tryz.underlying4
  a4 := Tryz.isAgg4
  z4 := Tryz.sizeOf4
  v4 := Tryz.zeroValue4
  t5 := Tryz.underlying5
  a5 := Tryz.isAgg5
  z5 := Tryz.sizeOf5
  v5 := Tryz.zeroValue5
  t9 := Tryz.underlying9
  a9 := Tryz.isAgg9
  z9 := Tryz.sizeOf9
  v9 := Tryz.zeroValue9
  t20 := Tryz.underlying20
  a20 := Tryz.isAgg20
  z20 := Tryz.sizeOf20
  v20 := Tryz.zeroValue20
  t37 := Tryz.underlying32
  a37 := Tryz.isAgg32
  z37 := Tryz.sizeOf32
  v37 := Tryz.zeroValue32
  t46 := Tryz.underlying255
  a46 := Tryz.isAgg255
  z46 := Tryz.sizeOf255
  v46 := Tryz.zeroValue255
  t51 := Tryz.underlying160
  a51 := Tryz.isAgg160
  z51 := Tryz.sizeOf160
  v51 := Tryz.zeroValue160
  t53 := Tryz.underlying157
  a53 := Tryz.isAgg157
  z53 := Tryz.sizeOf157
  v53 := Tryz.zeroValue157
  t171 := Tryz.underlying415
  a171 := Tryz.isAgg415
  z171 := Tryz.sizeOf415
  v171 := Tryz.zeroValue415
  t173 := Tryz.underlying417
  a173 := Tryz.isAgg417
  z173 := Tryz.sizeOf417
  v173 := Tryz.zeroValue417
  t212 := Tryz.underlying429
  a212 := Tryz.isAgg429
  z212 := Tryz.sizeOf429
  v212 := Tryz.zeroValue429
  t213 := Tryz.underlying430
  a213 := Tryz.isAgg430
  z213 := Tryz.sizeOf430
  t232 := Tryz.underlying433
  a232 := Tryz.isAgg433
  z232 := Tryz.sizeOf433
  v232 := Tryz.zeroValue433
  t233 := Tryz.underlying434
  a233 := Tryz.isAgg434
  z233 := Tryz.sizeOf434
  v233 := Tryz.zeroValue434
  g17 := by kernel_rfl
  g18 := by kernel_rfl
  g19 := by kernel_rfl
  i0 := by kernel_rfl
  i2 := by kernel_rfl
  i3 := by kernel_rfl
  i4 := by kernel_rfl
  i5 := by kernel_rfl
  i9 := by kernel_rfl
  i20 := by kernel_rfl
  i37 := by kernel_rfl
  i46 := by kernel_rfl
  i51 := by kernel_rfl
  i53 := by kernel_rfl
  i171 := by kernel_rfl
  i173 := by kernel_rfl
  i212 := by kernel_rfl
  i232 := by kernel_rfl
  i233 := by kernel_rfl
  m17 := by kernel_rfl
  m18 := by kernel_rfl
  m19 := by kernel_rfl }
end Go.Proofs.YtnhkalnihjkoeaaGreatDoor
end
section
namespace Go.Proofs.YtnhkalnihjkoeaaGreatDoor
open Go.RowKit

/-- The library's table of powers, in memory. -/
def PowT (w : World) : Prop := Lib.TabIs Tryz.prog w "internal/strconv.uint64pow10" .u64 Lib.pow10Tab
theorem gPow : Tryz.prog.globalNamed "internal/strconv.uint64pow10" = some 5 := by kernel_rfl
theorem PowT.heap {w w' : World} (h : PowT w) (e : w'.heap[5]? = w.heap[5]?) : PowT w' := by
  unfold PowT Lib.TabIs World.var? at *
  simp only [gPow, Option.bind_some] at h ⊢
  rw [e]
  exact h
theorem PowT.lt {w : World} (h : PowT w) : 5 < w.heap.size := by
  unfold PowT Lib.TabIs World.var? at h
  simp only [gPow, Option.bind_some] at h
  rcases Nat.lt_or_ge 5 w.heap.size with h' | h'
  · exact h'
  · rw [Array.getElem?_eq_none h'] at h; simp at h
theorem PowT.keep {X : Nat → Prop} {w w' : World} (h : PowT w) (hf : Fr X w w') (hx : ¬ X 5) : PowT w' := h.heap (hf.block _ h.lt hx)
theorem PowT.tab {w : World} (h : PowT w) {B : Nat} (hB : 5 < B) : Lib.TabBelow Tryz.prog B w "internal/strconv.uint64pow10" .u64 Lib.pow10Tab := fun _ hb => h.heap (hb.block _ hB)

theorem decN_digits : ∀ (f n : Nat), n < 10 ^ f → 0 < f → decN f n = Lib.decDigits n := by
  intro f
  induction f with
  | zero => intro n h h0; omega
  | succ f ih =>
    intro n h _
    rw [Lib.decDigits]
    by_cases h10 : n < 10
    · rw [dif_pos h10]
      simp only [decN]
      rw [if_pos h10, Nat.mod_eq_of_lt h10]
      rfl
    · rw [dif_neg h10]
      simp only [decN]
      rw [if_neg h10, ih (n / 10) (by rw [Nat.pow_succ] at h; omega) (by
        rcases f with _ | f
        · simp at h; omega
        · omega)]
theorem decI_itoa (n : Int) (h0 : -9223372036854775808 ≤ n) (h1 : n ≤ 9223372036854775807) : decI n = Lib.itoa n := by
  unfold decI Lib.itoa
  rw [decN_digits 20 n.natAbs (by omega) (by omega)]
  by_cases h : n < 0
  · rw [if_pos h, if_pos h]
  · rw [if_neg h, if_neg h, show n.natAbs = n.toNat by omega]

theorem appendInt_any (w : World) (B : Nat) (sv : Value) (acc : Bs) (n : Int) (h0 : -9223372036854775808 ≤ n) (h1 : n ≤ 9223372036854775807) (h : BO w B sv acc) (hB : B ≤ w.heap.size) (hp : PowT w) (hg : 5 < B) (hl : acc.length + 21 ≤ 140737488355328) :
    Calls Tryz.prog 212 #[sv, .int .i64 n, .int .i64 10] w fun e w' => OutPost w B (acc ++ decI n) e w' := by
  have hown : w.ownsRow B 5 1 sv acc.length (Lib.byteCells acc) := by
    refine ⟨h.own.1, ?_⟩
    rcases h.own.2 with h' | ⟨g, cap, cur, hv, _, r⟩
    · exact .inl h'
    · exact .inr ⟨g, cap, cur, hv, h.from_ g (by rw [hv]; rfl), r⟩
  have hc := Any.strconv_AppendInt_10 laysM176 B acc.length n h0 h1 sv (Lib.byteCells acc) w hown hB hl (hp.tab hg)
  refine Calls.mono (show Calls Tryz.prog 212 #[sv, .int .i64 n, .int .i64 10] w _ from hc) ?_
  rintro e w' ⟨v', rfl, hO, hbl, _⟩
  refine ⟨⟨hbl.os, hbl.tape, hbl.output, hbl.size, fun k _ hk => hbl.block k (by unfold From at hk; omega)⟩, v', rfl, ?_⟩
  rw [decI_itoa n h0 h1]
  have hO' : w'.ownsRow B 5 1 v' (acc.length + (Lib.itoa n).length) (Lib.byteCells acc ++ Lib.byteCells (Lib.itoa n)) := hO
  refine ⟨?_, fun g hg' => ?_⟩
  · rw [List.length_append, show Lib.byteCells (acc ++ Lib.itoa n) = Lib.byteCells acc ++ Lib.byteCells (Lib.itoa n) by simp [Lib.byteCells]]
    refine ⟨hO'.1, ?_⟩
    rcases hO'.2 with h' | ⟨g, cap, cur, hv, _, r⟩
    · exact .inl h'
    · exact .inr ⟨g, cap, cur, hv, Nat.zero_le _, r⟩
  · rcases hO'.2 with ⟨h', _⟩ | ⟨g2, cap, cur, hv, hb, r⟩
    · rw [h'] at hg'; simp [Value.ownBlock] at hg'
    · rw [hv] at hg'; simp [Value.ownBlock] at hg'; omega

end Go.Proofs.YtnhkalnihjkoeaaGreatDoor
end
