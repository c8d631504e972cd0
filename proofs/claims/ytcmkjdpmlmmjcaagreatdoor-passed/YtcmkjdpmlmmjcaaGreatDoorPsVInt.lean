/- How numbers are written as text. -/
import Derived.Shelf.LaysM
import Derived.Shelf.Strconv.AppendIntPublic10
import Derived.Test.YtcmkjdpmlmmjcaaGreatDoorProg
import Derived.Test.YtcmkjdpmlmmjcaaGreatDoorPsVOut
section
namespace Go.Proofs.YtcmkjdpmlmmjcaaGreatDoor
open Go.Shelf
def laysM176_ren : Go.Shelf.Ren := ⟨fun | 176 => 94 | 249 => 116 | 288 => 130 | 283 => 139 | 284 => 140 | 285 => 141 | 286 => 142 | 129 => 146 | 317 => 145 | 318 => 147 | 319 => 148 | 320 => 149 | 337 => 150 | 338 => 151 | n => n, fun | 37 => 61 | 2 => 2 | 3 => 3 | 53 => 181 | 4 => 4 | 9 => 9 | 171 => 214 | 0 => 0 | 173 => 217 | 212 => 223 | 51 => 219 | 5 => 5 | 20 => 20 | 213 => 224 | 46 => 141 | 232 => 228 | 233 => 229 | n => n, fun | 17 => 5 | 18 => 6 | 19 => 7 | n => n⟩
theorem laysM176 : Go.Proofs.LaysM.n176 Tryz.prog laysM176_ren := {
  mixed := by kernel_rfl
  f129 := Tryz.func146.trans (congrArg some (by kernel_rfl))
  f176 := Tryz.func94.trans (congrArg some (by kernel_rfl))
  f249 := Tryz.func116.trans (congrArg some (by kernel_rfl))
  f283 := Tryz.func139.trans (congrArg some (by kernel_rfl))
  f284 := Tryz.func140.trans (congrArg some (by kernel_rfl))
  f285 := Tryz.func141.trans (congrArg some (by kernel_rfl))
  f286 := Tryz.func142.trans (congrArg some (by kernel_rfl))
  f288 := Tryz.func130.trans (congrArg some (by kernel_rfl))
  f317 := Tryz.func145.trans (congrArg some (by kernel_rfl))
  f318 := Tryz.func147.trans (congrArg some (by kernel_rfl))
  f319 := Tryz.func148.trans (congrArg some (by kernel_rfl))
  f320 := Tryz.func149.trans (congrArg some (by kernel_rfl))
  f337 := Tryz.func150.trans (congrArg some (by kernel_rfl))
  f338 := Tryz.func151.trans (congrArg some (by kernel_rfl))
  t0 := Tryz.underlying0
  a0 := Tryz.isAgg0
  z0 := Tryz.sizeOf0
  v0 := Tryz.zeroValue0
  t2 := Tryz.underlying2
  a2 := Tryz.isAgg2
  z2 := Tryz.sizeOf2
  v2 := Tryz.zeroValue2
  t3 := Tryz.underlying3
  a3 := Tryz.isAgg3
  z3 := Tryz.sizeOf3
  v3 := Tryz.zeroValue3
  t4 := Tryz.underlying4
  a4 := Tryz.isAgg4
  z4 := Tryz.sizeOf4
  v4 := Tryz.zeroValue4
  t5 := Tryz.underlying5
  a5 := Tryz.isAgg5
  z5 := Tryz.sizeOf5
  v5 := Tryz.zeroValue5
  t9 := Tryz.underlying9
  a9 := Tryz.isAgg9
  z9 := Tryz.sizeOf9
  v9 := Tryz.zeroValue9
  t20 := Tryz.underlying20
  a20 := Tryz.isAgg20
  z20 := Tryz.sizeOf20
  v20 := Tryz.zeroValue20
  t37 := Tryz.underlying61
  a37 := Tryz.isAgg61
  z37 := Tryz.sizeOf61
  v37 := Tryz.zeroValue61
  t46 := Tryz.underlying141
  a46 := Tryz.isAgg141
  z46 := Tryz.sizeOf141
  v46 := Tryz.zeroValue141
  t51 := Tryz.underlying219
  a51 := Tryz.isAgg219
  z51 := Tryz.sizeOf219
  v51 := Tryz.zeroValue219
  t53 := Tryz.underlying181
  a53 := Tryz.isAgg181
  z53 := Tryz.sizeOf181
  v53 := Tryz.zeroValue181
  t171 := Tryz.underlying214
  a171 := Tryz.isAgg214
  z171 := Tryz.sizeOf214
  v171 := Tryz.zeroValue214
  t173 := Tryz.underlying217
  a173 := Tryz.isAgg217
  z173 := Tryz.sizeOf217
  v173 := Tryz.zeroValue217
  t212 := Tryz.underlying223
  a212 := Tryz.isAgg223
  z212 := Tryz.sizeOf223
  v212 := Tryz.zeroValue223
  t213 := Tryz.underlying224
  a213 := Tryz.isAgg224
  z213 := Tryz.sizeOf224
  t232 := Tryz.underlying228
  a232 := Tryz.isAgg228
  z232 := Tryz.sizeOf228
  v232 := Tryz.zeroValue228
  t233 := Tryz.underlying229
  a233 := Tryz.isAgg229
  z233 := Tryz.sizeOf229
  v233 := Tryz.zeroValue229
  g17 := by kernel_rfl
  g18 := by kernel_rfl
  g19 := by kernel_rfl
  i0 := by kernel_rfl
  i2 := by kernel_rfl
  i3 := by kernel_rfl
  i4 := by kernel_rfl
  i5 := by kernel_rfl
  i9 := by kernel_rfl
  i20 := by kernel_rfl
  i37 := by kernel_rfl
  i46 := by kernel_rfl
  i51 := by kernel_rfl
  i53 := by kernel_rfl
  i171 := by kernel_rfl
  i173 := by kernel_rfl
  i212 := by kernel_rfl
  i232 := by kernel_rfl
  i233 := by kernel_rfl
  m17 := by kernel_rfl
  m18 := by kernel_rfl
  m19 := by kernel_rfl }
end Go.Proofs.YtcmkjdpmlmmjcaaGreatDoor
end
section
namespace Go.Proofs.YtcmkjdpmlmmjcaaGreatDoor
open Go.RowKit

/-- The library's table of powers, in memory. -/
def PowT (w : World) : Prop := Lib.TabIs Tryz.prog w "internal/strconv.uint64pow10" .u64 Lib.pow10Tab
theorem gPow : Tryz.prog.globalNamed "internal/strconv.uint64pow10" = some 5 := by kernel_rfl
theorem PowT.heap {w w' : World} (h : PowT w) (e : w'.heap[5]? = w.heap[5]?) : PowT w' := by
  unfold PowT Lib.TabIs World.var? at *
  simp only [gPow, Option.bind_some] at h ⊢
  rw [e]
  exact h
theorem PowT.lt {w : World} (h : PowT w) : 5 < w.heap.size := by
  unfold PowT Lib.TabIs World.var? at h
  simp only [gPow, Option.bind_some] at h
  rcases Nat.lt_or_ge 5 w.heap.size with h' | h'
  · exact h'
  · rw [Array.getElem?_eq_none h'] at h; simp at h
theorem PowT.keep {X : Nat → Prop} {w w' : World} (h : PowT w) (hf : Fr X w w') (hx : ¬ X 5) : PowT w' := h.heap (hf.block _ h.lt hx)
theorem PowT.tab {w : World} (h : PowT w) {B : Nat} (hB : 5 < B) : Lib.TabBelow Tryz.prog B w "internal/strconv.uint64pow10" .u64 Lib.pow10Tab := fun _ hb => h.heap (hb.block _ hB)

theorem decN_digits : ∀ (f n : Nat), n < 10 ^ f → 0 < f → decN f n = Lib.decDigits n := by
  intro f
  induction f with
  | zero => intro n h h0; omega
  | succ f ih =>
    intro n h _
    rw [Lib.decDigits]
    by_cases h10 : n < 10
    · rw [dif_pos h10]
      simp only [decN]
      rw [if_pos h10, Nat.mod_eq_of_lt h10]
      rfl
    · rw [dif_neg h10]
      simp only [decN]
      rw [if_neg h10, ih (n / 10) (by rw [Nat.pow_succ] at h; omega) (by
        rcases f with _ | f
        · simp at h; omega
        · omega)]
theorem decI_itoa (n : Int) (h0 : -9223372036854775808 ≤ n) (h1 : n ≤ 9223372036854775807) : decI n = Lib.itoa n := by
  unfold decI Lib.itoa
  rw [decN_digits 20 n.natAbs (by omega) (by omega)]
  by_cases h : n < 0
  · rw [if_pos h, if_pos h]
  · rw [if_neg h, if_neg h, show n.natAbs = n.toNat by omega]

theorem appendInt_any (w : World) (B : Nat) (sv : Value) (acc : Bs) (n : Int) (h0 : -9223372036854775808 ≤ n) (h1 : n ≤ 9223372036854775807) (h : BO w B sv acc) (hB : B ≤ w.heap.size) (hp : PowT w) (hg : 5 < B) (hl : acc.length + 21 ≤ 140737488355328) :
    Calls Tryz.prog 94 #[sv, .int .i64 n, .int .i64 10] w fun e w' => OutPost w B (acc ++ decI n) e w' := by
  have hown : w.ownsRow B 5 1 sv acc.length (Lib.byteCells acc) := by
    refine ⟨h.own.1, ?_⟩
    rcases h.own.2 with h' | ⟨g, cap, cur, hv, _, r⟩
    · exact .inl h'
    · exact .inr ⟨g, cap, cur, hv, h.from_ g (by rw [hv]; rfl), r⟩
  have hc := Any.strconv_AppendInt_10 laysM176 B acc.length n h0 h1 sv (Lib.byteCells acc) w hown hB hl (hp.tab hg)
  refine Calls.mono (show Calls Tryz.prog 94 #[sv, .int .i64 n, .int .i64 10] w _ from hc) ?_
  rintro e w' ⟨v', rfl, hO, hbl, _⟩
  refine ⟨⟨hbl.os, hbl.tape, hbl.output, hbl.size, fun k _ hk => hbl.block k (by unfold From at hk; omega)⟩, v', rfl, ?_⟩
  rw [decI_itoa n h0 h1]
  have hO' : w'.ownsRow B 5 1 v' (acc.length + (Lib.itoa n).length) (Lib.byteCells acc ++ Lib.byteCells (Lib.itoa n)) := hO
  refine ⟨?_, fun g hg' => ?_⟩
  · rw [List.length_append, show Lib.byteCells (acc ++ Lib.itoa n) = Lib.byteCells acc ++ Lib.byteCells (Lib.itoa n) by simp [Lib.byteCells]]
    refine ⟨hO'.1, ?_⟩
    rcases hO'.2 with h' | ⟨g, cap, cur, hv, _, r⟩
    · exact .inl h'
    · exact .inr ⟨g, cap, cur, hv, Nat.zero_le _, r⟩
  · rcases hO'.2 with ⟨h', _⟩ | ⟨g2, cap, cur, hv, hb, r⟩
    · rw [h'] at hg'; simp [Value.ownBlock] at hg'
    · rw [hv] at hg'; simp [Value.ownBlock] at hg'; omega

end Go.Proofs.YtcmkjdpmlmmjcaaGreatDoor
end
