/- errors.As at a refusal of a description: a nil error is none; a refusal is taken apart. errors.As at a refusal: it is set, and true is told. What parse and Check of package sluice tell. -/
import Derived.Shelf.LaysM
import Derived.Shelf.Strconv.AppendIntPublic10
import Derived.Test.YtdcjogpkogidaaaGreatDoorProg
import Derived.LaidEql
import Derived.Stop.Asserts
import Derived.RowKitTokens
import Derived.Test.YtdcjogpkogidaaaGreatDoorMdParse
import Derived.Test.YtdcjogpkogidaaaGreatDoorMdVOut
section
namespace Go.Proofs.YtdcjogpkogidaaaGreatDoor
open Go.Shelf
def laysM176_ren : Go.Shelf.Ren := ⟨fun | 176 => 142 | 249 => 183 | 288 => 209 | 283 => 228 | 284 => 229 | 285 => 230 | 286 => 231 | 129 => 237 | 317 => 236 | 318 => 238 | 319 => 239 | 320 => 240 | 337 => 241 | 338 => 242 | n => n, fun | 37 => 24 | 2 => 2 | 3 => 3 | 53 => 185 | 4 => 4 | 9 => 9 | 171 => 321 | 0 => 0 | 173 => 324 | 212 => 332 | 51 => 328 | 5 => 5 | 20 => 20 | 213 => 333 | 46 => 286 | 232 => 336 | 233 => 337 | n => n, fun | 17 => 5 | 18 => 6 | 19 => 7 | n => n⟩
theorem laysM176 : Go.Proofs.LaysM.n176 Tryz.prog laysM176_ren := {
  mixed := by kernel_rfl
  f129 := Tryz.func237.trans (congrArg some (by kernel_rfl))
  f176 := Tryz.func142.trans (congrArg some (by kernel_rfl))
  f249 := Tryz.func183.trans (congrArg some (by kernel_rfl))
  f283 := Tryz.func228.trans (congrArg some (by kernel_rfl))
  f284 := Tryz.func229.trans (congrArg some (by kernel_rfl))
  f285 := Tryz.func230.trans (congrArg some (by kernel_rfl))
  f286 := Tryz.func231.trans (congrArg some (by kernel_rfl))
  f288 := Tryz.func209.trans (congrArg some (by kernel_rfl))
  f317 := Tryz.func236.trans (congrArg some (by kernel_rfl))
  f318 := Tryz.func238.trans (congrArg some (by kernel_rfl))
  f319 := Tryz.func239.trans (congrArg some (by kernel_rfl))
  f320 := Tryz.func240.trans (congrArg some (by kernel_rfl))
  f337 := Tryz.func241.trans (congrArg some (by kernel_rfl))
  f338 := Tryz.func242.trans (congrArg some (by kernel_rfl))
  t0 := Tryz.underlying0
  a0 := Tryz.isAgg0
  z0 := Tryz.sizeOf0
  v0 := Tryz.zeroValue0
  t2 := Tryz.underlying2
  a2 := Tryz.isAgg2
  z2 := Tryz.sizeOf2
  v2 := Tryz.zeroValue2
  t3 := Tryz.underlying3
  a3 := Tryz.isAgg3
  z3 := Tryz.sizeOf3
  v3 := Tryz.zeroValue3
  t4 := Tryz.underlying4
  a4 := Tryz.isAgg4
  z4 := Tryz.sizeOf4
  v4 := Tryz.zeroValue4
  t5 := Tryz.underlying5
  a5 := Tryz.isAgg5
  z5 := Tryz.sizeOf5
  v5 := Tryz.zeroValue5
  t9 := Tryz.underlying9
  a9 := Tryz.isAgg9
  z9 := Tryz.sizeOf9
  v9 := Tryz.zeroValue9
  t20 := Tryz.underlying20
  a20 := Tryz.isAgg20
  z20 := Tryz.sizeOf20
  v20 := Tryz.zeroValue20
  t37 := Tryz.underlying24
  a37 := Tryz.isAgg24
  z37 := Tryz.sizeOf24
  v37 := Tryz.zeroValue24
  t46 := Tryz.underlying286
  a46 := Tryz.isAgg286
  z46 := Tryz.sizeOf286
  v46 := Tryz.zeroValue286
  t51 := Tryz.underlying328
  a51 := Tryz.isAgg328
  z51 := Tryz.sizeOf328
  v51 := Tryz.zeroValue328
  t53 := Tryz.underlying185
  a53 := Tryz.isAgg185
  z53 := Tryz.sizeOf185
  v53 := Tryz.zeroValue185
  t171 := Tryz.underlying321
  a171 := Tryz.isAgg321
  z171 := Tryz.sizeOf321
  v171 := Tryz.zeroValue321
  t173 := Tryz.underlying324
  a173 := Tryz.isAgg324
  z173 := Tryz.sizeOf324
  v173 := Tryz.zeroValue324
  t212 := Tryz.underlying332
  a212 := Tryz.isAgg332
  z212 := Tryz.sizeOf332
  v212 := Tryz.zeroValue332
  t213 := Tryz.underlying333
  a213 := Tryz.isAgg333
  z213 := Tryz.sizeOf333
  t232 := Tryz.underlying336
  a232 := Tryz.isAgg336
  z232 := Tryz.sizeOf336
  v232 := Tryz.zeroValue336
  t233 := Tryz.underlying337
  a233 := Tryz.isAgg337
  z233 := Tryz.sizeOf337
  v233 := Tryz.zeroValue337
  g17 := by kernel_rfl
  g18 := by kernel_rfl
  g19 := by kernel_rfl
  i0 := by kernel_rfl
  i2 := by kernel_rfl
  i3 := by kernel_rfl
  i4 := by kernel_rfl
  i5 := by kernel_rfl
  i9 := by kernel_rfl
  i20 := by kernel_rfl
  i37 := by kernel_rfl
  i46 := by kernel_rfl
  i51 := by kernel_rfl
  i53 := by kernel_rfl
  i171 := by kernel_rfl
  i173 := by kernel_rfl
  i212 := by kernel_rfl
  i232 := by kernel_rfl
  i233 := by kernel_rfl
  m17 := by kernel_rfl
  m18 := by kernel_rfl
  m19 := by kernel_rfl }
end Go.Proofs.YtdcjogpkogidaaaGreatDoor
end
section
namespace Go.Proofs.YtdcjogpkogidaaaGreatDoor
open Go.RowKit

/-- The library's table of powers, in memory. -/
def PowT (w : World) : Prop := Lib.TabIs Tryz.prog w "internal/strconv.uint64pow10" .u64 Lib.pow10Tab
theorem gPow : Tryz.prog.globalNamed "internal/strconv.uint64pow10" = some 5 := by kernel_rfl
theorem PowT.heap {w w' : World} (h : PowT w) (e : w'.heap[5]? = w.heap[5]?) : PowT w' := by
  unfold PowT Lib.TabIs World.var? at *
  simp only [gPow, Option.bind_some] at h ⊢
  rw [e]
  exact h
theorem PowT.lt {w : World} (h : PowT w) : 5 < w.heap.size := by
  unfold PowT Lib.TabIs World.var? at h
  simp only [gPow, Option.bind_some] at h
  rcases Nat.lt_or_ge 5 w.heap.size with h' | h'
  · exact h'
  · rw [Array.getElem?_eq_none h'] at h; simp at h
theorem PowT.keep {X : Nat → Prop} {w w' : World} (h : PowT w) (hf : Fr X w w') (hx : ¬ X 5) : PowT w' := h.heap (hf.block _ h.lt hx)
theorem PowT.tab {w : World} (h : PowT w) {B : Nat} (hB : 5 < B) : Lib.TabBelow Tryz.prog B w "internal/strconv.uint64pow10" .u64 Lib.pow10Tab := fun _ hb => h.heap (hb.block _ hB)

theorem decN_digits : ∀ (f n : Nat), n < 10 ^ f → 0 < f → decN f n = Lib.decDigits n := by
  intro f
  induction f with
  | zero => intro n h h0; omega
  | succ f ih =>
    intro n h _
    rw [Lib.decDigits]
    by_cases h10 : n < 10
    · rw [dif_pos h10]
      simp only [decN]
      rw [if_pos h10, Nat.mod_eq_of_lt h10]
      rfl
    · rw [dif_neg h10]
      simp only [decN]
      rw [if_neg h10, ih (n / 10) (by rw [Nat.pow_succ] at h; omega) (by
        rcases f with _ | f
        · simp at h; omega
        · omega)]
theorem decI_itoa (n : Int) (h0 : -9223372036854775808 ≤ n) (h1 : n ≤ 9223372036854775807) : decI n = Lib.itoa n := by
  unfold decI Lib.itoa
  rw [decN_digits 20 n.natAbs (by omega) (by omega)]
  by_cases h : n < 0
  · rw [if_pos h, if_pos h]
  · rw [if_neg h, if_neg h, show n.natAbs = n.toNat by omega]

theorem appendInt_any (w : World) (B : Nat) (sv : Value) (acc : Bs) (n : Int) (h0 : -9223372036854775808 ≤ n) (h1 : n ≤ 9223372036854775807) (h : BO w B sv acc) (hB : B ≤ w.heap.size) (hp : PowT w) (hg : 5 < B) (hl : acc.length + 21 ≤ 140737488355328) :
    Calls Tryz.prog 142 #[sv, .int .i64 n, .int .i64 10] w fun e w' => OutPost w B (acc ++ decI n) e w' := by
  have hown : w.ownsRow B 5 1 sv acc.length (Lib.byteCells acc) := by
    refine ⟨h.own.1, ?_⟩
    rcases h.own.2 with h' | ⟨g, cap, cur, hv, _, r⟩
    · exact .inl h'
    · exact .inr ⟨g, cap, cur, hv, h.from_ g (by rw [hv]; rfl), r⟩
  have hc := Any.strconv_AppendInt_10 laysM176 B acc.length n h0 h1 sv (Lib.byteCells acc) w hown hB hl (hp.tab hg)
  refine Calls.mono (show Calls Tryz.prog 142 #[sv, .int .i64 n, .int .i64 10] w _ from hc) ?_
  rintro e w' ⟨v', rfl, hO, hbl, _⟩
  refine ⟨⟨hbl.os, hbl.tape, hbl.output, hbl.size, fun k _ hk => hbl.block k (by unfold From at hk; omega)⟩, v', rfl, ?_⟩
  rw [decI_itoa n h0 h1]
  have hO' : w'.ownsRow B 5 1 v' (acc.length + (Lib.itoa n).length) (Lib.byteCells acc ++ Lib.byteCells (Lib.itoa n)) := hO
  refine ⟨?_, fun g hg' => ?_⟩
  · rw [List.length_append, show Lib.byteCells (acc ++ Lib.itoa n) = Lib.byteCells acc ++ Lib.byteCells (Lib.itoa n) by simp [Lib.byteCells]]
    refine ⟨hO'.1, ?_⟩
    rcases hO'.2 with h' | ⟨g, cap, cur, hv, _, r⟩
    · exact .inl h'
    · exact .inr ⟨g, cap, cur, hv, Nat.zero_le _, r⟩
  · rcases hO'.2 with ⟨h', _⟩ | ⟨g2, cap, cur, hv, hb, r⟩
    · rw [h'] at hg'; simp [Value.ownBlock] at hg'
    · rw [hv] at hg'; simp [Value.ownBlock] at hg'; omega

end Go.Proofs.YtdcjogpkogidaaaGreatDoor
end
section
namespace Go.Proofs.YtdcjogpkogidaaaGreatDoor
open Go.RowKit Go.Extern.Stop Go.Stop Go.Extern

theorem as_nil (t : Value) (w : World) :
    Calls Tryz.prog 31 #[.nilIface, t] w fun e w' => e = .returned (.bool false) ∧ w' = w := by
  go_enter Tryz.func31, Tryz.ntmps31
  go_wp2
  go_ret
  exact ⟨rfl, rfl⟩

theorem asValueOfPP (t : Addr) (w : World) : (ReflectliteValue.unpack (.iface 91 (.pointer (some t)))).run Tryz.prog w
    = .ok (.agg #[.pointer (some ⟨8, 91, none⟩), .pointer (some ⟨w.heap.size, 0, none⟩), .int .u64 150]) (w.alloc (.cells #[.pointer (some t)] 91)) := by kernel_rfl
theorem asTypePP (a : Addr) (w : World) : (ReflectliteValue.methodAny (ReflectliteValue.valueError "reflectlite.Value.Type" 0) (fun t _ _ _ => ReflectliteType.toType t) #[.agg #[.pointer (some ⟨8, 91, none⟩), .pointer (some a), .int .u64 150]]).run Tryz.prog w
    = .ok (.iface 214 (.agg #[.pointer (some ⟨8, 91, none⟩)])) w := by kernel_rfl
theorem asMethodKind (h : Value) (w : World) : (Go.method 465 214 (.agg #[h]) "Kind").run Tryz.prog w = .ok (257, h) w := by kernel_rfl
theorem asKindPP (w : World) : ((ReflectliteType.abiMethod fun t => (fun a : Nat => Value.int IntKind.u8 (a : Int)) <$> Rtype.kind t) #[.pointer (some ⟨8, 91, none⟩)]).run Tryz.prog w = .ok (.int .u8 22) w := by kernel_rfl
theorem asKindP (w : World) : ((ReflectliteType.abiMethod fun t => (fun a : Nat => Value.int IntKind.u8 (a : Int)) <$> Rtype.kind t) #[.pointer (some ⟨8, 89, none⟩)]).run Tryz.prog w = .ok (.int .u8 22) w := by kernel_rfl
theorem asPartsPP (a : Addr) (w : World) : (ReflectliteValue.parts (.agg #[.pointer (some ⟨8, 91, none⟩), .pointer (some a), .int .u64 150])).run Tryz.prog w = .ok (some (91, a, 150)) w := by kernel_rfl
theorem asIsNil (a p : Addr) (W : World) (ha : W.cell? a = some (.pointer (some p))) :
    (ReflectliteValue.method (ReflectliteValue.valueError "reflectlite.Value.IsNil" 0) ReflectliteValue.isNil #[.agg #[.pointer (some ⟨8, 91, none⟩), .pointer (some a), .int .u64 150]]).run Tryz.prog W = .ok (.bool false) W := by
  rw [show ReflectliteValue.method (ReflectliteValue.valueError "reflectlite.Value.IsNil" 0) ReflectliteValue.isNil #[.agg #[.pointer (some ⟨8, 91, none⟩), .pointer (some a), .int .u64 150]] = bind (ReflectliteValue.parts (.agg #[.pointer (some ⟨8, 91, none⟩), .pointer (some a), .int .u64 150])) (fun q => _) from rfl]
  simp only [Sem.run_bind, asPartsPP, Result.andThen]
  simp [ReflectliteValue.isNil, loadVar, isAgg, underlying, Tryz.underlying91, ha, Result.andThen]
theorem asMethodElem (h : Value) (w : World) : (Go.method 465 214 (.agg #[h]) "Elem").run Tryz.prog w = .ok (267, .agg #[h]) w := by kernel_rfl
theorem asMethodImplements (h : Value) (w : World) : (Go.method 465 214 (.agg #[h]) "Implements").run Tryz.prog w = .ok (268, .agg #[h]) w := by kernel_rfl
theorem asMethodAssignableTo (h : Value) (w : World) : (Go.method 465 214 (.agg #[h]) "AssignableTo").run Tryz.prog w = .ok (265, .agg #[h]) w := by kernel_rfl
theorem asElem (w : World) : (ReflectliteType.method ReflectliteType.elem #[.agg #[.pointer (some ⟨8, 91, none⟩)]]).run Tryz.prog w = .ok (.iface 214 (.agg #[.pointer (some ⟨8, 89, none⟩)])) w := by kernel_rfl
theorem asImplements (w : World) : (ReflectliteType.relation "Implements" ReflectliteType.implements_ #[.agg #[.pointer (some ⟨8, 89, none⟩)], .iface 214 (.agg #[.pointer (some ⟨8, 86, none⟩)])]).run Tryz.prog w = .ok (.bool true) w := by kernel_rfl
theorem asTypeOf (v : Value) (w : World) : (ReflectliteType.typeOf #[.iface 89 v]).run Tryz.prog w = .ok (.iface 214 (.agg #[.pointer (some ⟨8, 89, none⟩)])) w := by kernel_rfl
theorem asAssignable (w : World) : (ReflectliteType.relation "AssignableTo" ReflectliteType.assignableTo #[.agg #[.pointer (some ⟨8, 89, none⟩)], .iface 214 (.agg #[.pointer (some ⟨8, 89, none⟩)])]).run Tryz.prog w = .ok (.bool true) w := by kernel_rfl
theorem asValueOfP (e : Addr) (w : World) : (ReflectliteValue.unpack (.iface 89 (.pointer (some e)))).run Tryz.prog w
    = .ok (.agg #[.pointer (some ⟨8, 89, none⟩), .pointer (some ⟨w.heap.size, 0, none⟩), .int .u64 150]) (w.alloc (.cells #[.pointer (some e)] 89)) := by kernel_rfl
theorem asElemOf (w : World) : (Rtype.elem? 91).run Tryz.prog w = .ok (some 89) w := by kernel_rfl
theorem asMk (p : Addr) (w : World) : (ReflectliteValue.mk 89 p ReflectliteValue.flagAddr).run Tryz.prog w = .ok (.agg #[.pointer (some ⟨8, 89, none⟩), .pointer (some p), .int .u64 406]) w := by kernel_rfl
theorem asElemV (a p : Addr) (W : World) (ha : W.cell? a = some (.pointer (some p))) :
    (ReflectliteValue.method (ReflectliteValue.valueError "reflectlite.Value.Elem" 0) ReflectliteValue.elem #[.agg #[.pointer (some ⟨8, 91, none⟩), .pointer (some a), .int .u64 150]]).run Tryz.prog W
      = .ok (.agg #[.pointer (some ⟨8, 89, none⟩), .pointer (some p), .int .u64 406]) W := by
  rw [show ReflectliteValue.method (ReflectliteValue.valueError "reflectlite.Value.Elem" 0) ReflectliteValue.elem #[.agg #[.pointer (some ⟨8, 91, none⟩), .pointer (some a), .int .u64 150]] = bind (ReflectliteValue.parts (.agg #[.pointer (some ⟨8, 91, none⟩), .pointer (some a), .int .u64 150])) (fun q => _) from rfl]
  simp only [Sem.run_bind, asPartsPP, Result.andThen]
  simp [ReflectliteValue.elem, loadVar, isAgg, underlying, Tryz.underlying91, ha, Result.andThen, asElemOf, asMk]
theorem asPartsA (a : Addr) (w : World) : (ReflectliteValue.parts (.agg #[.pointer (some ⟨8, 89, none⟩), .pointer (some a), .int .u64 406])).run Tryz.prog w = .ok (some (89, a, 406)) w := by kernel_rfl
theorem asPartsP (a : Addr) (w : World) : (ReflectliteValue.parts (.agg #[.pointer (some ⟨8, 89, none⟩), .pointer (some a), .int .u64 150])).run Tryz.prog w = .ok (some (89, a, 150)) w := by kernel_rfl
theorem asDirect (w : World) : (Rtype.directlyAssignable 89 89).run Tryz.prog w = .ok true w := by kernel_rfl
theorem asSet (ta b e : Addr) (old : Value) (W : World) (hb : W.cell? b = some (.pointer (some e))) (ht : W.cell? ta = some old) (hf : W.frozen? ta = false) :
    (ReflectliteValue.set #[.agg #[.pointer (some ⟨8, 89, none⟩), .pointer (some ta), .int .u64 406], .agg #[.pointer (some ⟨8, 89, none⟩), .pointer (some b), .int .u64 150]]).run Tryz.prog W
      = .ok (.tuple #[]) (W.setCell ta (.pointer (some e))) := by
  rw [show ReflectliteValue.set #[.agg #[.pointer (some ⟨8, 89, none⟩), .pointer (some ta), .int .u64 406], .agg #[.pointer (some ⟨8, 89, none⟩), .pointer (some b), .int .u64 150]] = bind (ReflectliteValue.parts (.agg #[.pointer (some ⟨8, 89, none⟩), .pointer (some ta), .int .u64 406])) (fun p => bind (ReflectliteValue.parts (.agg #[.pointer (some ⟨8, 89, none⟩), .pointer (some b), .int .u64 150])) (fun q => _)) from rfl]
  simp only [Sem.run_bind, asPartsA, asPartsP, Result.andThen]
  simp [ReflectliteValue.flagAddr, loadVar, isAgg, underlying, Tryz.underlying89, hb, Result.andThen, asDirect, storeVar, Value.cells, storeCells, Addr.add]
  rw [run_store Tryz.prog W ta _ _ (by rfl)]
  simp [ht, hf]

end Go.Proofs.YtdcjogpkogidaaaGreatDoor

namespace Go.Proofs.YtdcjogpkogidaaaGreatDoor
open Go.RowKit Go.Extern.Stop Go.Stop Go.Extern

set_option maxHeartbeats 4000000 in
theorem as_hit (e t : Addr) (old : Value) (w : World) (hg : w.cell? ⟨0, 0, none⟩ = some (.iface 214 (.agg #[.pointer (some ⟨8, 86, none⟩)]))) (ht0 : w.cell? t = some old) (hf0 : w.frozen? t = false) :
    Calls Tryz.prog 31 #[.iface 89 (.pointer (some e)), .iface 91 (.pointer (some t))] w fun ev w' => ev = .returned (.bool true) ∧ w' = ((((w.alloc (.cells #[.pointer (some t)] 91)).alloc (.cells #[.pointer (some ⟨8, 91, none⟩), .pointer (some ⟨w.heap.size, 0, none⟩), .int .u64 150] 150)).alloc (.cells #[.pointer (some ⟨8, 91, none⟩), .pointer (some ⟨w.heap.size, 0, none⟩), .int .u64 150] 150)).alloc (.cells #[.pointer (some e)] 89)).setCell t (.pointer (some e)) := by
  have h6 := @run_callFunc_extern Tryz.prog 72 _ (fun args => ReflectliteValue.unpack (args.getD 0 (.tuple #[]))) Tryz.func72 (by kernel_rfl) (by kernel_rfl) (by kernel_rfl) (by kernel_rfl)
  have h7 := @run_callFunc_extern Tryz.prog 73 _ (ReflectliteValue.methodAny (ReflectliteValue.valueError "reflectlite.Value.Type" 0) (fun t _ _ _ => ReflectliteType.toType t)) Tryz.func73 (by kernel_rfl) (by kernel_rfl) (by kernel_rfl) (by kernel_rfl)
  have h8 := @run_callFunc_extern Tryz.prog 74 _ (ReflectliteValue.method (ReflectliteValue.valueError "reflectlite.Value.IsNil" 0) ReflectliteValue.isNil) Tryz.func74 (by kernel_rfl) (by kernel_rfl) (by kernel_rfl) (by kernel_rfl)
  have h27 := @run_callFunc_extern Tryz.prog 257 _ (ReflectliteType.abiMethod fun t => do pure (.int .u8 (← Rtype.kind t))) Tryz.func257 (by kernel_rfl) (by kernel_rfl) (by kernel_rfl) (by kernel_rfl)
  have h37 := @run_callFunc_extern Tryz.prog 267 _ (ReflectliteType.method ReflectliteType.elem) Tryz.func267 (by kernel_rfl) (by kernel_rfl) (by kernel_rfl) (by kernel_rfl)
  have h38 := @run_callFunc_extern Tryz.prog 268 _ (ReflectliteType.relation "Implements" ReflectliteType.implements_) Tryz.func268 (by kernel_rfl) (by kernel_rfl) (by kernel_rfl) (by kernel_rfl)
  have h10 := @run_callFunc_extern Tryz.prog 107 _ (ReflectliteType.typeOf) Tryz.func107 (by kernel_rfl) (by kernel_rfl) (by kernel_rfl) (by kernel_rfl)
  have h35 := @run_callFunc_extern Tryz.prog 265 _ (ReflectliteType.relation "AssignableTo" ReflectliteType.assignableTo) Tryz.func265 (by kernel_rfl) (by kernel_rfl) (by kernel_rfl) (by kernel_rfl)
  have h11 := @run_callFunc_extern Tryz.prog 108 _ (ReflectliteValue.method (ReflectliteValue.valueError "reflectlite.Value.Elem" 0) ReflectliteValue.elem) Tryz.func108 (by kernel_rfl) (by kernel_rfl) (by kernel_rfl) (by kernel_rfl)
  have h12 := @run_callFunc_extern Tryz.prog 109 _ (ReflectliteValue.set) Tryz.func109 (by kernel_rfl) (by kernel_rfl) (by kernel_rfl) (by kernel_rfl)
  have tO := asTypeOf
  have mA := asMethodAssignableTo
  have a25 := asAssignable
  have v25 := asValueOfP
  have f6 := asValueOfPP
  have f7 := asTypePP
  have mK := asMethodKind
  have mE := asMethodElem
  have mI := asMethodImplements
  have k27 := asKindPP
  have k25 := asKindP
  have e27 := asElem
  have i25 := asImplements
  have n8 := asIsNil ⟨w.heap.size, 0, none⟩ t ((w.alloc (.cells #[.pointer (some t)] 91)).alloc (.cells #[.pointer (some ⟨8, 91, none⟩), .pointer (some ⟨w.heap.size, 0, none⟩), .int .u64 150] 150)) (by simp)
  have hlt : 0 < w.heap.size := World.block_lt_of_cell? w _ hg
  have hg2 : ((w.alloc (.cells #[.pointer (some t)] 91)).alloc (.cells #[.pointer (some ⟨8, 91, none⟩), .pointer (some ⟨w.heap.size, 0, none⟩), .int .u64 150] 150)).cell? ⟨0, 0, none⟩ = some (.iface 214 (.agg #[.pointer (some ⟨8, 86, none⟩)])) := by
    rw [World.cell?_alloc_lt _ _ ⟨0, 0, none⟩ (by simp), World.cell?_alloc_lt _ _ ⟨0, 0, none⟩ hlt]; exact hg
  have htl : t.block < w.heap.size := World.block_lt_of_cell? w _ ht0
  have el := asElemV ⟨w.heap.size, 0, none⟩ t (((w.alloc (.cells #[.pointer (some t)] 91)).alloc (.cells #[.pointer (some ⟨8, 91, none⟩), .pointer (some ⟨w.heap.size, 0, none⟩), .int .u64 150] 150)).alloc (.cells #[.pointer (some ⟨8, 91, none⟩), .pointer (some ⟨w.heap.size, 0, none⟩), .int .u64 150] 150)) (by rw [World.cell?_alloc_lt _ _ ⟨w.heap.size, 0, none⟩ (by simp; omega)]; simp)
  have st := asSet t ⟨w.heap.size + 1 + 1 + 1, 0, none⟩ e old ((((w.alloc (.cells #[.pointer (some t)] 91)).alloc (.cells #[.pointer (some ⟨8, 91, none⟩), .pointer (some ⟨w.heap.size, 0, none⟩), .int .u64 150] 150)).alloc (.cells #[.pointer (some ⟨8, 91, none⟩), .pointer (some ⟨w.heap.size, 0, none⟩), .int .u64 150] 150)).alloc (.cells #[.pointer (some e)] 89))
    (by rw [World.cell?_alloc_at _ _ _ _ (by simp)]; rfl)
    (by rw [World.cell?_alloc_lt _ _ t (by simp; omega), World.cell?_alloc_lt _ _ t (by simp; omega), World.cell?_alloc_lt _ _ t (by simp; omega), World.cell?_alloc_lt _ _ t htl]; exact ht0)
    (by rw [World.frozen?_alloc_old _ _ t (by simp; omega), World.frozen?_alloc_old _ _ t (by simp; omega), World.frozen?_alloc_old _ _ t (by simp; omega), World.frozen?_alloc_old _ _ t (Nat.ne_of_lt htl)]; exact hf0)
  go_enter Tryz.func31, Tryz.ntmps31
  go_wp2
  refine wp_loop_rounds 1 ?_
  rw [rounds_succ]
  go_wp2
  go_ret
  exact ⟨rfl, rfl⟩

end Go.Proofs.YtdcjogpkogidaaaGreatDoor

namespace Go.Proofs.YtdcjogpkogidaaaGreatDoor
open Go.RowKit

/-- The variable errors.errorType, as it is laid. -/
def ErrT (w : World) : Prop := w.cell? ⟨0, 0, none⟩ = some (.iface 214 (.agg #[.pointer (some ⟨8, 86, none⟩)]))

theorem ErrT.keep {w w' : World} {X : Nat → Prop} (h : ErrT w) (hf : Fr X w w') (hx : ¬ X 0) : ErrT w' :=
  (hf.cell (a := ⟨0, 0, none⟩) (World.block_lt_of_cell? w _ h) hx).trans h

theorem checkP_ok {s : ByteArray} (h : (checkP s).1 = 0) : checkP s = (0, 0) := by
  unfold checkP at h ⊢
  split at h
  · cases h
  · split at h
    · cases h
    · split at h
      · cases h
      · split at h
        · cases h
        · rw [if_neg (by assumption), if_neg (by assumption)]

theorem as_set (e : Addr) (tb : Nat) (w : World) (hg : ErrT w) (ht : w.heap[tb]? = some (.cells #[.pointer none] 89 (0, 0))) :
    Calls Tryz.prog 31 #[.iface 89 (.pointer (some e)), .iface 91 (.pointer (some ⟨tb, 0, none⟩))] w fun ev w' => ev = .returned (.bool true) ∧ Fr (One tb) w w' ∧ w'.heap[tb]? = some (.cells #[.pointer (some e)] 89 (0, 0)) := by
  refine (as_hit e ⟨tb, 0, none⟩ (.pointer none) w hg (by rw [cell_of_heap ht]; rfl) (free_of_heap ht)).mono ?_
  rintro ev w' ⟨rfl, rfl⟩
  have hF : Fr (One tb) w ((((w.alloc (.cells #[.pointer (some ⟨tb, 0, none⟩)] 91)).alloc (.cells #[.pointer (some ⟨8, 91, none⟩), .pointer (some ⟨w.heap.size, 0, none⟩), .int .u64 150] 150)).alloc (.cells #[.pointer (some ⟨8, 91, none⟩), .pointer (some ⟨w.heap.size, 0, none⟩), .int .u64 150] 150)).alloc (.cells #[.pointer (some e)] 89)) :=
    (Fr.alloc _ _ _).trans ((Fr.alloc _ _ _).trans ((Fr.alloc _ _ _).trans (Fr.alloc _ _ _)))
  have h0 : Fr Zero w ((((w.alloc (.cells #[.pointer (some ⟨tb, 0, none⟩)] 91)).alloc (.cells #[.pointer (some ⟨8, 91, none⟩), .pointer (some ⟨w.heap.size, 0, none⟩), .int .u64 150] 150)).alloc (.cells #[.pointer (some ⟨8, 91, none⟩), .pointer (some ⟨w.heap.size, 0, none⟩), .int .u64 150] 150)).alloc (.cells #[.pointer (some e)] 89)) :=
    (Fr.alloc _ _ _).trans ((Fr.alloc _ _ _).trans ((Fr.alloc _ _ _).trans (Fr.alloc _ _ _)))
  refine ⟨rfl, hF.trans (Fr.setCell (One tb) _ ⟨tb, 0, none⟩ _ rfl), ?_⟩
  rw [heap_setCell_same (h0.keep ht (fun h => h))]
  rfl

theorem parse_any (s : ByteArray) (w : World) (hw : Words w) (hs : s.size ≤ maxLen) : Calls Tryz.prog 30 #[.string s] w fun e w' => ParsePost w s e w' := by
  by_cases h : 400 < s.size
  · exact parse_long s w h hs
  · exact parse_short s w (by omega) hw

set_option maxHeartbeats 4000000 in
theorem sparse_any (s : ByteArray) (w : World) (hw : Words w) (het : ErrT w) (hs : s.size ≤ maxLen) :
    Calls Tryz.prog 18 #[.string s] w fun e w' => Fr Zero w w' ∧ ∃ a : Option Addr, e = .returned (.tuple #[.pointer a, .int .i64 (checkP s).1, .int .i64 (checkP s).2]) ∧ (checkP s = (0, 0) → ∃ a', a = some a' ∧ TR w' Zero a' (typeP s)) := by
  have HW := hide hw
  have HE := hide het
  clear hw het
  go_enter Tryz.func18, Tryz.ntmps18
  go_wp2_with fail
  refine (parse_any s _ HW hs).mono ?_
  rintro e w1 ⟨hF, hok, hno⟩
  have HF := hide hF
  by_cases hz : (checkP s).1 = 0
  · have hc := checkP_ok hz
    obtain ⟨a, rfl, ht⟩ := hok hc
    have HC := hide hc
    have HTR := hide ht
    clear hF hok hno hz hc ht
    go_wp2_with fail
    refine (as_nil _ _).mono ?_
    rintro e w2 ⟨rfl, rfl⟩
    go_wp2_with fail
    go_ret3
    rw [HC.out]
    exact ⟨HF.out.trans (Fr.alloc _ _ _), some a, rfl, fun _ => ⟨a, rfl, HTR.out.keep (Fr.alloc _ _ _)⟩⟩
  · obtain ⟨b, rfl, hb⟩ := hno (checkP s).1 (checkP s).2 rfl hz
    have hbl := lt_of_heap hb
    have HET := hide ((HE.out.keep hF (fun h => h)).keep (Fr.alloc Zero w1 (.cells #[.pointer none] 89)) (fun h => h))
    have q0 : w1.cell? ⟨b, 0, none⟩ = some (.int .i64 (checkP s).1) := by rw [cell_of_heap hb]; rfl
    have q1 : w1.cell? ⟨b, 1, none⟩ = some (.int .i64 (checkP s).2) := by rw [cell_of_heap hb]; rfl
    have HZ := hide hz
    clear hF hok hno hz hb
    have HC1 : Hid (∃ c, c = (checkP s).1) := ⟨_, rfl⟩
    generalize hc1 : (checkP s).1 = c1 at *
    generalize hc2 : (checkP s).2 = c2 at *
    have HC1 := hide hc1
    have HC2 := hide hc2
    clear hc1 hc2
    go_wp2_with fail
    refine (as_set ⟨b, 0, none⟩ w1.heap.size _ HET (heap_new_at rfl _)).mono ?_
    rintro e w2 ⟨rfl, hF2, ht2⟩
    have hbn : ¬ One w1.heap.size b := fun e => by have e' : b = w1.heap.size := e; omega
    have hF3 := (Fr.alloc (One w1.heap.size) w1 (.cells #[.pointer none] 89)).trans hF2
    have p0 : w2.cell? ⟨b, 0, none⟩ = some (.int .i64 c1) := (hF3.cell (a := ⟨b, 0, none⟩) hbl hbn).trans q0
    have p1 : w2.cell? ⟨b, 1, none⟩ = some (.int .i64 c2) := (hF3.cell (a := ⟨b, 1, none⟩) hbl hbn).trans q1
    have p2 : w2.cell? ⟨w1.heap.size, 0, none⟩ = some (.pointer (some ⟨b, 0, none⟩)) := by rw [cell_of_heap ht2]; rfl
    have HF3 : Hid (Fr Zero w w2) := HF.out.past (hF3.mono (fun k _ e => by have e' : k = w1.heap.size := e; have := HF.out.size; omega))
    clear hF2 ht2 hbn hF3 q0 q1 hbl
    go_wp2_with fail
    go_quiet (fail)
    go_wp2_with fail
    go_ret3
    rw [HC1.out, HC2.out]
    refine ⟨HF3.out.trans (Fr.drewN _ _ _), none, rfl, fun h => ?_⟩
    have h1 : (checkP s).1 = 0 := by rw [h]
    exact absurd (HC1.out.symm.trans h1) HZ

theorem check_any (s : ByteArray) (w : World) (hw : Words w) (het : ErrT w) (hs : s.size ≤ maxLen) :
    Calls Tryz.prog 15 #[.string s] w fun e w' => Fr Zero w w' ∧ e = .returned (.tuple #[.int .i64 (checkP s).1, .int .i64 (checkP s).2]) := by
  have HW := hide hw
  have HE := hide het
  clear hw het
  go_enter Tryz.func15, Tryz.ntmps15
  go_wp2_with fail
  refine (sparse_any s _ HW HE hs).mono ?_
  rintro e w1 ⟨hF, a, rfl, _⟩
  have HF := hide hF
  clear hF
  go_wp2_with fail
  go_ret2
  exact ⟨HF, rfl⟩

end Go.Proofs.YtdcjogpkogidaaaGreatDoor
end
