/- errors.As at a refusal of a description: a nil error is none; a refusal is taken apart. errors.As at a refusal: it is set, and true is told. What parse and Check of package sluice tell. -/
import Derived.LaidEql
import Derived.Stop.Asserts
import Derived.RowKitTokens
import Derived.Test.YtcmkjdpmlmmjcaaGreatDoorPsParse
namespace Go.Proofs.YtcmkjdpmlmmjcaaGreatDoor
open Go.RowKit Go.Extern.Stop Go.Stop Go.Extern

theorem as_nil (t : Value) (w : World) :
    Calls Tryz.prog 23 #[.nilIface, t] w fun e w' => e = .returned (.bool false) ∧ w' = w := by
  go_enter Tryz.func23, Tryz.ntmps23
  go_wp2
  go_ret
  exact ⟨rfl, rfl⟩

theorem asValueOfPP (t : Addr) (w : World) : (ReflectliteValue.unpack (.iface 58 (.pointer (some t)))).run Tryz.prog w
    = .ok (.agg #[.pointer (some ⟨8, 58, none⟩), .pointer (some ⟨w.heap.size, 0, none⟩), .int .u64 150]) (w.alloc (.cells #[.pointer (some t)] 58)) := by kernel_rfl
theorem asTypePP (a : Addr) (w : World) : (ReflectliteValue.methodAny (ReflectliteValue.valueError "reflectlite.Value.Type" 0) (fun t _ _ _ => ReflectliteType.toType t) #[.agg #[.pointer (some ⟨8, 58, none⟩), .pointer (some a), .int .u64 150]]).run Tryz.prog w
    = .ok (.iface 128 (.agg #[.pointer (some ⟨8, 58, none⟩)])) w := by kernel_rfl
theorem asMethodKind (h : Value) (w : World) : (Go.method 357 128 (.agg #[h]) "Kind").run Tryz.prog w = .ok (166, h) w := by kernel_rfl
theorem asKindPP (w : World) : ((ReflectliteType.abiMethod fun t => (fun a : Nat => Value.int IntKind.u8 (a : Int)) <$> Rtype.kind t) #[.pointer (some ⟨8, 58, none⟩)]).run Tryz.prog w = .ok (.int .u8 22) w := by kernel_rfl
theorem asKindP (w : World) : ((ReflectliteType.abiMethod fun t => (fun a : Nat => Value.int IntKind.u8 (a : Int)) <$> Rtype.kind t) #[.pointer (some ⟨8, 56, none⟩)]).run Tryz.prog w = .ok (.int .u8 22) w := by kernel_rfl
theorem asPartsPP (a : Addr) (w : World) : (ReflectliteValue.parts (.agg #[.pointer (some ⟨8, 58, none⟩), .pointer (some a), .int .u64 150])).run Tryz.prog w = .ok (some (58, a, 150)) w := by kernel_rfl
theorem asIsNil (a p : Addr) (W : World) (ha : W.cell? a = some (.pointer (some p))) :
    (ReflectliteValue.method (ReflectliteValue.valueError "reflectlite.Value.IsNil" 0) ReflectliteValue.isNil #[.agg #[.pointer (some ⟨8, 58, none⟩), .pointer (some a), .int .u64 150]]).run Tryz.prog W = .ok (.bool false) W := by
  rw [show ReflectliteValue.method (ReflectliteValue.valueError "reflectlite.Value.IsNil" 0) ReflectliteValue.isNil #[.agg #[.pointer (some ⟨8, 58, none⟩), .pointer (some a), .int .u64 150]] = bind (ReflectliteValue.parts (.agg #[.pointer (some ⟨8, 58, none⟩), .pointer (some a), .int .u64 150])) (fun q => _) from rfl]
  simp only [Sem.run_bind, asPartsPP, Result.andThen]
  simp [ReflectliteValue.isNil, loadVar, isAgg, underlying, Tryz.underlying58, ha, Result.andThen]
theorem asMethodElem (h : Value) (w : World) : (Go.method 357 128 (.agg #[h]) "Elem").run Tryz.prog w = .ok (176, .agg #[h]) w := by kernel_rfl
theorem asMethodImplements (h : Value) (w : World) : (Go.method 357 128 (.agg #[h]) "Implements").run Tryz.prog w = .ok (177, .agg #[h]) w := by kernel_rfl
theorem asMethodAssignableTo (h : Value) (w : World) : (Go.method 357 128 (.agg #[h]) "AssignableTo").run Tryz.prog w = .ok (174, .agg #[h]) w := by kernel_rfl
theorem asElem (w : World) : (ReflectliteType.method ReflectliteType.elem #[.agg #[.pointer (some ⟨8, 58, none⟩)]]).run Tryz.prog w = .ok (.iface 128 (.agg #[.pointer (some ⟨8, 56, none⟩)])) w := by kernel_rfl
theorem asImplements (w : World) : (ReflectliteType.relation "Implements" ReflectliteType.implements_ #[.agg #[.pointer (some ⟨8, 56, none⟩)], .iface 128 (.agg #[.pointer (some ⟨8, 53, none⟩)])]).run Tryz.prog w = .ok (.bool true) w := by kernel_rfl
theorem asTypeOf (v : Value) (w : World) : (ReflectliteType.typeOf #[.iface 56 v]).run Tryz.prog w = .ok (.iface 128 (.agg #[.pointer (some ⟨8, 56, none⟩)])) w := by kernel_rfl
theorem asAssignable (w : World) : (ReflectliteType.relation "AssignableTo" ReflectliteType.assignableTo #[.agg #[.pointer (some ⟨8, 56, none⟩)], .iface 128 (.agg #[.pointer (some ⟨8, 56, none⟩)])]).run Tryz.prog w = .ok (.bool true) w := by kernel_rfl
theorem asValueOfP (e : Addr) (w : World) : (ReflectliteValue.unpack (.iface 56 (.pointer (some e)))).run Tryz.prog w
    = .ok (.agg #[.pointer (some ⟨8, 56, none⟩), .pointer (some ⟨w.heap.size, 0, none⟩), .int .u64 150]) (w.alloc (.cells #[.pointer (some e)] 56)) := by kernel_rfl
theorem asElemOf (w : World) : (Rtype.elem? 58).run Tryz.prog w = .ok (some 56) w := by kernel_rfl
theorem asMk (p : Addr) (w : World) : (ReflectliteValue.mk 56 p ReflectliteValue.flagAddr).run Tryz.prog w = .ok (.agg #[.pointer (some ⟨8, 56, none⟩), .pointer (some p), .int .u64 406]) w := by kernel_rfl
theorem asElemV (a p : Addr) (W : World) (ha : W.cell? a = some (.pointer (some p))) :
    (ReflectliteValue.method (ReflectliteValue.valueError "reflectlite.Value.Elem" 0) ReflectliteValue.elem #[.agg #[.pointer (some ⟨8, 58, none⟩), .pointer (some a), .int .u64 150]]).run Tryz.prog W
      = .ok (.agg #[.pointer (some ⟨8, 56, none⟩), .pointer (some p), .int .u64 406]) W := by
  rw [show ReflectliteValue.method (ReflectliteValue.valueError "reflectlite.Value.Elem" 0) ReflectliteValue.elem #[.agg #[.pointer (some ⟨8, 58, none⟩), .pointer (some a), .int .u64 150]] = bind (ReflectliteValue.parts (.agg #[.pointer (some ⟨8, 58, none⟩), .pointer (some a), .int .u64 150])) (fun q => _) from rfl]
  simp only [Sem.run_bind, asPartsPP, Result.andThen]
  simp [ReflectliteValue.elem, loadVar, isAgg, underlying, Tryz.underlying58, ha, Result.andThen, asElemOf, asMk]
theorem asPartsA (a : Addr) (w : World) : (ReflectliteValue.parts (.agg #[.pointer (some ⟨8, 56, none⟩), .pointer (some a), .int .u64 406])).run Tryz.prog w = .ok (some (56, a, 406)) w := by kernel_rfl
theorem asPartsP (a : Addr) (w : World) : (ReflectliteValue.parts (.agg #[.pointer (some ⟨8, 56, none⟩), .pointer (some a), .int .u64 150])).run Tryz.prog w = .ok (some (56, a, 150)) w := by kernel_rfl
theorem asDirect (w : World) : (Rtype.directlyAssignable 56 56).run Tryz.prog w = .ok true w := by kernel_rfl
theorem asSet (ta b e : Addr) (old : Value) (W : World) (hb : W.cell? b = some (.pointer (some e))) (ht : W.cell? ta = some old) (hf : W.frozen? ta = false) :
    (ReflectliteValue.set #[.agg #[.pointer (some ⟨8, 56, none⟩), .pointer (some ta), .int .u64 406], .agg #[.pointer (some ⟨8, 56, none⟩), .pointer (some b), .int .u64 150]]).run Tryz.prog W
      = .ok (.tuple #[]) (W.setCell ta (.pointer (some e))) := by
  rw [show ReflectliteValue.set #[.agg #[.pointer (some ⟨8, 56, none⟩), .pointer (some ta), .int .u64 406], .agg #[.pointer (some ⟨8, 56, none⟩), .pointer (some b), .int .u64 150]] = bind (ReflectliteValue.parts (.agg #[.pointer (some ⟨8, 56, none⟩), .pointer (some ta), .int .u64 406])) (fun p => bind (ReflectliteValue.parts (.agg #[.pointer (some ⟨8, 56, none⟩), .pointer (some b), .int .u64 150])) (fun q => _)) from rfl]
  simp only [Sem.run_bind, asPartsA, asPartsP, Result.andThen]
  simp [ReflectliteValue.flagAddr, loadVar, isAgg, underlying, Tryz.underlying56, hb, Result.andThen, asDirect, storeVar, Value.cells, storeCells, Addr.add]
  rw [run_store Tryz.prog W ta _ _ (by rfl)]
  simp [ht, hf]

end Go.Proofs.YtcmkjdpmlmmjcaaGreatDoor

namespace Go.Proofs.YtcmkjdpmlmmjcaaGreatDoor
open Go.RowKit Go.Extern.Stop Go.Stop Go.Extern

set_option maxHeartbeats 4000000 in
theorem as_hit (e t : Addr) (old : Value) (w : World) (hg : w.cell? ⟨0, 0, none⟩ = some (.iface 128 (.agg #[.pointer (some ⟨8, 53, none⟩)]))) (ht0 : w.cell? t = some old) (hf0 : w.frozen? t = false) :
    Calls Tryz.prog 23 #[.iface 56 (.pointer (some e)), .iface 58 (.pointer (some t))] w fun ev w' => ev = .returned (.bool true) ∧ w' = ((((w.alloc (.cells #[.pointer (some t)] 58)).alloc (.cells #[.pointer (some ⟨8, 58, none⟩), .pointer (some ⟨w.heap.size, 0, none⟩), .int .u64 150] 93)).alloc (.cells #[.pointer (some ⟨8, 58, none⟩), .pointer (some ⟨w.heap.size, 0, none⟩), .int .u64 150] 93)).alloc (.cells #[.pointer (some e)] 56)).setCell t (.pointer (some e)) := by
  have h6 := @run_callFunc_extern Tryz.prog 36 _ (fun args => ReflectliteValue.unpack (args.getD 0 (.tuple #[]))) Tryz.func36 (by kernel_rfl) (by kernel_rfl) (by kernel_rfl) (by kernel_rfl)
  have h7 := @run_callFunc_extern Tryz.prog 37 _ (ReflectliteValue.methodAny (ReflectliteValue.valueError "reflectlite.Value.Type" 0) (fun t _ _ _ => ReflectliteType.toType t)) Tryz.func37 (by kernel_rfl) (by kernel_rfl) (by kernel_rfl) (by kernel_rfl)
  have h8 := @run_callFunc_extern Tryz.prog 38 _ (ReflectliteValue.method (ReflectliteValue.valueError "reflectlite.Value.IsNil" 0) ReflectliteValue.isNil) Tryz.func38 (by kernel_rfl) (by kernel_rfl) (by kernel_rfl) (by kernel_rfl)
  have h27 := @run_callFunc_extern Tryz.prog 166 _ (ReflectliteType.abiMethod fun t => do pure (.int .u8 (← Rtype.kind t))) Tryz.func166 (by kernel_rfl) (by kernel_rfl) (by kernel_rfl) (by kernel_rfl)
  have h37 := @run_callFunc_extern Tryz.prog 176 _ (ReflectliteType.method ReflectliteType.elem) Tryz.func176 (by kernel_rfl) (by kernel_rfl) (by kernel_rfl) (by kernel_rfl)
  have h38 := @run_callFunc_extern Tryz.prog 177 _ (ReflectliteType.relation "Implements" ReflectliteType.implements_) Tryz.func177 (by kernel_rfl) (by kernel_rfl) (by kernel_rfl) (by kernel_rfl)
  have h10 := @run_callFunc_extern Tryz.prog 57 _ (ReflectliteType.typeOf) Tryz.func57 (by kernel_rfl) (by kernel_rfl) (by kernel_rfl) (by kernel_rfl)
  have h35 := @run_callFunc_extern Tryz.prog 174 _ (ReflectliteType.relation "AssignableTo" ReflectliteType.assignableTo) Tryz.func174 (by kernel_rfl) (by kernel_rfl) (by kernel_rfl) (by kernel_rfl)
  have h11 := @run_callFunc_extern Tryz.prog 58 _ (ReflectliteValue.method (ReflectliteValue.valueError "reflectlite.Value.Elem" 0) ReflectliteValue.elem) Tryz.func58 (by kernel_rfl) (by kernel_rfl) (by kernel_rfl) (by kernel_rfl)
  have h12 := @run_callFunc_extern Tryz.prog 59 _ (ReflectliteValue.set) Tryz.func59 (by kernel_rfl) (by kernel_rfl) (by kernel_rfl) (by kernel_rfl)
  have tO := asTypeOf
  have mA := asMethodAssignableTo
  have a25 := asAssignable
  have v25 := asValueOfP
  have f6 := asValueOfPP
  have f7 := asTypePP
  have mK := asMethodKind
  have mE := asMethodElem
  have mI := asMethodImplements
  have k27 := asKindPP
  have k25 := asKindP
  have e27 := asElem
  have i25 := asImplements
  have n8 := asIsNil ⟨w.heap.size, 0, none⟩ t ((w.alloc (.cells #[.pointer (some t)] 58)).alloc (.cells #[.pointer (some ⟨8, 58, none⟩), .pointer (some ⟨w.heap.size, 0, none⟩), .int .u64 150] 93)) (by simp)
  have hlt : 0 < w.heap.size := World.block_lt_of_cell? w _ hg
  have hg2 : ((w.alloc (.cells #[.pointer (some t)] 58)).alloc (.cells #[.pointer (some ⟨8, 58, none⟩), .pointer (some ⟨w.heap.size, 0, none⟩), .int .u64 150] 93)).cell? ⟨0, 0, none⟩ = some (.iface 128 (.agg #[.pointer (some ⟨8, 53, none⟩)])) := by
    rw [World.cell?_alloc_lt _ _ ⟨0, 0, none⟩ (by simp), World.cell?_alloc_lt _ _ ⟨0, 0, none⟩ hlt]; exact hg
  have htl : t.block < w.heap.size := World.block_lt_of_cell? w _ ht0
  have el := asElemV ⟨w.heap.size, 0, none⟩ t (((w.alloc (.cells #[.pointer (some t)] 58)).alloc (.cells #[.pointer (some ⟨8, 58, none⟩), .pointer (some ⟨w.heap.size, 0, none⟩), .int .u64 150] 93)).alloc (.cells #[.pointer (some ⟨8, 58, none⟩), .pointer (some ⟨w.heap.size, 0, none⟩), .int .u64 150] 93)) (by rw [World.cell?_alloc_lt _ _ ⟨w.heap.size, 0, none⟩ (by simp; omega)]; simp)
  have st := asSet t ⟨w.heap.size + 1 + 1 + 1, 0, none⟩ e old ((((w.alloc (.cells #[.pointer (some t)] 58)).alloc (.cells #[.pointer (some ⟨8, 58, none⟩), .pointer (some ⟨w.heap.size, 0, none⟩), .int .u64 150] 93)).alloc (.cells #[.pointer (some ⟨8, 58, none⟩), .pointer (some ⟨w.heap.size, 0, none⟩), .int .u64 150] 93)).alloc (.cells #[.pointer (some e)] 56))
    (by rw [World.cell?_alloc_at _ _ _ _ (by simp)]; rfl)
    (by rw [World.cell?_alloc_lt _ _ t (by simp; omega), World.cell?_alloc_lt _ _ t (by simp; omega), World.cell?_alloc_lt _ _ t (by simp; omega), World.cell?_alloc_lt _ _ t htl]; exact ht0)
    (by rw [World.frozen?_alloc_old _ _ t (by simp; omega), World.frozen?_alloc_old _ _ t (by simp; omega), World.frozen?_alloc_old _ _ t (by simp; omega), World.frozen?_alloc_old _ _ t (Nat.ne_of_lt htl)]; exact hf0)
  go_enter Tryz.func23, Tryz.ntmps23
  go_wp2
  refine wp_loop_rounds 1 ?_
  rw [rounds_succ]
  go_wp2
  go_ret
  exact ⟨rfl, rfl⟩

end Go.Proofs.YtcmkjdpmlmmjcaaGreatDoor

namespace Go.Proofs.YtcmkjdpmlmmjcaaGreatDoor
open Go.RowKit

/-- The variable errors.errorType, as it is laid. -/
def ErrT (w : World) : Prop := w.cell? ⟨0, 0, none⟩ = some (.iface 128 (.agg #[.pointer (some ⟨8, 53, none⟩)]))

theorem ErrT.keep {w w' : World} {X : Nat → Prop} (h : ErrT w) (hf : Fr X w w') (hx : ¬ X 0) : ErrT w' :=
  (hf.cell (a := ⟨0, 0, none⟩) (World.block_lt_of_cell? w _ h) hx).trans h

theorem checkP_ok {s : ByteArray} (h : (checkP s).1 = 0) : checkP s = (0, 0) := by
  unfold checkP at h ⊢
  split at h
  · cases h
  · split at h
    · cases h
    · split at h
      · cases h
      · split at h
        · cases h
        · rw [if_neg (by assumption), if_neg (by assumption)]

theorem as_set (e : Addr) (tb : Nat) (w : World) (hg : ErrT w) (ht : w.heap[tb]? = some (.cells #[.pointer none] 56 (0, 0))) :
    Calls Tryz.prog 23 #[.iface 56 (.pointer (some e)), .iface 58 (.pointer (some ⟨tb, 0, none⟩))] w fun ev w' => ev = .returned (.bool true) ∧ Fr (One tb) w w' ∧ w'.heap[tb]? = some (.cells #[.pointer (some e)] 56 (0, 0)) := by
  refine (as_hit e ⟨tb, 0, none⟩ (.pointer none) w hg (by rw [cell_of_heap ht]; rfl) (free_of_heap ht)).mono ?_
  rintro ev w' ⟨rfl, rfl⟩
  have hF : Fr (One tb) w ((((w.alloc (.cells #[.pointer (some ⟨tb, 0, none⟩)] 58)).alloc (.cells #[.pointer (some ⟨8, 58, none⟩), .pointer (some ⟨w.heap.size, 0, none⟩), .int .u64 150] 93)).alloc (.cells #[.pointer (some ⟨8, 58, none⟩), .pointer (some ⟨w.heap.size, 0, none⟩), .int .u64 150] 93)).alloc (.cells #[.pointer (some e)] 56)) :=
    (Fr.alloc _ _ _).trans ((Fr.alloc _ _ _).trans ((Fr.alloc _ _ _).trans (Fr.alloc _ _ _)))
  have h0 : Fr Zero w ((((w.alloc (.cells #[.pointer (some ⟨tb, 0, none⟩)] 58)).alloc (.cells #[.pointer (some ⟨8, 58, none⟩), .pointer (some ⟨w.heap.size, 0, none⟩), .int .u64 150] 93)).alloc (.cells #[.pointer (some ⟨8, 58, none⟩), .pointer (some ⟨w.heap.size, 0, none⟩), .int .u64 150] 93)).alloc (.cells #[.pointer (some e)] 56)) :=
    (Fr.alloc _ _ _).trans ((Fr.alloc _ _ _).trans ((Fr.alloc _ _ _).trans (Fr.alloc _ _ _)))
  refine ⟨rfl, hF.trans (Fr.setCell (One tb) _ ⟨tb, 0, none⟩ _ rfl), ?_⟩
  rw [heap_setCell_same (h0.keep ht (fun h => h))]
  rfl

theorem parse_any (s : ByteArray) (w : World) (hw : Words w) (hs : s.size ≤ maxLen) : Calls Tryz.prog 22 #[.string s] w fun e w' => ParsePost w s e w' := by
  by_cases h : 400 < s.size
  · exact parse_long s w h hs
  · exact parse_short s w (by omega) hw

set_option maxHeartbeats 4000000 in
theorem sparse_any (s : ByteArray) (w : World) (hw : Words w) (het : ErrT w) (hs : s.size ≤ maxLen) :
    Calls Tryz.prog 12 #[.string s] w fun e w' => Fr Zero w w' ∧ ∃ a : Option Addr, e = .returned (.tuple #[.pointer a, .int .i64 (checkP s).1, .int .i64 (checkP s).2]) ∧ (checkP s = (0, 0) → ∃ a', a = some a' ∧ TR w' Zero a' (typeP s)) := by
  have HW := hide hw
  have HE := hide het
  clear hw het
  go_enter Tryz.func12, Tryz.ntmps12
  go_wp2_with fail
  refine (parse_any s _ HW hs).mono ?_
  rintro e w1 ⟨hF, hok, hno⟩
  have HF := hide hF
  by_cases hz : (checkP s).1 = 0
  · have hc := checkP_ok hz
    obtain ⟨a, rfl, ht⟩ := hok hc
    have HC := hide hc
    have HTR := hide ht
    clear hF hok hno hz hc ht
    go_wp2_with fail
    refine (as_nil _ _).mono ?_
    rintro e w2 ⟨rfl, rfl⟩
    go_wp2_with fail
    go_ret3
    rw [HC.out]
    exact ⟨HF.out.trans (Fr.alloc _ _ _), some a, rfl, fun _ => ⟨a, rfl, HTR.out.keep (Fr.alloc _ _ _)⟩⟩
  · obtain ⟨b, rfl, hb⟩ := hno (checkP s).1 (checkP s).2 rfl hz
    have hbl := lt_of_heap hb
    have HET := hide ((HE.out.keep hF (fun h => h)).keep (Fr.alloc Zero w1 (.cells #[.pointer none] 56)) (fun h => h))
    have q0 : w1.cell? ⟨b, 0, none⟩ = some (.int .i64 (checkP s).1) := by rw [cell_of_heap hb]; rfl
    have q1 : w1.cell? ⟨b, 1, none⟩ = some (.int .i64 (checkP s).2) := by rw [cell_of_heap hb]; rfl
    have HZ := hide hz
    clear hF hok hno hz hb
    have HC1 : Hid (∃ c, c = (checkP s).1) := ⟨_, rfl⟩
    generalize hc1 : (checkP s).1 = c1 at *
    generalize hc2 : (checkP s).2 = c2 at *
    have HC1 := hide hc1
    have HC2 := hide hc2
    clear hc1 hc2
    go_wp2_with fail
    refine (as_set ⟨b, 0, none⟩ w1.heap.size _ HET (heap_new_at rfl _)).mono ?_
    rintro e w2 ⟨rfl, hF2, ht2⟩
    have hbn : ¬ One w1.heap.size b := fun e => by have e' : b = w1.heap.size := e; omega
    have hF3 := (Fr.alloc (One w1.heap.size) w1 (.cells #[.pointer none] 56)).trans hF2
    have p0 : w2.cell? ⟨b, 0, none⟩ = some (.int .i64 c1) := (hF3.cell (a := ⟨b, 0, none⟩) hbl hbn).trans q0
    have p1 : w2.cell? ⟨b, 1, none⟩ = some (.int .i64 c2) := (hF3.cell (a := ⟨b, 1, none⟩) hbl hbn).trans q1
    have p2 : w2.cell? ⟨w1.heap.size, 0, none⟩ = some (.pointer (some ⟨b, 0, none⟩)) := by rw [cell_of_heap ht2]; rfl
    have HF3 : Hid (Fr Zero w w2) := HF.out.past (hF3.mono (fun k _ e => by have e' : k = w1.heap.size := e; have := HF.out.size; omega))
    clear hF2 ht2 hbn hF3 q0 q1 hbl
    go_wp2_with fail
    go_quiet (fail)
    go_wp2_with fail
    go_ret3
    rw [HC1.out, HC2.out]
    refine ⟨HF3.out.trans (Fr.drewN _ _ _), none, rfl, fun h => ?_⟩
    have h1 : (checkP s).1 = 0 := by rw [h]
    exact absurd (HC1.out.symm.trans h1) HZ

theorem check_any (s : ByteArray) (w : World) (hw : Words w) (het : ErrT w) (hs : s.size ≤ maxLen) :
    Calls Tryz.prog 5 #[.string s] w fun e w' => Fr Zero w w' ∧ e = .returned (.tuple #[.int .i64 (checkP s).1, .int .i64 (checkP s).2]) := by
  have HW := hide hw
  have HE := hide het
  clear hw het
  go_enter Tryz.func5, Tryz.ntmps5
  go_wp2_with fail
  refine (sparse_any s _ HW HE hs).mono ?_
  rintro e w1 ⟨hF, a, rfl, _⟩
  have HF := hide hF
  clear hF
  go_wp2_with fail
  go_ret2
  exact ⟨HF, rfl⟩

end Go.Proofs.YtcmkjdpmlmmjcaaGreatDoor
