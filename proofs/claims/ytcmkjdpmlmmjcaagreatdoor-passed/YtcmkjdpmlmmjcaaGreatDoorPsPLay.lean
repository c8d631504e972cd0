/- How the library's Itoa and Index lie in this program. -/
import Derived.Test.YtcmkjdpmlmmjcaaGreatDoorRows
import Derived.ProofKit
import Derived.LaidMore
import Derived.OpenShut
import Derived.LaidLaws
import Derived.LaidHandle
import Derived.LaidSub
import Derived.Lay
import Derived.Leaving
import Derived.Conc.Holds
import Derived.SizedLaws
import Derived.Lib.LaidTab
import Derived.Stop.Joined
import Derived.Shelf.LaysM
import Derived.Shelf.Strconv.Itoa3
import Derived.Shelf.Strings.Search1
import Derived.Shelf.Strings.Search2
import Derived.Shelf.Strings.Search3
import Derived.Test.YtcmkjdpmlmmjcaaGreatDoorProg
import Derived.Test.YtcmkjdpmlmmjcaaGreatDoorPsVInt
import Derived.Test.YtcmkjdpmlmmjcaaGreatDoorPsCheck
section
namespace Go.Proofs.YtcmkjdpmlmmjcaaGreatDoor
open Go.ChangeShapes Go.WideShapes Go.ChangeAt Go.WideMaps Go.WideElems Go.RowKit
open Go.ChangeMaps (open_string shut_string)

theorem lOwn : ownKnob Tryz.prog.godebug = none := by kernel_rfl
theorem lEt : Tryz.prog.globalNamed "errors.errorType" = some 0 := by kernel_rfl
theorem lRt : (Tryz.prog.cutTypes.find? (·.1 == "internal/reflectlite.rtype")).map (·.2) = some 128 := by kernel_rfl
theorem lSize : Tryz.prog.types.size = 257 := by kernel_rfl
theorem lOneRow : ((List.range 257).filter fun t => Tryz.prog.rowNamed t [101, 114, 114, 111, 114]) = [53] := by kernel_rfl
theorem lGw : Tryz.prog.globalNamed "sluice/describe.words" = some 1 := by kernel_rfl
theorem lTw : (Tryz.prog.globals[1]?).map (·.type) = some 206 := by kernel_rfl
theorem lC9 : Tryz.prog.cellsOf 9 = 1 := by kernel_rfl
theorem lTp : (Tryz.prog.globals[5]?).map (·.type) = some 223 := by kernel_rfl
theorem lCp : Tryz.prog.cellsOf 223 = 20 := by kernel_rfl
theorem lCu : Tryz.prog.cellsOf 181 = 1 := by kernel_rfl
theorem lPow : Rows.laid_internal_strconv_uint64pow10 = (Lib.tabData .u64 Lib.pow10Tab : DataW Unit) := by kernel_rfl

theorem errT_of {W : World} (h : handlesMet Tryz.prog [("errors.errorType", Rows.laid_errors_errorType)] W) : ErrT W := by
  obtain ⟨name, u, ty, e1, e2, e3, e4, e5⟩ := h _ (List.mem_singleton.2 rfl)
  have en : name = [101, 114, 114, 111, 114] := (Option.some.inj e1).symm
  subst en
  obtain rfl := Option.some.inj (lRt.symm.trans e2)
  have hm : ty ∈ (List.range 257).filter fun t => Tryz.prog.rowNamed t [101, 114, 114, 111, 114] := List.mem_filter.2 ⟨List.mem_range.2 (by rw [← lSize]; exact e3), e4⟩
  rw [lOneRow] at hm
  obtain rfl := List.mem_singleton.1 hm
  have hh : typeHandle Tryz.prog 53 = .pointer (some ⟨8, 53, none⟩) := by kernel_rfl
  rw [hh] at e5
  unfold ErrT
  simpa using World.var?_cell lEt e5 0

theorem wdL : ∀ i, i < 7 → (wd i).data.toList = ([[98, 121, 116, 101], [115, 104, 111, 114, 116], [119, 111, 114, 100], [105, 110, 116], [98, 111, 111, 108], [116, 101, 120, 116], [98, 121, 116, 101, 115]] : List (List UInt8))[i]?.getD [] := by decide +kernel

theorem words_of {W : World} (h : laidMet Tryz.prog [("sluice/describe.words", Rows.laid_sluice_describe_words)] W) : Words W := by
  obtain ⟨ps, ⟨g0, t0, cs0, f0, p0, q0, hg0, ht0, hv0, hd0, _⟩, _, _⟩ := h
  obtain rfl := Option.some.inj (lGw.symm.trans hg0)
  obtain rfl := Option.some.inj (lTw.symm.trans ht0)
  obtain ⟨xs, m1, rfl, hx1, hlen, hn7, hel⟩ := DataW.trod_array Tryz.underlying206 hd0
  simp only [Prod.mk.injEq] at hx1
  intro i hi
  obtain ⟨y, hy⟩ : ∃ y, xs[i]? = some y := ⟨xs[i]'(by omega), by simp⟩
  have hi' := hel i hi
  rw [hy, lC9] at hi'
  obtain ⟨str, e1, e2, _⟩ := DataW.trod_string Tryz.underlying9 hi'
  have hm := congrArg (fun l => match l with | DataW.agg z => z[i]? | _ => none) hx1.1
  simp only [List.getElem?_map, hy, Option.map_some, e2] at hm
  have hstr : str = wd i := by
    apply Go.WideShapes.bytes_inj
    rw [wdL i hi]
    match i, hi with
    | 0, _ => simpa [Rows.laid_sluice_describe_words] using hm.symm
    | 1, _ => simpa [Rows.laid_sluice_describe_words] using hm.symm
    | 2, _ => simpa [Rows.laid_sluice_describe_words] using hm.symm
    | 3, _ => simpa [Rows.laid_sluice_describe_words] using hm.symm
    | 4, _ => simpa [Rows.laid_sluice_describe_words] using hm.symm
    | 5, _ => simpa [Rows.laid_sluice_describe_words] using hm.symm
    | 6, _ => simpa [Rows.laid_sluice_describe_words] using hm.symm
  have hv := World.var?_cell hg0 hv0 i
  rw [hv]
  have hget : cs0.toList[i]? = some (.string str) := by
    have := congrArg (fun l => l[0]?) e1
    simp only [Nat.mul_one] at this
    rw [List.getElem?_take_of_lt (by omega), List.getElem?_drop] at this
    simpa using this
  rw [← hstr]
  simpa using hget

theorem pow_of {W : World} (h : laidMet Tryz.prog [("internal/strconv.uint64pow10", Rows.laid_internal_strconv_uint64pow10)] W) : PowT W := by
  rw [lPow] at h
  exact Lib.tabIs_of_head gPow lTp Tryz.underlying223 Tryz.underlying181 lCu lCp h

/-- The rows' list of variables. -/
def laidL : List (String × DataW Unit) := [("math/bits.deBruijn32tab", Rows.laid_math_bits_deBruijn32tab), ("math/bits.deBruijn64tab", Rows.laid_math_bits_deBruijn64tab), ("internal/strconv.uint64pow10", Rows.laid_internal_strconv_uint64pow10), ("unicode/utf8.acceptRanges", Rows.laid_unicode_utf8_acceptRanges), ("errors.errorType", Rows.laid_errors_errorType), ("sluice/describe.words", Rows.laid_sluice_describe_words), ("unicode/utf8.first", Rows.laid_unicode_utf8_first)]

theorem fWords : (laidL.filter fun x => x.2.handleName?.isNone).filter (fun x => x.1 == "sluice/describe.words") = [("sluice/describe.words", Rows.laid_sluice_describe_words)] := by kernel_rfl
theorem fPow : (laidL.filter fun x => x.2.handleName?.isNone).filter (fun x => x.1 == "internal/strconv.uint64pow10") = [("internal/strconv.uint64pow10", Rows.laid_internal_strconv_uint64pow10)] := by kernel_rfl
theorem fErr : laidL.filter (fun x => x.2.handleName?.isSome) = [("errors.errorType", Rows.laid_errors_errorType)] := by kernel_rfl

theorem laid_all {W : World} (h : laidMetH Tryz.prog laidL W) : Words W ∧ ErrT W ∧ PowT W := by
  obtain ⟨h1, h2⟩ := laidMetH_iff.1 h
  have hw := h1.filter (fun x => x.1 == "sluice/describe.words")
  have hp := h1.filter (fun x => x.1 == "internal/strconv.uint64pow10")
  rw [fWords] at hw
  rw [fPow] at hp
  rw [fErr] at h2
  exact ⟨words_of hw, errT_of h2, pow_of hp⟩

/-- The start that fits: the door's run, and the tables laid. -/
def greatL : List String := ["math/bits.deBruijn32tab", "math/bits.deBruijn64tab", "internal/strconv.uint64pow10", "unicode/utf8.acceptRanges", "sluice/describe.words", "unicode/utf8.first"]
noncomputable def witW (os : Os) : World := (World.doorLaid Tryz.prog 400 os).layVars Tryz.prog ((laidL.filter fun x => x.2.handleName?.isNone).filter fun x => greatL.contains x.1)

theorem wit_heap (args : Array Value) (w : World) : (w.forCall (fun _ _ => 0) ⟨#[], args, []⟩).memory.heap = w.heap := rfl

set_option maxRecDepth 100000 in
theorem wit_met (os : Os) (args : Array Value) : laidMetH Tryz.prog laidL ((witW os).forCall (fun _ _ => 0) ⟨#[], args, []⟩).memory :=
  laidMetH_of_parts (laidMet_layVars (w0 := World.doorLaid Tryz.prog 400 os) greatL [] (wit_heap args (witW os)) (by kernel_rfl) (by kernel_rfl) (by
    rw [show ((laidL.filter fun x => x.2.handleName?.isNone).filter fun x => !greatL.contains x.1) = [] by kernel_rfl]
    exact LaidIn.none)) (by kernel_rfl)

end Go.Proofs.YtcmkjdpmlmmjcaaGreatDoor
end
section
namespace Go.Proofs.YtcmkjdpmlmmjcaaGreatDoor

theorem and_t {a b : Bool} (h1 : a = true) (h2 : b = true) : (a && b) = true := by rw [h1, h2]; rfl
theorem pLaidOut : laidOutB Tryz.checked.prog = true := by kernel_rfl
theorem pMapsRowed : mapsRowed Tryz.checked.prog = true := by kernel_rfl
theorem pStopsHeard : Tryz.checked.prog.stopsHeard = true := by kernel_rfl
theorem pMayEnter : Tryz.checked.prog.mayEnter = true := by kernel_rfl

end Go.Proofs.YtcmkjdpmlmmjcaaGreatDoor
end
section
namespace Go.Proofs.YtcmkjdpmlmmjcaaGreatDoor
open Go.Shelf
def laysM171_ren : Go.Shelf.Ren := ⟨fun | 171 => 115 | 243 => 129 | 246 => 138 | 283 => 139 | 284 => 140 | 285 => 141 | 286 => 142 | 129 => 146 | 317 => 145 | 318 => 147 | 319 => 148 | 320 => 149 | 337 => 150 | 338 => 151 | n => n, fun | 3 => 3 | 9 => 9 | 2 => 2 | 4 => 4 | 171 => 214 | 0 => 0 | 53 => 181 | 37 => 61 | 5 => 5 | 173 => 217 | 212 => 223 | 51 => 219 | 20 => 20 | 213 => 224 | 46 => 141 | 232 => 228 | 233 => 229 | n => n, fun | 17 => 5 | 18 => 6 | 19 => 7 | n => n⟩
theorem laysM171 : Go.Proofs.LaysM.n171 Tryz.prog laysM171_ren := {
  mixed := by kernel_rfl
  f129 := Tryz.func146.trans (congrArg some (by kernel_rfl))
  f171 := Tryz.func115.trans (congrArg some (by kernel_rfl))
  f243 := Tryz.func129.trans (congrArg some (by kernel_rfl))
  f246 := Tryz.func138.trans (congrArg some (by kernel_rfl))
  f283 := Tryz.func139.trans (congrArg some (by kernel_rfl))
  f284 := Tryz.func140.trans (congrArg some (by kernel_rfl))
  f285 := Tryz.func141.trans (congrArg some (by kernel_rfl))
  f286 := Tryz.func142.trans (congrArg some (by kernel_rfl))
  f317 := Tryz.func145.trans (congrArg some (by kernel_rfl))
  f318 := Tryz.func147.trans (congrArg some (by kernel_rfl))
  f319 := Tryz.func148.trans (congrArg some (by kernel_rfl))
  f320 := Tryz.func149.trans (congrArg some (by kernel_rfl))
  f337 := Tryz.func150.trans (congrArg some (by kernel_rfl))
  f338 := Tryz.func151.trans (congrArg some (by kernel_rfl))
  t0 := Tryz.underlying0
  a0 := Tryz.isAgg0
  z0 := Tryz.sizeOf0
  v0 := Tryz.zeroValue0
  t2 := Tryz.underlying2
  a2 := Tryz.isAgg2
  z2 := Tryz.sizeOf2
  v2 := Tryz.zeroValue2
  t3 := Tryz.underlying3
  a3 := Tryz.isAgg3
  z3 := Tryz.sizeOf3
  v3 := Tryz.zeroValue3
  t4 := Tryz.underlying4
  a4 := Tryz.isAgg4
  z4 := Tryz.sizeOf4
  v4 := Tryz.zeroValue4
  t5 := Tryz.underlying5
  a5 := Tryz.isAgg5
  z5 := Tryz.sizeOf5
  v5 := Tryz.zeroValue5
  t9 := Tryz.underlying9
  a9 := Tryz.isAgg9
  z9 := Tryz.sizeOf9
  v9 := Tryz.zeroValue9
  t20 := Tryz.underlying20
  a20 := Tryz.isAgg20
  z20 := Tryz.sizeOf20
  v20 := Tryz.zeroValue20
  t37 := Tryz.underlying61
  a37 := Tryz.isAgg61
  z37 := Tryz.sizeOf61
  v37 := Tryz.zeroValue61
  t46 := Tryz.underlying141
  a46 := Tryz.isAgg141
  z46 := Tryz.sizeOf141
  v46 := Tryz.zeroValue141
  t51 := Tryz.underlying219
  a51 := Tryz.isAgg219
  z51 := Tryz.sizeOf219
  v51 := Tryz.zeroValue219
  t53 := Tryz.underlying181
  a53 := Tryz.isAgg181
  z53 := Tryz.sizeOf181
  v53 := Tryz.zeroValue181
  t171 := Tryz.underlying214
  a171 := Tryz.isAgg214
  z171 := Tryz.sizeOf214
  v171 := Tryz.zeroValue214
  t173 := Tryz.underlying217
  a173 := Tryz.isAgg217
  z173 := Tryz.sizeOf217
  v173 := Tryz.zeroValue217
  t212 := Tryz.underlying223
  a212 := Tryz.isAgg223
  z212 := Tryz.sizeOf223
  v212 := Tryz.zeroValue223
  t213 := Tryz.underlying224
  a213 := Tryz.isAgg224
  z213 := Tryz.sizeOf224
  t232 := Tryz.underlying228
  a232 := Tryz.isAgg228
  z232 := Tryz.sizeOf228
  v232 := Tryz.zeroValue228
  t233 := Tryz.underlying229
  a233 := Tryz.isAgg229
  z233 := Tryz.sizeOf229
  v233 := Tryz.zeroValue229
  g17 := by kernel_rfl
  g18 := by kernel_rfl
  g19 := by kernel_rfl
  i0 := by kernel_rfl
  i2 := by kernel_rfl
  i3 := by kernel_rfl
  i4 := by kernel_rfl
  i5 := by kernel_rfl
  i9 := by kernel_rfl
  i20 := by kernel_rfl
  i37 := by kernel_rfl
  i46 := by kernel_rfl
  i51 := by kernel_rfl
  i53 := by kernel_rfl
  i171 := by kernel_rfl
  i173 := by kernel_rfl
  i212 := by kernel_rfl
  i232 := by kernel_rfl
  i233 := by kernel_rfl
  m17 := by kernel_rfl
  m18 := by kernel_rfl
  m19 := by kernel_rfl }
def lays143_ren : Go.Shelf.Ren := ⟨fun | 143 => 114 | 219 => 128 | 217 => 134 | 225 => 135 | 224 => 136 | 267 => 137 | 266 => 143 | 314 => 144 | n => n, fun | 9 => 9 | 3 => 3 | 4 => 4 | 5 => 5 | 46 => 141 | 146 => 220 | 51 => 219 | n => n, fun | 1 => 4 | n => n⟩
theorem lays143 : Go.Proofs.Lays.n143 Tryz.prog lays143_ren := {
  mixed := by kernel_rfl
  f143 := Tryz.func114.trans (congrArg some (by kernel_rfl))
  f217 := Tryz.func134.trans (congrArg some (by kernel_rfl))
  f219 := Tryz.func128.trans (congrArg some (by kernel_rfl))
  f224 := Tryz.func136.trans (congrArg some (by kernel_rfl))
  f225 := Tryz.func135.trans (congrArg some (by kernel_rfl))
  f266 := Tryz.func143.trans (congrArg some (by kernel_rfl))
  f267 := Tryz.func137.trans (congrArg some (by kernel_rfl))
  f314 := Tryz.func144.trans (congrArg some (by kernel_rfl))
  t3 := Tryz.underlying3
  a3 := Tryz.isAgg3
  z3 := Tryz.sizeOf3
  v3 := Tryz.zeroValue3
  t4 := Tryz.underlying4
  a4 := Tryz.isAgg4
  z4 := Tryz.sizeOf4
  v4 := Tryz.zeroValue4
  t5 := Tryz.underlying5
  a5 := Tryz.isAgg5
  z5 := Tryz.sizeOf5
  v5 := Tryz.zeroValue5
  t9 := Tryz.underlying9
  a9 := Tryz.isAgg9
  z9 := Tryz.sizeOf9
  v9 := Tryz.zeroValue9
  t46 := Tryz.underlying141
  a46 := Tryz.isAgg141
  z46 := Tryz.sizeOf141
  v46 := Tryz.zeroValue141
  t51 := Tryz.underlying219
  a51 := Tryz.isAgg219
  z51 := Tryz.sizeOf219
  v51 := Tryz.zeroValue219
  t146 := Tryz.underlying220
  a146 := Tryz.isAgg220
  z146 := Tryz.sizeOf220
  v146 := Tryz.zeroValue220
  g1 := by kernel_rfl }
end Go.Proofs.YtcmkjdpmlmmjcaaGreatDoor
end
