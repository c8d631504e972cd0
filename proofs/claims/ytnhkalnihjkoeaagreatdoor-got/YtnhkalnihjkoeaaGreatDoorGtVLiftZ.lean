/- What the listed variables give, on the seat of values. -/
import Derived.Test.YtnhkalnihjkoeaaGreatDoorRows
import Derived.ProofKit
import Derived.LaidMore
import Derived.OpenShut
import Derived.LaidLaws
import Derived.LaidHandle
import Derived.LaidSub
import Derived.Lay
import Derived.Leaving
import Derived.Conc.Holds
import Derived.SizedLaws
import Derived.Lib.LaidTab
import Derived.Stop.Joined
import Derived.Test.YtnhkalnihjkoeaaGreatDoorGtVInt
import Derived.Test.YtnhkalnihjkoeaaGreatDoorGtCheck
namespace Go.Proofs.YtnhkalnihjkoeaaGreatDoor
open Go.ChangeShapes Go.WideShapes Go.ChangeAt Go.WideMaps Go.WideElems Go.RowKit
open Go.ChangeMaps (open_string shut_string)

theorem lOwn : ownKnob Tryz.prog.godebug = none := by kernel_rfl
theorem lEt : Tryz.prog.globalNamed "errors.errorType" = some 0 := by kernel_rfl
theorem lRt : (Tryz.prog.cutTypes.find? (·.1 == "internal/reflectlite.rtype")).map (·.2) = some 301 := by kernel_rfl
theorem lSize : Tryz.prog.types.size = 462 := by kernel_rfl
theorem lOneRow : ((List.range 462).filter fun t => Tryz.prog.rowNamed t [101, 114, 114, 111, 114]) = [125] := by kernel_rfl
theorem lGw : Tryz.prog.globalNamed "sluice/describe.words" = some 4 := by kernel_rfl
theorem lTw : (Tryz.prog.globals[4]?).map (·.type) = some 424 := by kernel_rfl
theorem lC9 : Tryz.prog.cellsOf 9 = 1 := by kernel_rfl
theorem lTp : (Tryz.prog.globals[5]?).map (·.type) = some 429 := by kernel_rfl
theorem lCp : Tryz.prog.cellsOf 429 = 20 := by kernel_rfl
theorem lCu : Tryz.prog.cellsOf 157 = 1 := by kernel_rfl
theorem lPow : Rows.laid_internal_strconv_uint64pow10 = (Lib.tabData .u64 Lib.pow10Tab : DataW Unit) := by kernel_rfl

theorem errT_of {W : World} (h : handlesMet Tryz.prog [("errors.errorType", Rows.laid_errors_errorType)] W) : ErrT W := by
  obtain ⟨name, u, ty, e1, e2, e3, e4, e5⟩ := h _ (List.mem_singleton.2 rfl)
  have en : name = [101, 114, 114, 111, 114] := (Option.some.inj e1).symm
  subst en
  obtain rfl := Option.some.inj (lRt.symm.trans e2)
  have hm : ty ∈ (List.range 462).filter fun t => Tryz.prog.rowNamed t [101, 114, 114, 111, 114] := List.mem_filter.2 ⟨List.mem_range.2 (by rw [← lSize]; exact e3), e4⟩
  rw [lOneRow] at hm
  obtain rfl := List.mem_singleton.1 hm
  have hh : typeHandle Tryz.prog 125 = .pointer (some ⟨8, 125, none⟩) := by kernel_rfl
  rw [hh] at e5
  unfold ErrT
  simpa using World.var?_cell lEt e5 0

theorem wdL : ∀ i, i < 7 → (wd i).data.toList = ([[98, 121, 116, 101], [115, 104, 111, 114, 116], [119, 111, 114, 100], [105, 110, 116], [98, 111, 111, 108], [116, 101, 120, 116], [98, 121, 116, 101, 115]] : List (List UInt8))[i]?.getD [] := by decide +kernel

theorem words_of {W : World} (h : laidMet Tryz.prog [("sluice/describe.words", Rows.laid_sluice_describe_words)] W) : Words W := by
  obtain ⟨ps, ⟨g0, t0, cs0, f0, p0, q0, hg0, ht0, hv0, hd0, _⟩, _, _⟩ := h
  obtain rfl := Option.some.inj (lGw.symm.trans hg0)
  obtain rfl := Option.some.inj (lTw.symm.trans ht0)
  obtain ⟨xs, m1, rfl, hx1, hlen, hn7, hel⟩ := DataW.trod_array Tryz.underlying424 hd0
  simp only [Prod.mk.injEq] at hx1
  intro i hi
  obtain ⟨y, hy⟩ : ∃ y, xs[i]? = some y := ⟨xs[i]'(by omega), by simp⟩
  have hi' := hel i hi
  rw [hy, lC9] at hi'
  obtain ⟨str, e1, e2, _⟩ := DataW.trod_string Tryz.underlying9 hi'
  have hm := congrArg (fun l => match l with | DataW.agg z => z[i]? | _ => none) hx1.1
  simp only [List.getElem?_map, hy, Option.map_some, e2] at hm
  have hstr : str = wd i := by
    apply Go.WideShapes.bytes_inj
    rw [wdL i hi]
    match i, hi with
    | 0, _ => simpa [Rows.laid_sluice_describe_words] using hm.symm
    | 1, _ => simpa [Rows.laid_sluice_describe_words] using hm.symm
    | 2, _ => simpa [Rows.laid_sluice_describe_words] using hm.symm
    | 3, _ => simpa [Rows.laid_sluice_describe_words] using hm.symm
    | 4, _ => simpa [Rows.laid_sluice_describe_words] using hm.symm
    | 5, _ => simpa [Rows.laid_sluice_describe_words] using hm.symm
    | 6, _ => simpa [Rows.laid_sluice_describe_words] using hm.symm
  have hv := World.var?_cell hg0 hv0 i
  rw [hv]
  have hget : cs0.toList[i]? = some (.string str) := by
    have := congrArg (fun l => l[0]?) e1
    simp only [Nat.mul_one] at this
    rw [List.getElem?_take_of_lt (by omega), List.getElem?_drop] at this
    simpa using this
  rw [← hstr]
  simpa using hget

theorem pow_of {W : World} (h : laidMet Tryz.prog [("internal/strconv.uint64pow10", Rows.laid_internal_strconv_uint64pow10)] W) : PowT W := by
  rw [lPow] at h
  exact Lib.tabIs_of_head gPow lTp Tryz.underlying429 Tryz.underlying157 lCu lCp h

/-- The rows' list of variables. -/
def laidL : List (String × DataW Unit) := [("math/bits.deBruijn32tab", Rows.laid_math_bits_deBruijn32tab), ("math/bits.deBruijn64tab", Rows.laid_math_bits_deBruijn64tab), ("internal/strconv.uint64pow10", Rows.laid_internal_strconv_uint64pow10), ("unicode/utf8.acceptRanges", Rows.laid_unicode_utf8_acceptRanges), ("errors.errorType", Rows.laid_errors_errorType), ("sluice/describe.words", Rows.laid_sluice_describe_words), ("unicode/utf8.first", Rows.laid_unicode_utf8_first)]

theorem fWords : (laidL.filter fun x => x.2.handleName?.isNone).filter (fun x => x.1 == "sluice/describe.words") = [("sluice/describe.words", Rows.laid_sluice_describe_words)] := by kernel_rfl
theorem fPow : (laidL.filter fun x => x.2.handleName?.isNone).filter (fun x => x.1 == "internal/strconv.uint64pow10") = [("internal/strconv.uint64pow10", Rows.laid_internal_strconv_uint64pow10)] := by kernel_rfl
theorem fErr : laidL.filter (fun x => x.2.handleName?.isSome) = [("errors.errorType", Rows.laid_errors_errorType)] := by kernel_rfl

theorem laid_all {W : World} (h : laidMetH Tryz.prog laidL W) : Words W ∧ ErrT W ∧ PowT W := by
  obtain ⟨h1, h2⟩ := laidMetH_iff.1 h
  have hw := h1.filter (fun x => x.1 == "sluice/describe.words")
  have hp := h1.filter (fun x => x.1 == "internal/strconv.uint64pow10")
  rw [fWords] at hw
  rw [fPow] at hp
  rw [fErr] at h2
  exact ⟨words_of hw, errT_of h2, pow_of hp⟩

/-- The start that fits: the door's run, and the tables laid. -/
def greatL : List String := ["math/bits.deBruijn32tab", "math/bits.deBruijn64tab", "internal/strconv.uint64pow10", "unicode/utf8.acceptRanges", "sluice/describe.words", "unicode/utf8.first"]
noncomputable def witW (os : Os) : World := (World.doorLaid Tryz.prog 400 os).layVars Tryz.prog ((laidL.filter fun x => x.2.handleName?.isNone).filter fun x => greatL.contains x.1)

theorem wit_heap (args : Array Value) (w : World) : (w.forCall (fun _ _ => 0) ⟨#[], args, []⟩).memory.heap = w.heap := rfl

set_option maxRecDepth 100000 in
theorem wit_met (os : Os) (args : Array Value) : laidMetH Tryz.prog laidL ((witW os).forCall (fun _ _ => 0) ⟨#[], args, []⟩).memory :=
  laidMetH_of_parts (laidMet_layVars (w0 := World.doorLaid Tryz.prog 400 os) greatL [] (wit_heap args (witW os)) (by kernel_rfl) (by kernel_rfl) (by
    rw [show ((laidL.filter fun x => x.2.handleName?.isNone).filter fun x => !greatL.contains x.1) = [] by kernel_rfl]
    exact LaidIn.none)) (by kernel_rfl)

theorem leaving_of_handed {a : Assume} {C : Checked} {os : Os} {f : FuncId} {r : Reach} {Pre : World → Array Value → Prop} {Post : World → Array Value → Value → World → Prop}
    (h : ReturnsInHanded a C os f r Pre Post) : ReturnsInLeavingWide a C os f r Pre Post := fun e =>
  ReturnsInOpen.mono (fun _ _ _ x => ⟨x.2.1, onlyLeaving_of_quiet x.1, x.2.2⟩) (fun _ x => x) (h e)

end Go.Proofs.YtnhkalnihjkoeaaGreatDoor
