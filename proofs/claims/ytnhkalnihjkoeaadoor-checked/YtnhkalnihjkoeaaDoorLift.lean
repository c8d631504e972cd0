/- The given row, where both readers agree. -/
import Derived.Test.YtnhkalnihjkoeaaDoorRows
import Derived.Test.YtnhkalnihjkoeaaDoorLaw
import Derived.ProofKit
import Derived.LaidMore
import Derived.OpenShut
import Derived.LaidLaws
import Derived.LaidHandle
import Derived.Stop.Joined
namespace Go.Proofs.YtnhkalnihjkoeaaDoor
open Go.ChangeShapes Go.WideShapes Go.ChangeAt Go.WideMaps Go.WideElems Go.RowKit
open Go.ChangeMaps (open_string shut_string)

theorem lOwn : ownKnob Tryd.prog.godebug = none := by kernel_rfl
theorem lEt : Tryd.prog.globalNamed "errors.errorType" = some 0 := by kernel_rfl
theorem lRt : (Tryd.prog.cutTypes.find? (·.1 == "internal/reflectlite.rtype")).map (·.2) = some 87 := by kernel_rfl
theorem lSize : Tryd.prog.types.size = 149 := by kernel_rfl
theorem lOneRow : ((List.range 149).filter fun t => Tryd.prog.rowNamed t [101, 114, 114, 111, 114]) = [44] := by kernel_rfl
theorem lGw : Tryd.prog.globalNamed "sluice/describe.words" = some 1 := by kernel_rfl
theorem lTw : (Tryd.prog.globals[1]?).map (·.type) = some 119 := by kernel_rfl
theorem lC9 : Tryd.prog.cellsOf 9 = 1 := by kernel_rfl
theorem lC7 : Tryd.prog.cellsOf 119 = 7 := by kernel_rfl

theorem errT_of {W : World} (h : handlesMet Tryd.prog [("errors.errorType", Rows.laid_errors_errorType)] W) : ErrT W := by
  obtain ⟨name, u, ty, e1, e2, e3, e4, e5⟩ := h _ (List.mem_singleton.2 rfl)
  have en : name = [101, 114, 114, 111, 114] := (Option.some.inj e1).symm
  subst en
  obtain rfl := Option.some.inj (lRt.symm.trans e2)
  have hm : ty ∈ (List.range 149).filter fun t => Tryd.prog.rowNamed t [101, 114, 114, 111, 114] := List.mem_filter.2 ⟨List.mem_range.2 (by rw [← lSize]; exact e3), e4⟩
  rw [lOneRow] at hm
  obtain rfl := List.mem_singleton.1 hm
  have hh : typeHandle Tryd.prog 44 = .pointer (some ⟨2, 44, none⟩) := by kernel_rfl
  rw [hh] at e5
  unfold ErrT
  simpa using World.var?_cell lEt e5 0

theorem wdL : ∀ i, i < 7 → (wd i).data.toList = ([[98, 121, 116, 101], [115, 104, 111, 114, 116], [119, 111, 114, 100], [105, 110, 116], [98, 111, 111, 108], [116, 101, 120, 116], [98, 121, 116, 101, 115]] : List (List UInt8))[i]?.getD [] := by decide +kernel

theorem words_of {W : World} (h : laidMet Tryd.prog [("sluice/describe.words", Rows.laid_sluice_describe_words)] W) : Words W := by
  obtain ⟨ps, ⟨g0, t0, cs0, f0, p0, q0, hg0, ht0, hv0, hd0, _⟩, _, _⟩ := h
  obtain rfl := Option.some.inj (lGw.symm.trans hg0)
  obtain rfl := Option.some.inj (lTw.symm.trans ht0)
  obtain ⟨xs, m1, rfl, hx1, hlen, hn7, hel⟩ := DataW.trod_array Tryd.underlying119 hd0
  simp only [Prod.mk.injEq] at hx1
  intro i hi
  obtain ⟨y, hy⟩ : ∃ y, xs[i]? = some y := ⟨xs[i]'(by omega), by simp⟩
  have hi' := hel i hi
  rw [hy, lC9] at hi'
  obtain ⟨str, e1, e2, _⟩ := DataW.trod_string Tryd.underlying9 hi'
  have hm := congrArg (fun l => match l with | DataW.agg z => z[i]? | _ => none) hx1.1
  simp only [List.getElem?_map, hy, Option.map_some, e2] at hm
  have hstr : str = wd i := by
    apply Go.WideShapes.bytes_inj
    rw [wdL i hi]
    match i, hi with
    | 0, _ => simpa [Rows.laid_sluice_describe_words] using hm.symm
    | 1, _ => simpa [Rows.laid_sluice_describe_words] using hm.symm
    | 2, _ => simpa [Rows.laid_sluice_describe_words] using hm.symm
    | 3, _ => simpa [Rows.laid_sluice_describe_words] using hm.symm
    | 4, _ => simpa [Rows.laid_sluice_describe_words] using hm.symm
    | 5, _ => simpa [Rows.laid_sluice_describe_words] using hm.symm
    | 6, _ => simpa [Rows.laid_sluice_describe_words] using hm.symm
  have hv := World.var?_cell hg0 hv0 i
  rw [hv]
  have hget : cs0.toList[i]? = some (.string str) := by
    have := congrArg (fun l => l[0]?) e1
    simp only [Nat.mul_one] at this
    rw [List.getElem?_take_of_lt (by omega), List.getElem?_drop] at this
    simpa using this
  rw [← hstr]
  simpa using hget

theorem door_met (os : Os) (args : Array Value) : laidMetH Tryd.prog Rows.checkedRow.laid ((World.doorLaid Tryd.prog 400 os).forCall (fun _ _ => 0) ⟨#[], args, []⟩).memory :=
  laidMetH_of_parts (laidMet_of_run' 8 (by kernel_rfl) (by kernel_rfl)) (by kernel_rfl)

set_option maxRecDepth 100000 in
theorem checked_lifted (hA : Agree) (os : Os) (started : os.Started) (H : Type) (enc : TypeId × Value → H) :
    ReturnsInHanded {} Tryd.checked os 3 .any (fun w args => (Rows.checkedSpec.pre enc Tryd.prog Tryd.f3 [] false w args ∧ laidMetH Tryd.prog Rows.checkedRow.laid w) ∧ sizedMet enc Tryd.prog Tryd.f3 (OpenSpec.ofChange Rows.checkedSpec) false w args)
      (Rows.checkedSpec.post enc Tryd.prog Tryd.f3 false true false false) := by
  refine returnsInHanded_of_change_and (C := Tryd.checked) (X := fun w _ => laidMetH Tryd.prog Rows.checkedRow.laid w) (fun _ _ _ hh h => h.of_heap hh) lOwn started (by kernel_rfl) Tryd.func3
    (ChangeSpec.witness_shaped (enc := enc) (C := Tryd.checked) (os := os) (X := fun w _ => laidMetH Tryd.prog Rows.checkedRow.laid w) false (World.doorLaid Tryd.prog 400 os) #[.string ⟨#[]⟩, .string ⟨#[]⟩] 8 rfl (World.shaped_of_RefB (by kernel_rfl) (by kernel_rfl)) (by kernel_rfl) (by kernel_rfl) (by kernel_rfl) (door_met os _)) ?_
  intro W base args ds gs before hval0 hW _ _ hL _
  have hval : ∀ (j : Nat) t v, Tryd.f3.params[j]? = some t → args[j]? = some v → Value.okWide Tryd.prog W .any base t v := hval0
  have hW' := hW
  obtain ⟨p, q, hA0, hV, rfl, hfz, hnd⟩ := hW
  have hAA : DataW.TrodAll enc Tryd.prog W 0 (fun _ => true) true Tryd.f3.params.toList args.toList ds p := hA0
  rw [Tryd.params3] at hAA hval
  obtain ⟨v0, v1, d0, d1, p0, p1, rfl, rfl, rfl, h0, h1⟩ := trodAll_two hAA
  obtain ⟨rfl, rfl⟩ := trodVars_none hV
  obtain ⟨s, rfl, rfl, rfl, hs⟩ := open_string Tryd.underlying9 (hval 0 9 v0 rfl rfl) h0
  obtain ⟨o, rfl, rfl, rfl, ho⟩ := open_string Tryd.underlying9 (hval 1 9 v1 rfl rfl) h1
  have hL' : laidMet Tryd.prog [("sluice/describe.words", Rows.laid_sluice_describe_words)] W ∧ handlesMet Tryd.prog [("errors.errorType", Rows.laid_errors_errorType)] W := hL
  refine (checked_any hA s o W (words_of hL'.1) (errT_of hL'.2) hs ho).mono fun e W' ⟨he, hw⟩ => ?_
  subst he
  have hbelow : Below W.heap.size W W' := hw.below (Nat.le_refl _) (fun _ h => h.elim)
  have e1 : Rows.checkedSpec.fn H ([.lit (.string s.data.toList), .lit (.string o.data.toList)] ++ []) = { results := [.lit (.bool true)], args := [.lit (.string s.data.toList), .lit (.string o.data.toList)] } := by simp [Rows.checkedSpec]
  refine ⟨_, rfl, _, _, _, [], [], [], hW', ?_, ?_, ?_, hbelow.frame _, fun h => by cases h⟩
  · rw [e1]; exact trodAll_mk1 (shut_bool Tryd.underlying4 true)
  · rw [e1]; exact trodAll_mk2 (shut_string Tryd.underlying9 hs) (shut_string Tryd.underlying9 ho)
  · rw [e1]; rfl

theorem checked_row (hA : Agree) : Rows.CheckedSaid :=
  OpenClaim.holds_of_wide 3 Tryd.f3 rfl rfl rfl rfl rfl rfl rfl ⟨rfl, rfl, rfl, rfl, rfl⟩ rfl rfl rfl rfl rfl (by kernel_rfl) Tryd.func3 (by kernel_rfl)
    (of_decide_eq_true (by kernel_rfl)) (by unfold Func.isWrapper; rw [if_neg (of_decide_eq_false (by kernel_rfl))]; exact ⟨rfl, rfl⟩)
    (fun os started H enc _ => checked_lifted hA os started H enc)

end Go.Proofs.YtnhkalnihjkoeaaDoor
