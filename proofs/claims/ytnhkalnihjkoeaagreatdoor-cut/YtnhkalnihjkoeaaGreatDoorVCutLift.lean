/- The given row of Cut. -/
import Derived.Test.YtnhkalnihjkoeaaGreatDoorVLiftZ
import Derived.Test.YtnhkalnihjkoeaaGreatDoorVFacts
import Derived.Test.YtnhkalnihjkoeaaGreatDoorVCut
import Derived.Carry
namespace Go.Proofs.YtnhkalnihjkoeaaGreatDoor
open Go.ChangeShapes Go.WideShapes Go.ChangeAt Go.WideMaps Go.WideElems Go.RowKit
open Go.ChangeMaps (open_string shut_string)

theorem cutLaid : Rows.cutRow.laid = laidL := rfl

set_option maxRecDepth 100000 in
theorem cut_lifted (os : Os) (started : os.Started) (H : Type) (enc : TypeId × Value → H) :
    ReturnsInHanded {} Tryz.checked os 6 .any (fun w args => (Rows.cutSpec.pre enc Tryz.prog Tryz.f6 [] false w args ∧ laidMetH Tryz.prog Rows.cutRow.laid w) ∧ sizedMet enc Tryz.prog Tryz.f6 (OpenSpec.ofChange Rows.cutSpec) false w args)
      (Rows.cutSpec.post enc Tryz.prog Tryz.f6 false true false false) := by
  rw [cutLaid]
  refine returnsInHanded_of_change_and (C := Tryz.checked) (X := fun w _ => laidMetH Tryz.prog laidL w) (fun _ _ _ hh h => h.of_heap hh) lOwn started (by kernel_rfl) Tryz.func6
    (ChangeSpec.witness_shaped (enc := enc) (C := Tryz.checked) (os := os) (X := fun w _ => laidMetH Tryz.prog laidL w) false (witW os) #[.string ⟨#[]⟩, .string ⟨#[]⟩, .string ⟨#[]⟩, .int .i64 0] 8 (World.layVars_os _ _ _) (World.shaped_of_ZipB (by kernel_rfl) (by kernel_rfl)) (by kernel_rfl) (by kernel_rfl) (by kernel_rfl) (wit_met os _)) ?_
  intro W base args ds gs before hval0 hW _ hsz hL _
  have hval : ∀ (j : Nat) t v, Tryz.f6.params[j]? = some t → args[j]? = some v → Value.okWide Tryz.prog W .any base t v := hval0
  have hW' := hW
  obtain ⟨p, q, hA0, hV, rfl, hfz, hnd⟩ := hW
  have hAA : DataW.TrodAll enc Tryz.prog W 0 (fun _ => true) true Tryz.f6.params.toList args.toList ds p := hA0
  rw [Tryz.params6] at hAA hval hsz
  obtain ⟨v0, v1, v2, v3, d0, d1, d2, d3, p0, p1, p2, p3, rfl, rfl, rfl, h0, h1, h2, h3⟩ := trodAll_four hAA
  obtain ⟨rfl, rfl⟩ := trodVars_none hV
  obtain ⟨s, rfl, rfl, rfl, hs⟩ := open_string Tryz.underlying9 (hval 0 9 v0 rfl rfl) h0
  obtain ⟨o, rfl, rfl, rfl, ho⟩ := open_string Tryz.underlying9 (hval 1 9 v1 rfl rfl) h1
  obtain ⟨d, rfl, rfl, rfl, hd⟩ := open_string Tryz.underlying9 (hval 2 9 v2 rfl rfl) h2
  obtain ⟨m, rfl, rfl, rfl, hm⟩ := open_int Tryz.underlying3 (hval 3 3 v3 rfl rfl) h3
  have hm' : -9223372036854775808 ≤ m ∧ m ≤ 9223372036854775807 := by
    have := hm
    simp only [Lit.wf, IntKind.min, IntKind.max, IntKind.signed, IntKind.bits, Bool.and_eq_true, decide_eq_true_eq, if_true] at this
    omega
  have hv : o.size ≤ 140737488351232 := by
    have := sized_string hsz (j := 1) (t := 9) (bytes := o.data.toList) rfl rfl
    rw [Array.length_toList] at this
    exact Nat.le_trans this (by decide)
  obtain ⟨g1, g2, g3⟩ := laid_all hL
  refine (cut_any s o d m W g1 g2 g3 hs hv hd hm'.1 hm'.2).mono fun e W' ⟨he, hw⟩ => ?_
  subst he
  have hbelow : Below W.heap.size W W' := hw.below (Nat.le_refl _) (fun _ h => h.elim)
  have e1 : Rows.cutSpec.fn H ([.lit (.string s.data.toList), .lit (.string o.data.toList), .lit (.string d.data.toList), .lit (.int .i64 m)] ++ []) = { results := [.lit (.bool true)], args := [.lit (.string s.data.toList), .lit (.string o.data.toList), .lit (.string d.data.toList), .lit (.int .i64 m)] } := by simp [Rows.cutSpec]
  refine ⟨_, rfl, _, _, _, [], [], [], hW', ?_, ?_, ?_, hbelow.frame _, fun h => by cases h⟩
  · rw [e1]; exact trodAll_mk1 (shut_bool Tryz.underlying4 true)
  · rw [e1]; exact trodAll_mk4 (shut_string Tryz.underlying9 hs) (shut_string Tryz.underlying9 ho) (shut_string Tryz.underlying9 hd) (shut_int Tryz.underlying3 hm)
  · rw [e1]; rfl

set_option maxHeartbeats 16000000 in
theorem cut_facts : joinedFacts Tryz.checked.prog 6 Tryz.f6 Rows.cutSpec Rows.cutRow = true := by
  unfold joinedFacts
  iterate 31 (refine and_t ?_ (by first | with_reducible exact pLaidOut | with_reducible exact pMapsRowed | with_reducible exact pStopsHeard | with_reducible exact pMayEnter | as_aux_lemma => kernel_rfl))
  as_aux_lemma => kernel_rfl

theorem cut_row : Rows.CutSaid :=
  OpenClaim.holds_of_wide_leaving 6 Tryz.f6 rfl rfl rfl rfl rfl rfl rfl ⟨rfl, rfl, rfl, rfl, rfl⟩ rfl rfl rfl rfl rfl (by kernel_rfl) Tryz.func6 cut_facts
    (of_decide_eq_true (by kernel_rfl)) (by unfold Func.isWrapper; rw [if_neg (of_decide_eq_false (by kernel_rfl))]; exact ⟨rfl, rfl⟩)
    (fun os started H enc _ => leaving_of_handed (cut_lifted os started H enc))

end Go.Proofs.YtnhkalnihjkoeaaGreatDoor
