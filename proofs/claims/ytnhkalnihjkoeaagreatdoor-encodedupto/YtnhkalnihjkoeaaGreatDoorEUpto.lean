/- The given row of Encoded, up to the bound. -/
import Derived.Test.YtnhkalnihjkoeaaGreatDoorVLiftZ
import Derived.Test.YtnhkalnihjkoeaaGreatDoorVFacts
import Derived.Test.YtnhkalnihjkoeaaGreatDoorEEnc
import Derived.Carry
import Derived.JoinedCond
import Derived.Deep.DeepHandedRow
namespace Go.Proofs.YtnhkalnihjkoeaaGreatDoor
open Go.ChangeShapes Go.WideShapes Go.ChangeAt Go.WideMaps Go.WideElems Go.RowKit
open Go.ChangeMaps (open_string shut_string)

/-- A row whose call leaves nobody behind says as much as one that lets others be leaving. -/
theorem holds_leaving {p : Pinned} {s : OpenSpec} {c : OpenClaim} (hlv : c.leaving = false) (hstart : c.start = .entering) (hstops : c.stops = []) (hwf : ({ c with leaving := true } : OpenClaim).wf s = true) (h : c.holds p s) : ({ c with leaving := true } : OpenClaim).holds p s := by
  obtain ⟨a1, a2, a3, a4, a5, a6, a7, a8, f, fn, b1, b2, b3, b4, b5, b6, b7, b8, b9, b10, b11, b12, b13, b14, b15, b16, b17, b18, b19, b20, b21, L, hL, hF⟩ := h
  refine ⟨hwf, a2, a3, a4, a5, a6, a7, a8, f, fn, b1, b2, b3, b4, b5, b6, b7, b8, b9, b10, b11, b12, b13, b14, b15, b16, b17, b18, b19, b20, b21, L, hL, fun os hw hq H enc inj => ?_⟩
  have hG := hF os hw hq H enc inj
  unfold OpenClaim.form at hG ⊢
  have hstart' : ({ c with leaving := true } : OpenClaim).start = .entering := hstart
  have hstops' : ({ c with leaving := true } : OpenClaim).stops = [] := hstops
  rw [hstart', hstops']
  rw [hstart, hstops] at hG
  intro F
  have e2 : c.atReturn p.checked.prog = aloneAtReturn p.checked.prog := by unfold OpenClaim.atReturn; rw [hlv]
  have hGF := hG F
  rw [e2] at hGF
  exact ReturnsInOpen.mono (fun _ _ _ x => ⟨x.2.1, onlyLeaving_of_quiet x.1, x.2.2⟩) (fun _ x => x) hGF

def encL : List (String × DataW Unit) := [("errors.errorType", Rows.laid_errors_errorType), ("sluice/describe.words", Rows.laid_sluice_describe_words)]
theorem enc_laid : Rows.encodedUptoRow.laid = encL := rfl
theorem enc_parts {W : World} (h : laidMetH Tryz.prog encL W) : Words W ∧ ErrT W := by
  have hL' : laidMet Tryz.prog [("sluice/describe.words", Rows.laid_sluice_describe_words)] W ∧ handlesMet Tryz.prog [("errors.errorType", Rows.laid_errors_errorType)] W := h
  exact ⟨words_of hL'.1, errT_of hL'.2⟩
theorem enc_met (os : Os) (args : Array Value) : laidMetH Tryz.prog encL ((witW os).forCall (fun _ _ => 0) ⟨#[], args, []⟩).memory := by
  obtain ⟨h1, h2⟩ := laidMetH_iff.1 (wit_met os args)
  have hw := h1.filter (fun x => x.1 == "sluice/describe.words")
  rw [fWords] at hw
  rw [fErr] at h2
  have : laidMet Tryz.prog [("sluice/describe.words", Rows.laid_sluice_describe_words)] ((witW os).forCall (fun _ _ => 0) ⟨#[], args, []⟩).memory ∧ handlesMet Tryz.prog [("errors.errorType", Rows.laid_errors_errorType)] ((witW os).forCall (fun _ _ => 0) ⟨#[], args, []⟩).memory := ⟨hw, h2⟩
  exact this

theorem enc_reads (os : Os) {H : Type} (enc : TypeId × Value → H) : ∃ places, DataW.whole enc Tryz.prog ((witW os).forCall (fun _ _ => 0) ⟨#[], #[.string ⟨#[]⟩, .string ⟨#[]⟩, .string ⟨#[]⟩, .string ⟨#[]⟩], []⟩).memory Tryz.f3.params.toList Rows.encodedSpec.vars false #[.string ⟨#[]⟩, .string ⟨#[]⟩, .string ⟨#[]⟩, .string ⟨#[]⟩].toList 8 = some ([.lit (.string []), .lit (.string []), .lit (.string []), .lit (.string [])], [], places) :=
  ⟨[], by kernel_rfl⟩

set_option maxRecDepth 100000 in
theorem encoded_lifted (os : Os) (started : os.Started) (H : Type) (enc : TypeId × Value → H) (F : Stop.Interp) :
    ReturnsInHanded {} Tryz.checked os 3 .any ((Rows.OpenSpec.upto Rows.encodedSpec).preRow enc Tryz.prog Tryz.f3 [] false encL) (((Rows.OpenSpec.upto Rows.encodedSpec).at F).post enc Tryz.prog Tryz.f3 false true false false) := by
  obtain ⟨places, hx⟩ := enc_reads os enc
  have hok : Input.okWideB Tryz.prog ((witW os).forCall (fun _ _ => 0) ⟨#[], #[.string ⟨#[]⟩, .string ⟨#[]⟩, .string ⟨#[]⟩, .string ⟨#[]⟩], []⟩) 3 ⟨#[], #[.string ⟨#[]⟩, .string ⟨#[]⟩, .string ⟨#[]⟩, .string ⟨#[]⟩], []⟩ = true := by kernel_rfl
  refine returnsInHanded_of_row (C := Tryz.checked) (s := Rows.OpenSpec.upto Rows.encodedSpec) lOwn started (by kernel_rfl) Tryz.func3
    ⟨witW os, fun _ _ => 0, ⟨#[], #[.string ⟨#[]⟩, .string ⟨#[]⟩, .string ⟨#[]⟩, .string ⟨#[]⟩], []⟩, World.layVars_os _ _ _, World.shaped_of_ZipB (by kernel_rfl) (by kernel_rfl), (Input.okWide_of_okWideB (base := 0) hok).1, (Input.okWide_of_okWideB hok).2,
      OpenSpec.preRow_of_cond 8 hx (by kernel_rfl) (fun k hk => by cases hk; kernel_rfl) (by kernel_rfl) (enc_met os _), ⟨by simp, by simp, fun _ => Modest.zero, by simp, by simp⟩⟩ ?_
  intro W base args ds gs before hval0 hW _ hcond _ hL _ _
  have hval : ∀ (j : Nat) t v, Tryz.f3.params[j]? = some t → args[j]? = some v → Value.okWide Tryz.prog W .any base t v := hval0
  have hW' := hW
  obtain ⟨p, q, hA0, hV, rfl, hfz, hnd⟩ := hW
  have hAA : DataW.TrodAll enc Tryz.prog W 0 (fun _ => true) true Tryz.f3.params.toList args.toList ds p := hA0
  rw [Tryz.params3] at hAA hval
  obtain ⟨v0, v1, v2, v3, d0, d1, d2, d3, p0, p1, p2, p3, rfl, rfl, rfl, h0, h1, h2, h3⟩ := trodAll_four hAA
  obtain ⟨rfl, rfl⟩ := trodVars_none hV
  obtain ⟨s, rfl, rfl, rfl, hs⟩ := open_string Tryz.underlying9 (hval 0 9 v0 rfl rfl) h0
  obtain ⟨o, rfl, rfl, rfl, ho⟩ := open_string Tryz.underlying9 (hval 1 9 v1 rfl rfl) h1
  obtain ⟨d, rfl, rfl, rfl, hd⟩ := open_string Tryz.underlying9 (hval 2 9 v2 rfl rfl) h2
  obtain ⟨m, rfl, rfl, rfl, hm⟩ := open_string Tryz.underlying9 (hval 3 9 v3 rfl rfl) h3
  have hk := of_decide_eq_true (hcond _ rfl)
  simp only [List.append_nil, Rows.uptoBulkAll, Rows.uptoBulk] at hk
  have z1 : o.data.toList.length = o.size := by rw [Array.length_toList]; rfl
  have z3 : m.data.toList.length = m.size := by rw [Array.length_toList]; rfl
  have b1 : o.size ≤ 1048576 := by omega
  have b3 : m.size ≤ 1048576 := by omega
  obtain ⟨g1, g2⟩ := enc_parts hL
  refine (encoded_any s o d m W g1 g2 hs b1 hd b3).mono fun e W' ⟨he, hw⟩ => ?_
  subst he
  have hbelow : Below W.heap.size W W' := hw.below (Nat.le_refl _) (fun _ h => h.elim)
  have e1 : Rows.encodedSpec.fn H ([.lit (.string s.data.toList), .lit (.string o.data.toList), .lit (.string d.data.toList), .lit (.string m.data.toList)] ++ []) = { results := [.lit (.bool true)], args := [.lit (.string s.data.toList), .lit (.string o.data.toList), .lit (.string d.data.toList), .lit (.string m.data.toList)] } := by simp [Rows.encodedSpec]
  refine ⟨_, rfl, _, _, _, [], [], [], hW', ?_, ?_, ?_, hbelow.frame _, fun h => by cases h⟩
  · show DataW.TrodAll enc Tryz.prog _ _ _ _ _ _ (Rows.encodedSpec.fn H ([.lit (.string s.data.toList), .lit (.string o.data.toList), .lit (.string d.data.toList), .lit (.string m.data.toList)] ++ [])).results _
    rw [e1]; exact trodAll_mk1 (shut_bool Tryz.underlying4 true)
  · show DataW.TrodAll enc Tryz.prog _ _ _ _ _ _ (Rows.encodedSpec.fn H ([.lit (.string s.data.toList), .lit (.string o.data.toList), .lit (.string d.data.toList), .lit (.string m.data.toList)] ++ [])).args _
    rw [e1]; exact trodAll_mk4 (shut_string Tryz.underlying9 hs) (shut_string Tryz.underlying9 ho) (shut_string Tryz.underlying9 hd) (shut_string Tryz.underlying9 hm)
  · first | rfl | (show _ = _; rw [e1]; rfl)

set_option maxHeartbeats 16000000 in
theorem encoded_facts : joinedFacts Tryz.checked.prog 3 Tryz.f3 (Rows.OpenSpec.upto Rows.encodedSpec).bare ({ Rows.encodedUptoRow with leaving := false } : OpenClaim) = true := by
  unfold joinedFacts
  iterate 31 (refine and_t ?_ (by first | with_reducible exact pLaidOut | with_reducible exact pMapsRowed | with_reducible exact pStopsHeard | with_reducible exact pMayEnter | as_aux_lemma => kernel_rfl))
  as_aux_lemma => kernel_rfl

theorem encoded0 : ({ Rows.encodedUptoRow with leaving := false } : OpenClaim).holds Tryz.pinned (Rows.OpenSpec.upto Rows.encodedSpec) :=
  OpenClaim.holds_of_cond 3 Tryz.f3 rfl rfl rfl rfl rfl rfl rfl ⟨rfl, rfl, rfl, rfl, rfl⟩ rfl rfl rfl rfl rfl (by kernel_rfl) Tryz.func3 encoded_facts
    (of_decide_eq_true (by kernel_rfl)) (by unfold Func.isWrapper; rw [if_neg (of_decide_eq_false (by kernel_rfl))]; exact ⟨rfl, rfl⟩)
    (fun os started H enc _ F => by rw [OpenClaim.pre_eq_preRow]; exact encoded_lifted os started H enc F)

theorem encoded_row : Rows.EncodedUptoSaid := holds_leaving (c := { Rows.encodedUptoRow with leaving := false }) rfl rfl rfl (by kernel_rfl) encoded0

end Go.Proofs.YtnhkalnihjkoeaaGreatDoor
