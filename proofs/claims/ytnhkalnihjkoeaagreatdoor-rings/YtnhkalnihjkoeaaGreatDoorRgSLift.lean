/- The given row of Rings, whatever the script. -/
import Derived.Carry
import Derived.SizedLaws
import Derived.Deep.SlicePairs
import Derived.Test.YtnhkalnihjkoeaaGreatDoorRgVLiftZ
import Derived.Test.YtnhkalnihjkoeaaGreatDoorRgVFacts
import Derived.Test.YtnhkalnihjkoeaaGreatDoorRgSPlays
namespace Go.Proofs.YtnhkalnihjkoeaaGreatDoor
open Go.ChangeShapes Go.WideShapes Go.ChangeAt Go.WideMaps Go.WideElems Go.RowKit
open Q (OpOk ScriptAt rings_any)

theorem sBytesOp : Tryz.prog.bytesOf 98 = 56 := by kernel_rfl
theorem rCellsOp : Tryz.prog.cellsOf 98 = 6 := by kernel_rfl
theorem rCellsInt : Tryz.prog.cellsOf 3 = 1 := by kernel_rfl
theorem rCellsStr : Tryz.prog.cellsOf 9 = 1 := by kernel_rfl

theorem weightsAll_mem {H : Type} {P : Program} {e : TypeId} {n : Nat} : ∀ {l : List (DataW H)} {d : DataW H}, d ∈ l → n ∈ d.weights P e → n ∈ DataW.weightsAll P e l
  | [], _, hd, _ => by simp at hd
  | x :: r, d, hd, hn => by
    simp only [DataW.weightsAll, List.mem_append]
    rcases List.mem_cons.1 hd with rfl | h
    · exact Or.inl hn
    · exact Or.inr (weightsAll_mem h hn)

theorem cell_int {H : Type} {enc : TypeId × Value → H} {P : Program} {w : World} {base : Nat} {spare : Nat → Bool} {held : Bool} {n : Nat} {t : TypeId} {v : Value} {x : DataW H × List MemPlace} (ht : P.underlying t = some (.int .i64)) (h : DataW.trod enc P w base spare held n t [v] = some x) : ∃ z, v = .int .i64 z ∧ -9223372036854775808 ≤ z ∧ z ≤ 9223372036854775807 := by
  obtain ⟨z, h1, _, hw⟩ := DataW.trod_int ht h
  simp at h1
  subst h1
  have e1 : IntKind.i64.min = -9223372036854775808 := rfl
  have e2 : IntKind.i64.max = 9223372036854775807 := rfl
  simp [Lit.wf, e1, e2] at hw
  exact ⟨z, rfl, hw.1, hw.2⟩
theorem cell_str {H : Type} {enc : TypeId × Value → H} {P : Program} {w : World} {base : Nat} {spare : Nat → Bool} {held : Bool} {n : Nat} {t : TypeId} {v : Value} {x : DataW H × List MemPlace} (ht : P.underlying t = some .string) (h : DataW.trod enc P w base spare held n t [v] = some x) : ∃ s, v = .string s ∧ x.1 = .lit (.string s.data.toList) := by
  obtain ⟨s, h1, h2, _⟩ := DataW.trod_string ht h
  simp at h1
  subst h1
  exact ⟨s, rfl, by rw [h2]⟩

theorem list6 {α : Type} {l : List α} (h : l.length = 6) : ∃ a b c d e f, l = [a, b, c, d, e, f] := by
  rcases l with _ | ⟨a, _ | ⟨b, _ | ⟨c, _ | ⟨d, _ | ⟨e, _ | ⟨f, _ | ⟨g, l⟩⟩⟩⟩⟩⟩⟩
  all_goals first | exact ⟨_, _, _, _, _, _, rfl⟩ | (simp at h)

set_option maxRecDepth 100000 in
/-- A script that came in. -/
theorem script_in {H : Type} {enc : TypeId × Value → H} {W : World} {spare : Nat → Bool} {fuel : Nat} {o : Option Addr} {len cap : Nat} {d : DataW H} {ps : List MemPlace} (h : DataW.trod enc Tryz.prog W 0 spare true fuel 61 [.slice o len cap] = some (d, ps)) (hw : ∀ n ∈ d.weights Tryz.prog 61, n ≤ reachBytes) : ScriptAt W o len ∧ len ≤ 2513169434916 := by
  rcases Go.Deep.open_slice Tryz.underlying61 h with ⟨hcs, _⟩ | ⟨a, len', cap', m, n, D, Pl, hcs, _, hl, hm, hmm, hx, hc⟩
  · simp at hcs
    obtain ⟨_, rfl, _⟩ := hcs
    exact ⟨fun i hi => by omega, by omega⟩
  · simp at hcs
    obtain ⟨rfl, rfl, rfl⟩ := hcs
    simp only [Prod.mk.injEq] at hx
    obtain ⟨rfl, _⟩ := hx
    have hr : reachBytes = 140737488351232 := rfl
    unfold DataW.weights at hw
    rw [Tryz.underlying61] at hw
    simp only [List.mem_cons, List.mem_append] at hw
    have hlen := hw _ (Or.inl rfl)
    rw [sBytesOp, List.length_map, List.length_range] at hlen
    have hlm : len ≤ m := by rw [hmm]; split <;> omega
    refine ⟨fun i hi => ?_, by omega⟩
    obtain ⟨cs', h1, h2⟩ := hc i (by omega)
    rw [rCellsOp] at h1
    obtain ⟨_, hcl, hcell⟩ := World.cells?_some h1
    obtain ⟨xs, k, hk, hxy, _, hxl, hf⟩ := DataW.trod_struct Tryz.underlying98 h2
    obtain ⟨y0, y1, y2, y3, y4, y5, rfl⟩ := list6 (show xs.length = 6 from hxl)
    obtain ⟨v0, v1, v2, v3, v4, v5, rfl⟩ := list6 hcl
    have g0 := hf 0 _ rfl
    have g1 := hf 1 _ rfl
    have g2 := hf 2 _ rfl
    have g3 := hf 3 _ rfl
    have g4 := hf 4 _ rfl
    have g5 := hf 5 _ rfl
    simp [rCellsInt, rCellsStr] at g0 g1 g2 g3 g4 g5
    obtain ⟨z0, rfl, a0, b0⟩ := cell_int Tryz.underlying3 g0
    obtain ⟨z1, rfl, a1, b1⟩ := cell_int Tryz.underlying3 g1
    obtain ⟨z2, rfl, a2, b2⟩ := cell_int Tryz.underlying3 g2
    obtain ⟨z3, rfl, a3, b3⟩ := cell_int Tryz.underlying3 g3
    obtain ⟨z4, rfl, a4, b4⟩ := cell_int Tryz.underlying3 g4
    obtain ⟨s, rfl, hs⟩ := cell_str Tryz.underlying9 g5
    simp only [Prod.mk.injEq] at hxy
    have hD : D i = .agg [y0.1, y1.1, y2.1, y3.1, y4.1, .lit (.string s.data.toList)] := by rw [hxy.1]; simp [hs]
    have hsz : s.data.toList.length ≤ reachBytes := hw _ (Or.inr (Or.inl (weightsAll_mem (d := D i) (List.mem_map.2 ⟨i, List.mem_range.2 hi, rfl⟩) (by
      rw [hD]
      unfold DataW.weights
      rw [Tryz.underlying98]
      exact DataW.weights_mem_each (j := 5) rfl rfl _ (by simp [DataW.weights])))))
    rw [Array.length_toList] at hsz
    have hs' : s.size ≤ 140737488355328 := by show s.data.size ≤ _; omega
    obtain ⟨b, off, spot⟩ := a
    have hspot : spot = none := by
      obtain ⟨cs0, h10, _⟩ := hc 0 (by omega)
      rw [rCellsOp] at h10
      obtain ⟨_, hcl0, hcell0⟩ := World.cells?_some h10
      obtain ⟨x0, x1, x2, x3, x4, x5, rfl⟩ := list6 hcl0
      have := World.cell?_spot ((hcell0 0 (by omega)).trans rfl)
      simpa [Addr.add] using this
    subst hspot
    have e0 := hcell 0 (by omega)
    have e1 := hcell 1 (by omega)
    have e2 := hcell 2 (by omega)
    have e3 := hcell 3 (by omega)
    have e4 := hcell 4 (by omega)
    have e5 := hcell 5 (by omega)
    rw [add_plain, add_plain] at e0 e1 e2 e3 e4 e5
    exact ⟨b, off, z0, z1, z2, z3, z4, s, rfl, e0, e1, e2, e3, e4, e5, ⟨a0, b0, a1, b1, a2, b2, a3, b3, a4, b4, by omega⟩⟩

set_option maxRecDepth 100000 in
theorem rings_lifted (os : Os) (started : os.Started) (H : Type) (enc : TypeId × Value → H) :
    ReturnsInHanded {} Tryz.checked os 11 .any (fun w args => (Rows.ringsSpec.pre enc Tryz.prog Tryz.f11 [] false w args ∧ laidMetH Tryz.prog Rows.ringsRow.laid w) ∧ sizedMet enc Tryz.prog Tryz.f11 (OpenSpec.ofChange Rows.ringsSpec) false w args)
      (Rows.ringsSpec.post enc Tryz.prog Tryz.f11 false true false false) := by
  rw [show Rows.ringsRow.laid = laidL from rfl]
  refine returnsInHanded_of_change_and (C := Tryz.checked) (X := fun w _ => laidMetH Tryz.prog laidL w) (fun _ _ _ hh h => h.of_heap hh) lOwn started (by kernel_rfl) Tryz.func11
    (ChangeSpec.witness_shaped (enc := enc) (C := Tryz.checked) (os := os) (X := fun w _ => laidMetH Tryz.prog laidL w) false (witW os) #[.slice none 0 0] 8 (World.layVars_os _ _ _) (World.shaped_of_ZipB (by kernel_rfl) (by kernel_rfl)) (by kernel_rfl) (by kernel_rfl) (by kernel_rfl) (wit_met os _)) ?_
  intro W base args ds gs before hval0 hW _ hsz hL _
  have hval : ∀ (j : Nat) t v, Tryz.f11.params[j]? = some t → args[j]? = some v → Value.okWide Tryz.prog W .any base t v := hval0
  have hW' := hW
  obtain ⟨p, q, hA0, hV, rfl, hfz, hnd⟩ := hW
  have hA : DataW.TrodAll enc Tryz.prog W 0 (fun _ => true) true Tryz.f11.params.toList args.toList ds p := hA0
  rw [Tryz.params11] at hA hval hsz
  obtain ⟨v0, d0, rfl, rfl, h0⟩ := trodAll_one hA
  obtain ⟨rfl, rfl⟩ := trodVars_none hV
  obtain ⟨o, len, cap, rfl⟩ := okWide_slice Tryz.underlying61 (hval 0 61 v0 rfl rfl)
  have hall := List.all_eq_true.1 hsz
  have w1 : ∀ n ∈ d0.weights Tryz.prog 61, n ≤ reachBytes := fun n hn => of_decide_eq_true (hall n (DataW.weights_mem_each (j := 0) rfl rfl n hn))
  have h0k := h0
  obtain ⟨fuel, hf⟩ := h0
  have hcells : DataW.trod enc Tryz.prog W 0 (fun _ => true) true fuel 61 [.slice o len cap] = some (d0, p) := hf
  obtain ⟨hS, hn⟩ := script_in hcells w1
  clear hA0 hval0
  simp only [List.append_nil] at hW'
  have hlt : ∀ x ∈ p, x.block < W.heap.size := fun x hx => by simpa using hW'.lt x hx
  refine (rings_any W o len cap hS (by omega)).mono fun e W' ⟨he, hw⟩ => ?_
  subst he
  have hbelow : Below W.heap.size W W' := hw.below (Nat.le_refl _) (fun _ h => h.elim)
  have e1 : Rows.ringsSpec.fn H ([d0] ++ []) = { results := [.lit (.bool true)], args := [d0] } := rfl
  refine ⟨_, rfl, _, _, _, [], p, [], hW', ?_, ?_, ?_, hbelow.frame _, fun h => by cases h⟩
  · rw [e1]; exact trodAll_mk1 (shut_bool Tryz.underlying4 true)
  · rw [e1]; exact trodAll_mk1 (Below.trod pLaidOut (by kernel_rfl) (of_decide_eq_true (by kernel_rfl)) h0k hbelow hlt)
  · rw [e1]; rfl

set_option maxHeartbeats 16000000 in
theorem rings_facts : joinedFacts Tryz.checked.prog 11 Tryz.f11 Rows.ringsSpec Rows.ringsRow = true := by
  unfold joinedFacts
  iterate 31 (refine and_t ?_ (by first | with_reducible exact pLaidOut | with_reducible exact pMapsRowed | with_reducible exact pStopsHeard | with_reducible exact pMayEnter | as_aux_lemma => kernel_rfl))
  as_aux_lemma => kernel_rfl

theorem rings_row : Rows.RingsSaid :=
  OpenClaim.holds_of_wide_leaving 11 Tryz.f11 rfl rfl rfl rfl rfl rfl rfl ⟨rfl, rfl, rfl, rfl, rfl⟩ rfl rfl rfl rfl rfl (by kernel_rfl) Tryz.func11 rings_facts
    (of_decide_eq_true (by kernel_rfl)) (by unfold Func.isWrapper; rw [if_neg (of_decide_eq_false (by kernel_rfl))]; exact ⟨rfl, rfl⟩)
    (fun os started H enc _ => leaving_of_handed (rings_lifted os started H enc))

end Go.Proofs.YtnhkalnihjkoeaaGreatDoor
