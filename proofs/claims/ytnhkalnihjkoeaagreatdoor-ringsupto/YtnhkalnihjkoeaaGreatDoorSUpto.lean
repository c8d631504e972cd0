/- The given row of Rings, up to the bound. -/
import Derived.Test.YtnhkalnihjkoeaaGreatDoorVLiftZ
import Derived.Test.YtnhkalnihjkoeaaGreatDoorVFacts
import Derived.Test.YtnhkalnihjkoeaaGreatDoorSPlays
import Derived.Carry
import Derived.JoinedCond
import Derived.Deep.DeepHandedRow
import Derived.Deep.SlicePairs
namespace Go.Proofs.YtnhkalnihjkoeaaGreatDoor
open Go.ChangeShapes Go.WideShapes Go.ChangeAt Go.WideMaps Go.WideElems Go.RowKit
open Q (OpOk ScriptAt rings_any)

/-- A row whose call leaves nobody behind says as much as one that lets others be leaving. -/
theorem row_leaving {p : Pinned} {s : OpenSpec} {c : OpenClaim} (hlv : c.leaving = false) (hstart : c.start = .entering) (hstops : c.stops = []) (hwf : ({ c with leaving := true } : OpenClaim).wf s = true) (h : c.holds p s) : ({ c with leaving := true } : OpenClaim).holds p s := by
  obtain ⟨a1, a2, a3, a4, a5, a6, a7, a8, f, fn, b1, b2, b3, b4, b5, b6, b7, b8, b9, b10, b11, b12, b13, b14, b15, b16, b17, b18, b19, b20, b21, L, hL, hF⟩ := h
  refine ⟨hwf, a2, a3, a4, a5, a6, a7, a8, f, fn, b1, b2, b3, b4, b5, b6, b7, b8, b9, b10, b11, b12, b13, b14, b15, b16, b17, b18, b19, b20, b21, L, hL, fun os hw hq H enc inj => ?_⟩
  have hG := hF os hw hq H enc inj
  unfold OpenClaim.form at hG ⊢
  have hstart' : ({ c with leaving := true } : OpenClaim).start = .entering := hstart
  have hstops' : ({ c with leaving := true } : OpenClaim).stops = [] := hstops
  rw [hstart', hstops']
  rw [hstart, hstops] at hG
  intro F
  have e2 : c.atReturn p.checked.prog = aloneAtReturn p.checked.prog := by unfold OpenClaim.atReturn; rw [hlv]
  have hGF := hG F
  rw [e2] at hGF
  exact ReturnsInOpen.mono (fun _ _ _ x => ⟨x.2.1, onlyLeaving_of_quiet x.1, x.2.2⟩) (fun _ x => x) hGF

theorem bulk_pos {H : Type} (d : DataW H) : 1 ≤ Rows.uptoBulk d := by
  cases d with
  | lit l => cases l <;> simp [Rows.uptoBulk]
  | _ => simp [Rows.uptoBulk]
theorem bulk_mem {H : Type} {d : DataW H} : ∀ {l : List (DataW H)}, d ∈ l → Rows.uptoBulk d ≤ Rows.uptoBulkAll l := by
  intro l
  induction l with
  | nil => intro h; simp at h
  | cons x l ih =>
    intro h
    simp only [Rows.uptoBulkAll]
    rcases List.mem_cons.1 h with rfl | h
    · omega
    · have := ih h; omega
theorem bulk_len {H : Type} (l : List (DataW H)) : l.length ≤ Rows.uptoBulkAll l := by
  induction l with
  | nil => simp
  | cons x l ih => simp only [Rows.uptoBulkAll, List.length_cons]; have := bulk_pos x; omega

theorem ring_laid : Rows.ringsUptoRow.laid = laidL := rfl
theorem rCellsOp : Tryz.prog.cellsOf 98 = 6 := by kernel_rfl
theorem rCellsInt : Tryz.prog.cellsOf 3 = 1 := by kernel_rfl
theorem rCellsStr : Tryz.prog.cellsOf 9 = 1 := by kernel_rfl
theorem rLaidOut : laidOutB Tryz.prog = true := pLaidOut

theorem cell_int {H : Type} {enc : TypeId × Value → H} {P : Program} {w : World} {base : Nat} {spare : Nat → Bool} {held : Bool} {n : Nat} {t : TypeId} {v : Value} {x : DataW H × List MemPlace} (ht : P.underlying t = some (.int .i64)) (h : DataW.trod enc P w base spare held n t [v] = some x) : ∃ z, v = .int .i64 z ∧ -9223372036854775808 ≤ z ∧ z ≤ 9223372036854775807 := by
  obtain ⟨z, h1, _, hw⟩ := DataW.trod_int ht h
  simp at h1
  subst h1
  have e1 : IntKind.i64.min = -9223372036854775808 := rfl
  have e2 : IntKind.i64.max = 9223372036854775807 := rfl
  simp [Lit.wf, e1, e2] at hw
  exact ⟨z, rfl, hw.1, hw.2⟩
theorem cell_str {H : Type} {enc : TypeId × Value → H} {P : Program} {w : World} {base : Nat} {spare : Nat → Bool} {held : Bool} {n : Nat} {t : TypeId} {v : Value} {x : DataW H × List MemPlace} (ht : P.underlying t = some .string) (h : DataW.trod enc P w base spare held n t [v] = some x) : ∃ s, v = .string s ∧ x.1 = .lit (.string s.data.toList) := by
  obtain ⟨s, h1, h2, _⟩ := DataW.trod_string ht h
  simp at h1
  subst h1
  exact ⟨s, rfl, by rw [h2]⟩

theorem list6 {α : Type} {l : List α} (h : l.length = 6) : ∃ a b c d e f, l = [a, b, c, d, e, f] := by
  rcases l with _ | ⟨a, _ | ⟨b, _ | ⟨c, _ | ⟨d, _ | ⟨e, _ | ⟨f, _ | ⟨g, l⟩⟩⟩⟩⟩⟩⟩
  all_goals first | exact ⟨_, _, _, _, _, _, rfl⟩ | (simp at h)

set_option maxRecDepth 100000 in
/-- A script that came in. -/
theorem script_of {H : Type} {enc : TypeId × Value → H} {W : World} {spare : Nat → Bool} {fuel : Nat} {o : Option Addr} {len cap : Nat} {d : DataW H} {ps : List MemPlace} (h : DataW.trod enc Tryz.prog W 0 spare true fuel 61 [.slice o len cap] = some (d, ps)) (hd : Rows.uptoBulk d ≤ 1048576) : ScriptAt W o len ∧ len ≤ 1048576 := by
  rcases Go.Deep.open_slice Tryz.underlying61 h with ⟨hcs, _⟩ | ⟨a, len', cap', m, n, D, Pl, hcs, _, hl, hm, hmm, hx, hc⟩
  · simp at hcs
    obtain ⟨_, rfl, _⟩ := hcs
    exact ⟨fun i hi => by omega, by omega⟩
  · simp at hcs
    obtain ⟨rfl, rfl, rfl⟩ := hcs
    simp only [Prod.mk.injEq] at hx
    obtain ⟨rfl, _⟩ := hx
    simp only [Rows.uptoBulk] at hd
    have hlen := bulk_len ((List.range len).map D)
    rw [List.length_map, List.length_range] at hlen
    have hlm : len ≤ m := by rw [hmm]; split <;> omega
    refine ⟨fun i hi => ?_, by omega⟩
    have hDi : Rows.uptoBulk (D i) ≤ Rows.uptoBulkAll ((List.range len).map D) := bulk_mem (List.mem_map.2 ⟨i, List.mem_range.2 hi, rfl⟩)
    obtain ⟨cs', h1, h2⟩ := hc i (by omega)
    rw [rCellsOp] at h1
    obtain ⟨_, hcl, hcell⟩ := World.cells?_some h1
    obtain ⟨xs, k, hk, hxy, _, hxl, hf⟩ := DataW.trod_struct Tryz.underlying98 h2
    obtain ⟨y0, y1, y2, y3, y4, y5, rfl⟩ := list6 (show xs.length = 6 from hxl)
    obtain ⟨v0, v1, v2, v3, v4, v5, rfl⟩ := list6 hcl
    have g0 := hf 0 _ rfl
    have g1 := hf 1 _ rfl
    have g2 := hf 2 _ rfl
    have g3 := hf 3 _ rfl
    have g4 := hf 4 _ rfl
    have g5 := hf 5 _ rfl
    simp [rCellsInt, rCellsStr] at g0 g1 g2 g3 g4 g5
    obtain ⟨z0, rfl, a0, b0⟩ := cell_int Tryz.underlying3 g0
    obtain ⟨z1, rfl, a1, b1⟩ := cell_int Tryz.underlying3 g1
    obtain ⟨z2, rfl, a2, b2⟩ := cell_int Tryz.underlying3 g2
    obtain ⟨z3, rfl, a3, b3⟩ := cell_int Tryz.underlying3 g3
    obtain ⟨z4, rfl, a4, b4⟩ := cell_int Tryz.underlying3 g4
    obtain ⟨s, rfl, hs⟩ := cell_str Tryz.underlying9 g5
    simp only [Prod.mk.injEq] at hxy
    have hD : D i = .agg [y0.1, y1.1, y2.1, y3.1, y4.1, .lit (.string s.data.toList)] := by rw [hxy.1]; simp [hs]
    have hsz : s.data.toList.length + 1 ≤ 1048576 := by
      rw [hD] at hDi
      simp only [Rows.uptoBulk, Rows.uptoBulkAll] at hDi
      omega
    rw [Array.length_toList] at hsz
    have hs' : s.size ≤ 1048576 := by show s.data.size ≤ _; omega
    obtain ⟨b, off, spot⟩ := a
    have hspot : spot = none := by
      obtain ⟨cs0, h10, _⟩ := hc 0 (by omega)
      rw [rCellsOp] at h10
      obtain ⟨_, hcl0, hcell0⟩ := World.cells?_some h10
      obtain ⟨x0, x1, x2, x3, x4, x5, rfl⟩ := list6 hcl0
      have := World.cell?_spot ((hcell0 0 (by omega)).trans rfl)
      simpa [Addr.add] using this
    subst hspot
    have e0 := hcell 0 (by omega)
    have e1 := hcell 1 (by omega)
    have e2 := hcell 2 (by omega)
    have e3 := hcell 3 (by omega)
    have e4 := hcell 4 (by omega)
    have e5 := hcell 5 (by omega)
    rw [add_plain, add_plain] at e0 e1 e2 e3 e4 e5
    exact ⟨b, off, z0, z1, z2, z3, z4, s, rfl, e0, e1, e2, e3, e4, e5, ⟨a0, b0, a1, b1, a2, b2, a3, b3, a4, b4, by omega⟩⟩

theorem ring_reads (os : Os) {H : Type} (enc : TypeId × Value → H) : ∃ places, DataW.whole enc Tryz.prog ((witW os).forCall (fun _ _ => 0) ⟨#[], #[.slice none 0 0], []⟩).memory Tryz.f11.params.toList Rows.ringsSpec.vars false #[.slice none 0 0].toList 8 = some ([.nil], [], places) :=
  ⟨[], by kernel_rfl⟩

set_option maxRecDepth 100000 in
theorem rings_lifted (os : Os) (started : os.Started) (H : Type) (enc : TypeId × Value → H) (F : Stop.Interp) :
    ReturnsInHanded {} Tryz.checked os 11 .any ((Rows.OpenSpec.upto Rows.ringsSpec).preRow enc Tryz.prog Tryz.f11 [] false laidL) (((Rows.OpenSpec.upto Rows.ringsSpec).at F).post enc Tryz.prog Tryz.f11 false true false false) := by
  obtain ⟨places, hx⟩ := ring_reads os enc
  have hok : Input.okWideB Tryz.prog ((witW os).forCall (fun _ _ => 0) ⟨#[], #[.slice none 0 0], []⟩) 11 ⟨#[], #[.slice none 0 0], []⟩ = true := by kernel_rfl
  refine returnsInHanded_of_row (C := Tryz.checked) (s := Rows.OpenSpec.upto Rows.ringsSpec) lOwn started (by kernel_rfl) Tryz.func11
    ⟨witW os, fun _ _ => 0, ⟨#[], #[.slice none 0 0], []⟩, World.layVars_os _ _ _, World.shaped_of_ZipB (by kernel_rfl) (by kernel_rfl), (Input.okWide_of_okWideB (base := 0) hok).1, (Input.okWide_of_okWideB hok).2,
      OpenSpec.preRow_of_cond 8 hx (by kernel_rfl) (fun k hk => by cases hk; kernel_rfl) (by kernel_rfl) (wit_met os _), ⟨by simp, by simp, fun _ => Modest.zero, by simp, by simp⟩⟩ ?_
  intro W base args ds gs before hval0 hW _ hcond _ hL _ _
  have hval : ∀ (j : Nat) t v, Tryz.f11.params[j]? = some t → args[j]? = some v → Value.okWide Tryz.prog W .any base t v := hval0
  have hW' := hW
  obtain ⟨p, q, hA0, hV, rfl, hfz, hnd⟩ := hW
  have hA : DataW.TrodAll enc Tryz.prog W 0 (fun _ => true) true Tryz.f11.params.toList args.toList ds p := hA0
  rw [Tryz.params11] at hA hval
  obtain ⟨v0, d0, rfl, rfl, h0⟩ := trodAll_one hA
  obtain ⟨rfl, rfl⟩ := trodVars_none hV
  obtain ⟨o, len, cap, rfl⟩ := okWide_slice Tryz.underlying61 (hval 0 61 v0 rfl rfl)
  have h0k := h0
  obtain ⟨fuel, hf⟩ := h0
  clear hA0 hval0
  have hk := of_decide_eq_true (hcond _ rfl)
  simp only [List.append_nil, Rows.uptoBulkAll] at hk
  simp only [List.append_nil] at hW'
  have hlt : ∀ x ∈ p, x.block < W.heap.size := fun x hx => by simpa using hW'.lt x hx
  have hargs : ∀ (W' : World), Below W.heap.size W W' → DataW.Trod enc Tryz.prog W' 0 (fun b => decide (b < W.heap.size)) true 61 (.slice o len cap) d0 p :=
    fun W' hn => Below.trod rLaidOut (by kernel_rfl) (of_decide_eq_true (by kernel_rfl)) h0k hn hlt
  have hcells : DataW.trod enc Tryz.prog W 0 (fun _ => true) true fuel 61 [.slice o len cap] = some (d0, p) := hf
  obtain ⟨hS, hn⟩ := script_of hcells (by omega)
  refine (rings_any W o len cap hS (by omega)).mono fun e W' ⟨he, hw⟩ => ?_
  subst he
  have hbelow : Below W.heap.size W W' := hw.below (Nat.le_refl _) (fun _ h => h.elim)
  have e1 : Rows.ringsSpec.fn H ([d0] ++ []) = { results := [.lit (.bool true)], args := [d0] } := rfl
  refine ⟨_, rfl, _, _, _, [], p, [], hW', ?_, ?_, ?_, hbelow.frame _, fun h => by cases h⟩
  · show DataW.TrodAll enc Tryz.prog _ _ _ _ _ _ (Rows.ringsSpec.fn H ([d0] ++ [])).results _
    rw [e1]; exact trodAll_mk1 (shut_bool Tryz.underlying4 true)
  · show DataW.TrodAll enc Tryz.prog _ _ _ _ _ _ (Rows.ringsSpec.fn H ([d0] ++ [])).args _
    rw [e1]; exact trodAll_mk1 (hargs _ hbelow)
  · first | rfl | (show _ = _; rw [e1]; rfl)

set_option maxHeartbeats 16000000 in
theorem rings_facts : joinedFacts Tryz.checked.prog 11 Tryz.f11 (Rows.OpenSpec.upto Rows.ringsSpec).bare ({ Rows.ringsUptoRow with leaving := false } : OpenClaim) = true := by
  unfold joinedFacts
  iterate 31 (refine and_t ?_ (by first | with_reducible exact pLaidOut | with_reducible exact pMapsRowed | with_reducible exact pStopsHeard | with_reducible exact pMayEnter | as_aux_lemma => kernel_rfl))
  as_aux_lemma => kernel_rfl

theorem rings0 : ({ Rows.ringsUptoRow with leaving := false } : OpenClaim).holds Tryz.pinned (Rows.OpenSpec.upto Rows.ringsSpec) :=
  OpenClaim.holds_of_cond 11 Tryz.f11 rfl rfl rfl rfl rfl rfl rfl ⟨rfl, rfl, rfl, rfl, rfl⟩ rfl rfl rfl rfl rfl (by kernel_rfl) Tryz.func11 rings_facts
    (of_decide_eq_true (by kernel_rfl)) (by unfold Func.isWrapper; rw [if_neg (of_decide_eq_false (by kernel_rfl))]; exact ⟨rfl, rfl⟩)
    (fun os started H enc _ F => by rw [OpenClaim.pre_eq_preRow]; exact rings_lifted os started H enc F)

theorem rings_row : Rows.RingsUptoSaid := row_leaving (c := { Rows.ringsUptoRow with leaving := false }) rfl rfl rfl (by kernel_rfl) rings0

end Go.Proofs.YtnhkalnihjkoeaaGreatDoor
