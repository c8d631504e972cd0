/- Queued (P8, P9, P11): whatever the size and the steps, the law's call returns true, and its arguments read as they did. No condition. -/
import Derived.Test.YtnhkalnihjkoeaaRows
import Derived.Test.YtnhkalnihjkoeaaQQueued
import Derived.ProofKit
import Derived.SizedLaws
import Derived.Deep.SlicePairs
namespace Go.Proofs.Ytnhkalnihjkoeaa
open Go.ChangeShapes Go.WideShapes Go.ChangeAt Go.WideMaps Go.WideElems Go.RowKit

theorem qOwn : ownKnob Try.prog.godebug = none := by kernel_rfl
theorem qLaidOut : laidOutB Try.prog = true := by kernel_rfl
theorem qCellsInt : Try.prog.cellsOf 3 = 1 := by kernel_rfl
theorem qCellsStep : Try.prog.cellsOf 35 = 2 := by kernel_rfl

theorem open_cell_int {H : Type} {enc : TypeId × Value → H} {P : Program} {w : World} {base : Nat} {spare : Nat → Bool} {held : Bool} {n : Nat} {t : TypeId} {v : Value} {x : DataW H × List MemPlace} (ht : P.underlying t = some (.int .i64)) (h : DataW.trod enc P w base spare held n t [v] = some x) : ∃ z, v = .int .i64 z ∧ -9223372036854775808 ≤ z ∧ z ≤ 9223372036854775807 := by
  obtain ⟨z, h1, _, hw⟩ := DataW.trod_int ht h
  simp at h1
  subst h1
  have e1 : IntKind.i64.min = -9223372036854775808 := rfl
  have e2 : IntKind.i64.max = 9223372036854775807 := rfl
  simp [Lit.wf, e1, e2] at hw
  exact ⟨z, rfl, hw.1, hw.2⟩

set_option maxRecDepth 100000 in
theorem queued_lifted (os : Os) (started : os.Started) (H : Type) (enc : TypeId × Value → H) :
    ReturnsInHanded Rows.queuedRow.assume Try.checked os 3 .any (Rows.queuedSpec.pre6 enc Try.prog Try.f3 Rows.queuedRow.domain false) (Rows.queuedSpec.post enc Try.prog Try.f3 false true false false) := by
  refine returnsInHanded_of_change (C := Try.checked) qOwn started (by kernel_rfl) Try.func3
    (ChangeSpec.witness6 (enc := enc) (C := Try.checked) false ⟨#[], #[.int .i64 0, .slice none 0 0], []⟩ 8 (by kernel_rfl) (by kernel_rfl) (by kernel_rfl) (by kernel_rfl)) ?_
  intro W base args ds gs before hval0 hW _ _
  have hval : ∀ (j : Nat) t v, Try.f3.params[j]? = some t → args[j]? = some v → Value.okWide Try.prog W .any base t v := hval0
  have hW' := hW
  obtain ⟨p, q, hA0, hV, rfl, _, _⟩ := hW
  have hA : DataW.TrodAll enc Try.prog W 0 (fun _ => true) true Try.f3.params.toList args.toList ds p := hA0
  rw [Try.params3] at hA hval
  obtain ⟨v0, v1, d0, d1, p0, p1, rfl, rfl, rfl, h0, h1⟩ := trodAll_two hA
  obtain ⟨rfl, rfl⟩ := trodVars_none hV
  obtain ⟨z, rfl, rfl, rfl, hz⟩ := open_int Try.underlying3 (hval 0 3 v0 rfl rfl) h0
  have e1 : IntKind.i64.min = -9223372036854775808 := rfl
  have e2 : IntKind.i64.max = 9223372036854775807 := rfl
  have hz' := hz
  simp [Lit.wf, e1, e2] at hz'
  obtain ⟨o, len, cap, rfl⟩ := okWide_slice Try.underlying22 (hval 1 22 v1 rfl rfl)
  have h1k := h1
  obtain ⟨fuel, hf⟩ := h1
  clear hA0 hval0
  simp only [List.append_nil, List.nil_append] at hW'
  have hlt : ∀ x ∈ p1, x.block < W.heap.size := fun x hx => by simpa using hW'.lt x hx
  have hargs : ∀ (W' : World), Below W.heap.size W W' → DataW.Trod enc Try.prog W' 0 (fun b => decide (b < W.heap.size)) true 22 (.slice o len cap) d1 p1 :=
    fun W' hn => Below.trod qLaidOut (by kernel_rfl) (of_decide_eq_true (by kernel_rfl)) h1k hn hlt
  have hS : ∀ i, i < len → ∃ (b off : Nat) (k a : Int), o = some ⟨b, off, none⟩ ∧ W.cell? ⟨b, off + i * 2, none⟩ = some (.int .i64 k) ∧ W.cell? ⟨b, off + i * 2 + 1, none⟩ = some (.int .i64 a) ∧ -9223372036854775808 ≤ k ∧ k ≤ 9223372036854775807 ∧ -9223372036854775808 ≤ a ∧ a ≤ 9223372036854775807 := by
    intro i hi
    rcases Go.Deep.open_slice_pairs Try.underlying22 Try.underlying35 qCellsStep rfl rfl qCellsInt qCellsInt hf with ⟨hcs, hx⟩ | ⟨a, len', cap', m, n', V0, V1, D0, D1, P0, P1, hcs, _, hl, hm, hmm, hx, hc⟩
    · simp [Value.cells] at hcs
      omega
    · simp [Value.cells] at hcs
      obtain ⟨rfl, rfl, rfl⟩ := hcs
      simp only [if_true] at hmm
      obtain ⟨c0, c1, t0, t1⟩ := hc i (by omega)
      obtain ⟨k, hk, hk1, hk2⟩ := open_cell_int Try.underlying3 t0
      obtain ⟨y, hy, hy1, hy2⟩ := open_cell_int Try.underlying3 t1
      rw [hk] at c0
      rw [hy] at c1
      obtain ⟨b, off, spot⟩ := a
      have hspot : spot = none := by simpa [Addr.add] using World.cell?_spot (hc 0 (by omega)).1
      subst hspot
      rw [add_plain] at c0 c1
      exact ⟨b, off, k, y, rfl, c0, c1, hk1, hk2, hy1, hy2⟩
  refine (queued_any W z hz'.1 hz'.2 o len cap hS).mono fun e W' ⟨he, hw⟩ => ?_
  subst he
  have hbelow : Below W.heap.size W W' := hw.below (Nat.le_refl _) (fun _ h => h.elim)
  have er : Rows.queuedSpec.fn H ([.lit (.int .i64 z), d1] ++ []) = { results := [.lit (.bool true)], args := [.lit (.int .i64 z), d1] } := rfl
  refine ⟨_, rfl, _, _, _, [], p1, [], hW', ?_, ?_, ?_, hbelow.frame _, fun h => by cases h⟩
  · rw [er]; exact trodAll_mk1 (shut_bool Try.underlying4 true)
  · rw [er]; exact trodAll_mk2 (shut_int Try.underlying3 hz) (hargs _ hbelow)
  · rw [er]; rfl

theorem queued_holds : Rows.QueuedSaid :=
  OpenClaim.holds_of_wide 3 Try.f3 rfl rfl rfl rfl rfl rfl rfl ⟨rfl, rfl, rfl, rfl, rfl⟩ rfl rfl rfl rfl rfl (by kernel_rfl) Try.func3 (by kernel_rfl)
    (of_decide_eq_true (by kernel_rfl)) (by unfold Func.isWrapper; rw [if_neg (of_decide_eq_false (by kernel_rfl))]; exact ⟨rfl, rfl⟩)
    (fun os started H enc _ => queued_lifted os started H enc)

end Go.Proofs.Ytnhkalnihjkoeaa
