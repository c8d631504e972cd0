/- How values are written into a message. -/
import Derived.Test.YtapblkmlhoalgaaGreatDoorVWrite
import Derived.Test.YtapblkmlhoalgaaGreatDoorVFrom
namespace Go.Proofs.YtapblkmlhoalgaaGreatDoor
open Go.RowKit

/-- A value in memory, by its block. -/
structure VB (w : World) (n tb : Nat) (c : VC) (kind : Nat) : Prop where
  box : w.heap[n]? = some (.cells #[.pointer (some ⟨tb, 0, none⟩), .int .i64 c.n, .string (ba c.b), c.sv] 69 (0, 0))
  typ : w.cell? ⟨tb, 0, none⟩ = some (.int .i64 kind)
theorem VB.all {w : World} {n tb : Nat} {c : VC} {kind : Nat} (h : VB w n tb c kind) : w.cell? ⟨n, 0, none⟩ = some (.pointer (some ⟨tb, 0, none⟩)) ∧ w.cell? ⟨n, 1, none⟩ = some (.int .i64 c.n) ∧ w.cell? ⟨n, 2, none⟩ = some (.string (ba c.b)) ∧ w.cell? ⟨n, 3, none⟩ = some c.sv ∧ w.cell? ⟨tb, 0, none⟩ = some (.int .i64 kind) := by
  obtain ⟨h1, h2, h3, h4, _⟩ := blk4 h.box
  exact ⟨h1, h2, h3, h4, h.typ⟩

/-- Writing of the values of a type. -/
def WSaid (k : Nat) (t : PT) : Prop :=
  ∀ (w : World) (wb : Nat) (c : VC) (v : PV) (l : Bs), WB w wb l → VR w (One wb) c v → Valid k t v → l.length + (wMsg k v).length ≤ 100000000000000000 → (∃ o n j, c.sv = .slice o n j) →
    Calls Tryz.prog 56 #[.pointer (some ⟨wb, 0, none⟩), c.val] w fun e w' => PutPost w wb (l ++ wMsg k v) e w'

theorem vCell {w : World} {sv : Value} {rows : List VC} {g cap : Nat} (hO : w.ownsRow 0 69 4 sv rows.length (vCells rows)) (hv : sv = .slice (some ⟨g, 0, none⟩) rows.length cap) {j : Nat} {c : VC} (hj : rows[j]? = some c) : w.cell? ⟨g, j * 4, none⟩ = some (.pointer (some c.a)) ∧ w.cell? ⟨g, j * 4 + 1, none⟩ = some (.int .i64 c.n) ∧ w.cell? ⟨g, j * 4 + 2, none⟩ = some (.string (ba c.b)) ∧ w.cell? ⟨g, j * 4 + 3, none⟩ = some c.sv := by
  subst hv
  obtain ⟨h1, h2, h3, h4⟩ := vCells_get rows j c hj
  have hl := (List.getElem?_eq_some_iff.1 hj).1
  refine ⟨?_, ?_, ?_, ?_⟩
  · rw [hO.cellAt (j * 4) (by omega)]; exact h1
  · rw [hO.cellAt (j * 4 + 1) (by omega)]; exact h2
  · rw [hO.cellAt (j * 4 + 2) (by omega)]; exact h3
  · rw [hO.cellAt (j * 4 + 3) (by omega)]; exact h4
theorem VR.sliced {w : World} {X : Nat → Prop} {c : VC} {p : PV} (h : VR w X c p) : ∃ o n j, c.sv = .slice o n j := by
  obtain ⟨_, _, _, rows, hO, _, _⟩ := h.open
  obtain ⟨a, cap, e⟩ := own_slice hO
  exact ⟨_, _, _, e⟩

set_option maxHeartbeats 8000000 in
set_option maxRecDepth 100000 in
theorem several_any {k : Nat} (w : World) (wb : Nat) (sv : Value) (rows : List VC) (vs : List PV) (l : Bs) (hT : ∀ v ∈ vs, ∃ t, WSaid k t ∧ Valid k t v) (h : WB w wb l) (hO : w.ownsRow 0 69 4 sv rows.length (vCells rows)) (hx : ∀ g, sv.ownBlock = some g → ¬ One wb g) (hL : VL w (One wb) rows vs) (h300 : vs.length ≤ 300) (hl : l.length + (vs.flatMap (wMsg k)).length ≤ 100000000000000000) :
    Calls Tryz.prog 105 #[.pointer (some ⟨wb, 0, none⟩), sv] w fun e w' => PutPost w wb (l ++ vs.flatMap (wMsg k)) e w' := by
  have hrl : rows.length = vs.length := hL.1
  have hr300 : rows.length ≤ 300 := by omega
  have HLL := hide hL
  have HW := hide h
  have HT := hide hT
  have HO := hide hO
  have HXX := hide hx
  have HL := hide hl
  obtain ⟨ea, ecap, hsv⟩ := own_slice hO
  have HRL := hide hrl
  clear hL h hT hO hx hl hrl
  subst hsv
  go_enter Tryz.func105, Tryz.ntmps105
  go_wp2_with fail
  go_loopw [8] (fun i wr => ∃ j : Nat, j ≤ rows.length ∧ i = .int .i64 j ∧ Hid (WB wr wb (l ++ (vs.take j).flatMap (wMsg k))) ∧ Hid (Fr (One wb) w wr)) (fun i _ => rows.length - (intOf i).toNat)
  case atStart => exact ⟨0, by omega, rfl, by simpa using HW, Fr.refl _ _⟩
  case round =>
    obtain ⟨j, hj, rfl, HB, HF⟩ := hrel
    by_cases hlt : j < rows.length
    · obtain ⟨g, cap, hv⟩ := own_some HO.out (by omega)
      simp at hv
      obtain ⟨rfl, rfl⟩ := hv
      obtain ⟨⟨ca, cn, cb, csv⟩, hc⟩ : ∃ c, rows[j]? = some c := ⟨rows[j], by simp⟩
      obtain ⟨v, hv⟩ : ∃ v, vs[j]? = some v := ⟨vs[j]'(by have := HRL.out; omega), by simp⟩
      have hgl : g < w.heap.size := (HO.out.lt g rfl).2
      have hgn : ¬ One wb g := HXX.out g rfl
      obtain ⟨c0, c1, c2, c3⟩ := vCell HO.out rfl hc
      have d0 := (HF.out.cell (a := ⟨g, j * 4, none⟩) hgl hgn).trans c0
      have d1 := (HF.out.cell (a := ⟨g, j * 4 + 1, none⟩) hgl hgn).trans c1
      have d2 := (HF.out.cell (a := ⟨g, j * 4 + 2, none⟩) hgl hgn).trans c2
      have d3 := (HF.out.cell (a := ⟨g, j * 4 + 3, none⟩) hgl hgn).trans c3
      have hvr := HLL.out.2 j _ v hc hv
      obtain ⟨o, n, m, hs⟩ := hvr.sliced
      simp only at hs
      subst hs
      have HVR := hide (hvr.keep HF)
      obtain ⟨t, hWS, hVal⟩ := HT.out v (List.mem_of_getElem? hv)
      have HWS := hide hWS
      have HVal := hide hVal
      have HTK : Hid ((vs.take (j + 1)).flatMap (wMsg k) = (vs.take j).flatMap (wMsg k) ++ wMsg k v) := by
        show _ = _
        obtain ⟨hq, he⟩ := List.getElem?_eq_some_iff.1 hv
        rw [List.take_succ_eq_append_getElem hq, he]
        simp
      have HLen : Hid ((l ++ (vs.take j).flatMap (wMsg k)).length + (wMsg k v).length ≤ 100000000000000000) := by
        show _ ≤ _
        have h1 := HL.out
        have h2 : (vs.flatMap (wMsg k)) = (vs.take (j + 1)).flatMap (wMsg k) ++ (vs.drop (j + 1)).flatMap (wMsg k) := by rw [← List.flatMap_append, List.take_append_drop]
        rw [h2, HTK.out] at h1
        simp only [List.length_append] at h1 ⊢
        omega
      have hI : (j : Int) < (rows.length : Int) := by omega
      clear c0 c1 c2 c3 hvr hWS hVal hc hv hgn
      go_wp2_with fail
      refine Calls.mono (R := fun e w' => PutPost wr wb ((l ++ (vs.take j).flatMap (wMsg k)) ++ wMsg k v) e w') ?_ ?_
      · refine (HWS.out _ wb ⟨ca, cn, cb, .slice o n m⟩ v (l ++ (vs.take j).flatMap (wMsg k)) (HB.out.keep (Fr.alloc Zero _ _) (fun h => h)) (HVR.out.keep (Fr.alloc _ _ _)) HVal HLen ⟨_, _, _, rfl⟩).mono ?_
        rintro e w2 ⟨rfl, hF2, hB2⟩
        exact ⟨rfl, (Fr.alloc _ _ _).trans hF2, hB2⟩
      rintro e w1 ⟨rfl, hF1, hB1⟩
      have HF1 := hide (HF.out.trans hF1)
      have HB1 := hide hB1
      clear hF1 hB1
      go_wp2_with fail
      refine ⟨⟨j + 1, by omega, by go_num, ?_, HF1⟩, by simp [intOf]; omega⟩
      rw [HTK.out, ← List.append_assoc]
      exact HB1
    · have hjl : j = rows.length := by omega
      subst hjl
      have hI : ¬ (rows.length : Int) < (rows.length : Int) := by omega
      go_wp2_with fail
      go_end0
      refine ⟨rfl, HF, ?_⟩
      have h' := HB.out
      rw [List.take_of_length_le (by have := HRL.out; omega)] at h'
      exact h'

end Go.Proofs.YtapblkmlhoalgaaGreatDoor
