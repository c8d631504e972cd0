/- How values are written into a message. -/
import Derived.Test.YtdcjogpkogidaaaGreatDoorMdVWrite
import Derived.Test.YtdcjogpkogidaaaGreatDoorMdVFrom
namespace Go.Proofs.YtdcjogpkogidaaaGreatDoor
open Go.RowKit

/-- A value in memory, by its block. -/
structure VB (w : World) (n tb : Nat) (c : VC) (kind : Nat) : Prop where
  box : w.heap[n]? = some (.cells #[.pointer (some ⟨tb, 0, none⟩), .int .i64 c.n, .string (ba c.b), c.sv] 96 (0, 0))
  typ : w.cell? ⟨tb, 0, none⟩ = some (.int .i64 kind)
theorem VB.all {w : World} {n tb : Nat} {c : VC} {kind : Nat} (h : VB w n tb c kind) : w.cell? ⟨n, 0, none⟩ = some (.pointer (some ⟨tb, 0, none⟩)) ∧ w.cell? ⟨n, 1, none⟩ = some (.int .i64 c.n) ∧ w.cell? ⟨n, 2, none⟩ = some (.string (ba c.b)) ∧ w.cell? ⟨n, 3, none⟩ = some c.sv ∧ w.cell? ⟨tb, 0, none⟩ = some (.int .i64 kind) := by
  obtain ⟨h1, h2, h3, h4, _⟩ := blk4 h.box
  exact ⟨h1, h2, h3, h4, h.typ⟩

/-- Writing of the values of a type. -/
def WSaid (k : Nat) (t : PT) : Prop :=
  ∀ (w : World) (wb : Nat) (c : VC) (v : PV) (l : Bs), WB w wb l → VR w (One wb) c v → Valid k t v → l.length + (wMsg k v).length ≤ 100000000000000000 → (∃ o n j, c.sv = .slice o n j) →
    Calls Tryz.prog 78 #[.pointer (some ⟨wb, 0, none⟩), c.val] w fun e w' => PutPost w wb (l ++ wMsg k v) e w'

theorem vCell {w : World} {sv : Value} {rows : List VC} {g cap : Nat} (hO : w.ownsRow 0 96 4 sv rows.length (vCells rows)) (hv : sv = .slice (some ⟨g, 0, none⟩) rows.length cap) {j : Nat} {c : VC} (hj : rows[j]? = some c) : w.cell? ⟨g, j * 4, none⟩ = some (.pointer (some c.a)) ∧ w.cell? ⟨g, j * 4 + 1, none⟩ = some (.int .i64 c.n) ∧ w.cell? ⟨g, j * 4 + 2, none⟩ = some (.string (ba c.b)) ∧ w.cell? ⟨g, j * 4 + 3, none⟩ = some c.sv := by
  subst hv
  obtain ⟨h1, h2, h3, h4⟩ := vCells_get rows j c hj
  have hl := (List.getElem?_eq_some_iff.1 hj).1
  refine ⟨?_, ?_, ?_, ?_⟩
  · rw [hO.cellAt (j * 4) (by omega)]; exact h1
  · rw [hO.cellAt (j * 4 + 1) (by omega)]; exact h2
  · rw [hO.cellAt (j * 4 + 2) (by omega)]; exact h3
  · rw [hO.cellAt (j * 4 + 3) (by omega)]; exact h4
theorem VR.sliced {w : World} {X : Nat → Prop} {c : VC} {p : PV} (h : VR w X c p) : ∃ o n j, c.sv = .slice o n j := by
  obtain ⟨_, _, _, rows, hO, _, _⟩ := h.open
  obtain ⟨a, cap, e⟩ := own_slice hO
  exact ⟨_, _, _, e⟩

set_option maxHeartbeats 8000000 in
set_option maxRecDepth 100000 in
theorem several_any {k : Nat} (w : World) (wb : Nat) (sv : Value) (rows : List VC) (vs : List PV) (l : Bs) (hT : ∀ v ∈ vs, ∃ t, WSaid k t ∧ Valid k t v) (h : WB w wb l) (hO : w.ownsRow 0 96 4 sv rows.length (vCells rows)) (hx : ∀ g, sv.ownBlock = some g → ¬ One wb g) (hL : VL w (One wb) rows vs) (h300 : vs.length ≤ 300) (hl : l.length + (vs.flatMap (wMsg k)).length ≤ 100000000000000000) :
    Calls Tryz.prog 125 #[.pointer (some ⟨wb, 0, none⟩), sv] w fun e w' => PutPost w wb (l ++ vs.flatMap (wMsg k)) e w' := by
  have hrl : rows.length = vs.length := hL.1
  have hr300 : rows.length ≤ 300 := by omega
  have HLL := hide hL
  have HW := hide h
  have HT := hide hT
  have HO := hide hO
  have HXX := hide hx
  have HL := hide hl
  obtain ⟨ea, ecap, hsv⟩ := own_slice hO
  have HRL := hide hrl
  clear hL h hT hO hx hl hrl
  subst hsv
  go_enter Tryz.func125, Tryz.ntmps125
  go_wp2_with fail
  go_loopw [8] (fun i wr => ∃ j : Nat, j ≤ rows.length ∧ i = .int .i64 j ∧ Hid (WB wr wb (l ++ (vs.take j).flatMap (wMsg k))) ∧ Hid (Fr (One wb) w wr)) (fun i _ => rows.length - (intOf i).toNat)
  case atStart => exact ⟨0, by omega, rfl, by simpa using HW, Fr.refl _ _⟩
  case round =>
    obtain ⟨j, hj, rfl, HB, HF⟩ := hrel
    by_cases hlt : j < rows.length
    · obtain ⟨g, cap, hv⟩ := own_some HO.out (by omega)
      simp at hv
      obtain ⟨rfl, rfl⟩ := hv
      obtain ⟨⟨ca, cn, cb, csv⟩, hc⟩ : ∃ c, rows[j]? = some c := ⟨rows[j], by simp⟩
      obtain ⟨v, hv⟩ : ∃ v, vs[j]? = some v := ⟨vs[j]'(by have := HRL.out; omega), by simp⟩
      have hgl : g < w.heap.size := (HO.out.lt g rfl).2
      have hgn : ¬ One wb g := HXX.out g rfl
      obtain ⟨c0, c1, c2, c3⟩ := vCell HO.out rfl hc
      have d0 := (HF.out.cell (a := ⟨g, j * 4, none⟩) hgl hgn).trans c0
      have d1 := (HF.out.cell (a := ⟨g, j * 4 + 1, none⟩) hgl hgn).trans c1
      have d2 := (HF.out.cell (a := ⟨g, j * 4 + 2, none⟩) hgl hgn).trans c2
      have d3 := (HF.out.cell (a := ⟨g, j * 4 + 3, none⟩) hgl hgn).trans c3
      have hvr := HLL.out.2 j _ v hc hv
      obtain ⟨o, n, m, hs⟩ := hvr.sliced
      simp only at hs
      subst hs
      have HVR := hide (hvr.keep HF)
      obtain ⟨t, hWS, hVal⟩ := HT.out v (List.mem_of_getElem? hv)
      have HWS := hide hWS
      have HVal := hide hVal
      have HTK : Hid ((vs.take (j + 1)).flatMap (wMsg k) = (vs.take j).flatMap (wMsg k) ++ wMsg k v) := by
        show _ = _
        obtain ⟨hq, he⟩ := List.getElem?_eq_some_iff.1 hv
        rw [List.take_succ_eq_append_getElem hq, he]
        simp
      have HLen : Hid ((l ++ (vs.take j).flatMap (wMsg k)).length + (wMsg k v).length ≤ 100000000000000000) := by
        show _ ≤ _
        have h1 := HL.out
        have h2 : (vs.flatMap (wMsg k)) = (vs.take (j + 1)).flatMap (wMsg k) ++ (vs.drop (j + 1)).flatMap (wMsg k) := by rw [← List.flatMap_append, List.take_append_drop]
        rw [h2, HTK.out] at h1
        simp only [List.length_append] at h1 ⊢
        omega
      have hI : (j : Int) < (rows.length : Int) := by omega
      clear c0 c1 c2 c3 hvr hWS hVal hc hv hgn
      go_wp2_with fail
      refine Calls.mono (R := fun e w' => PutPost wr wb ((l ++ (vs.take j).flatMap (wMsg k)) ++ wMsg k v) e w') ?_ ?_
      · refine (HWS.out _ wb ⟨ca, cn, cb, .slice o n m⟩ v (l ++ (vs.take j).flatMap (wMsg k)) (HB.out.keep (Fr.alloc Zero _ _) (fun h => h)) (HVR.out.keep (Fr.alloc _ _ _)) HVal HLen ⟨_, _, _, rfl⟩).mono ?_
        rintro e w2 ⟨rfl, hF2, hB2⟩
        exact ⟨rfl, (Fr.alloc _ _ _).trans hF2, hB2⟩
      rintro e w1 ⟨rfl, hF1, hB1⟩
      have HF1 := hide (HF.out.trans hF1)
      have HB1 := hide hB1
      clear hF1 hB1
      go_wp2_with fail
      refine ⟨⟨j + 1, by omega, by go_num, ?_, HF1⟩, by simp [intOf]; omega⟩
      rw [HTK.out, ← List.append_assoc]
      exact HB1
    · have hjl : j = rows.length := by omega
      subst hjl
      have hI : ¬ (rows.length : Int) < (rows.length : Int) := by omega
      go_wp2_with fail
      go_end0
      refine ⟨rfl, HF, ?_⟩
      have h' := HB.out
      rw [List.take_of_length_le (by have := HRL.out; omega)] at h'
      exact h'

theorem lowestFirst_at (w : World) (wb : Nat) (l : Bs) (z : Int) (n c : Nat) (hz : z = n) (h : WB w wb l) (hl : l.length ≤ 100000000000000000) (hc : c ≤ 4) (hn : n < 9223372036854775808) :
    Calls Tryz.prog 119 #[.pointer (some ⟨wb, 0, none⟩), .int .i64 z, .int .i64 c] w fun e w' => PutPost w wb (l ++ leBytes c n) e w' := by
  subst hz
  exact lowestFirst_any w wb l n c h hl hc hn

set_option maxHeartbeats 8000000 in
set_option maxRecDepth 100000 in
theorem wvalue_0 {k : Nat} {t : PT} (w : World) (wb : Nat) (c : VC) (v : PV) (l : Bs) (h : WB w wb l) (hV : VR w (One wb) c v) (hVal : Valid (k + 1) t v) (hk : t.kind = 0) (hl : l.length + (wMsg (k + 1) v).length ≤ 100000000000000000) (hc : ∃ o n j, c.sv = .slice o n j) :
    Calls Tryz.prog 78 #[.pointer (some ⟨wb, 0, none⟩), c.val] w fun e w' => PutPost w wb (l ++ wMsg (k + 1) v) e w' := by
  have hwl := h.lt
  have HW := hide h
  obtain ⟨ca, cn, cb, csv⟩ := c
  obtain ⟨o, n, j, hc⟩ := hc
  simp only at hc
  subst hc
  obtain ⟨htr, hn, hb, rows, hO, hx, hL⟩ := hV.open
  simp only at htr hn hb hO hx
  subst hn hb
  obtain ⟨tb, tsv, trows, rfl, htb, htx, _⟩ := htr.open
  obtain ⟨hof, hV'⟩ := hVal
  have htl := lt_of_heap htb
  have k0 : w.cell? ⟨tb, 0, none⟩ = some (.int .i64 0) := by rw [cell_of_heap htb, hof, hk]; rfl
  have hne : tb ≠ wb := fun e => htx e
  have hnw : w.heap.size ≠ wb := by omega
  simp only [hk] at hV'
  obtain ⟨hb0, hp0, hn0, hn1⟩ := hV'
  obtain ⟨m, hm⟩ : ∃ m : Nat, v.num = m := ⟨v.num.toNat, by omega⟩
  have hmm : m < 9223372036854775808 := by have : mostOf 0 ≤ 4294967295 := by decide
                                           omega
  have HL17 : Hid (l.length ≤ 100000000000000000) := by show _ ≤ _; omega
  have HE : Hid (wMsg (k + 1) v = leBytes (widthOf 0) m) := by
    show _ = _
    simp only [wMsg, hof, hk, hm]
    rfl
  have HM := hide hm
  clear hm
  have HLI := hide hl
  clear h hV htr htb htx hof hl hk hn0 hn1 hb0 hp0
  simp only [VC.val]
  have HB0 : Hid (WB (w.alloc (.cells #[.pointer (some ⟨tb, 0, none⟩), .int .i64 v.num, .string (ba v.bytes), .slice o n j] 96)) wb l) := HW.out.keep (Fr.alloc Zero _ _) (fun h => h)
  have HA : Hid (Fr (One wb) w (w.alloc (.cells #[.pointer (some ⟨tb, 0, none⟩), .int .i64 v.num, .string (ba v.bytes), .slice o n j] 96))) := Fr.alloc _ _ _
  go_enter Tryz.func78, Tryz.ntmps78
  go_wp2_with fail
  have b0 : (w.alloc (.cells #[.pointer (some ⟨tb, 0, none⟩), .int .i64 v.num, .string (ba v.bytes), .slice o n j] 96)).cell? ⟨w.heap.size, 0, none⟩ = some (.pointer (some ⟨tb, 0, none⟩)) := by rw [cell_of_heap (heap_new_at rfl _)]; rfl
  have b1 : (w.alloc (.cells #[.pointer (some ⟨tb, 0, none⟩), .int .i64 v.num, .string (ba v.bytes), .slice o n j] 96)).cell? ⟨w.heap.size, 1, none⟩ = some (.int .i64 v.num) := by rw [cell_of_heap (heap_new_at rfl _)]; rfl
  have b2 : (w.alloc (.cells #[.pointer (some ⟨tb, 0, none⟩), .int .i64 v.num, .string (ba v.bytes), .slice o n j] 96)).cell? ⟨w.heap.size, 2, none⟩ = some (.string (ba v.bytes)) := by rw [cell_of_heap (heap_new_at rfl _)]; rfl
  have b4 : (w.alloc (.cells #[.pointer (some ⟨tb, 0, none⟩), .int .i64 v.num, .string (ba v.bytes), .slice o n j] 96)).cell? ⟨tb, 0, none⟩ = some (.int .i64 0) := by rw [World.cell?_alloc_lt _ _ ⟨tb, 0, none⟩ htl]; exact k0
  go_region_held3 (fun w' => w'.cell? ⟨w.heap.size, 0, none⟩ = some (.pointer (some ⟨tb, 0, none⟩)) ∧ w'.cell? ⟨w.heap.size, 1, none⟩ = some (.int .i64 v.num) ∧ w'.cell? ⟨tb, 0, none⟩ = some (.int .i64 0))
    (first | assumption | exact ⟨b0, b1, b4⟩ | exact ⟨q0, q1, q4⟩)
    (first
    | (go_at_call 120; refine (width_k 0 (by omega) _).mono ?_; rintro e w2 ⟨rfl, rfl⟩)
    | (go_at_call 119; refine (lowestFirst_at _ wb l v.num m (widthOf 0) HM (by exact HB0.out.same rfl) HL17 (by decide) hmm).mono ?_; rintro e w2 ⟨rfl, hF2, hB2⟩
       have HB2 := hide hB2
       have HF2 : Hid (Fr (One wb) w w2) := HA.out.trans ((Fr.dr _ _).trans hF2)
       have q0 := (hF2.cell (a := ⟨w.heap.size, 0, none⟩) (by simp) (fun e => hnw e)).trans b0
       have q1 := (hF2.cell (a := ⟨w.heap.size, 1, none⟩) (by simp) (fun e => hnw e)).trans b1
       have q4 := (hF2.cell (a := ⟨tb, 0, none⟩) (by simp; omega) (fun e => hne e)).trans b4
       clear hF2 hB2))
  go_wp2_with fail
  go_end0
  rw [HE.out]
  exact ⟨rfl, HF2, HB2⟩

set_option maxHeartbeats 8000000 in
set_option maxRecDepth 100000 in
theorem wvalue_1 {k : Nat} {t : PT} (w : World) (wb : Nat) (c : VC) (v : PV) (l : Bs) (h : WB w wb l) (hV : VR w (One wb) c v) (hVal : Valid (k + 1) t v) (hk : t.kind = 1) (hl : l.length + (wMsg (k + 1) v).length ≤ 100000000000000000) (hc : ∃ o n j, c.sv = .slice o n j) :
    Calls Tryz.prog 78 #[.pointer (some ⟨wb, 0, none⟩), c.val] w fun e w' => PutPost w wb (l ++ wMsg (k + 1) v) e w' := by
  have hwl := h.lt
  have HW := hide h
  obtain ⟨ca, cn, cb, csv⟩ := c
  obtain ⟨o, n, j, hc⟩ := hc
  simp only at hc
  subst hc
  obtain ⟨htr, hn, hb, rows, hO, hx, hL⟩ := hV.open
  simp only at htr hn hb hO hx
  subst hn hb
  obtain ⟨tb, tsv, trows, rfl, htb, htx, _⟩ := htr.open
  obtain ⟨hof, hV'⟩ := hVal
  have htl := lt_of_heap htb
  have k0 : w.cell? ⟨tb, 0, none⟩ = some (.int .i64 1) := by rw [cell_of_heap htb, hof, hk]; rfl
  have hne : tb ≠ wb := fun e => htx e
  have hnw : w.heap.size ≠ wb := by omega
  simp only [hk] at hV'
  obtain ⟨hb0, hp0, hn0, hn1⟩ := hV'
  obtain ⟨m, hm⟩ : ∃ m : Nat, v.num = m := ⟨v.num.toNat, by omega⟩
  have hmm : m < 9223372036854775808 := by have : mostOf 1 ≤ 4294967295 := by decide
                                           omega
  have HL17 : Hid (l.length ≤ 100000000000000000) := by show _ ≤ _; omega
  have HE : Hid (wMsg (k + 1) v = leBytes (widthOf 1) m) := by
    show _ = _
    simp only [wMsg, hof, hk, hm]
    rfl
  have HM := hide hm
  clear hm
  have HLI := hide hl
  clear h hV htr htb htx hof hl hk hn0 hn1 hb0 hp0
  simp only [VC.val]
  have HB0 : Hid (WB (w.alloc (.cells #[.pointer (some ⟨tb, 0, none⟩), .int .i64 v.num, .string (ba v.bytes), .slice o n j] 96)) wb l) := HW.out.keep (Fr.alloc Zero _ _) (fun h => h)
  have HA : Hid (Fr (One wb) w (w.alloc (.cells #[.pointer (some ⟨tb, 0, none⟩), .int .i64 v.num, .string (ba v.bytes), .slice o n j] 96))) := Fr.alloc _ _ _
  go_enter Tryz.func78, Tryz.ntmps78
  go_wp2_with fail
  have b0 : (w.alloc (.cells #[.pointer (some ⟨tb, 0, none⟩), .int .i64 v.num, .string (ba v.bytes), .slice o n j] 96)).cell? ⟨w.heap.size, 0, none⟩ = some (.pointer (some ⟨tb, 0, none⟩)) := by rw [cell_of_heap (heap_new_at rfl _)]; rfl
  have b1 : (w.alloc (.cells #[.pointer (some ⟨tb, 0, none⟩), .int .i64 v.num, .string (ba v.bytes), .slice o n j] 96)).cell? ⟨w.heap.size, 1, none⟩ = some (.int .i64 v.num) := by rw [cell_of_heap (heap_new_at rfl _)]; rfl
  have b2 : (w.alloc (.cells #[.pointer (some ⟨tb, 0, none⟩), .int .i64 v.num, .string (ba v.bytes), .slice o n j] 96)).cell? ⟨w.heap.size, 2, none⟩ = some (.string (ba v.bytes)) := by rw [cell_of_heap (heap_new_at rfl _)]; rfl
  have b4 : (w.alloc (.cells #[.pointer (some ⟨tb, 0, none⟩), .int .i64 v.num, .string (ba v.bytes), .slice o n j] 96)).cell? ⟨tb, 0, none⟩ = some (.int .i64 1) := by rw [World.cell?_alloc_lt _ _ ⟨tb, 0, none⟩ htl]; exact k0
  go_region_held3 (fun w' => w'.cell? ⟨w.heap.size, 0, none⟩ = some (.pointer (some ⟨tb, 0, none⟩)) ∧ w'.cell? ⟨w.heap.size, 1, none⟩ = some (.int .i64 v.num) ∧ w'.cell? ⟨tb, 0, none⟩ = some (.int .i64 1))
    (first | assumption | exact ⟨b0, b1, b4⟩ | exact ⟨q0, q1, q4⟩)
    (first
    | (go_at_call 120; refine (width_k 1 (by omega) _).mono ?_; rintro e w2 ⟨rfl, rfl⟩)
    | (go_at_call 119; refine (lowestFirst_at _ wb l v.num m (widthOf 1) HM (by exact HB0.out.same rfl) HL17 (by decide) hmm).mono ?_; rintro e w2 ⟨rfl, hF2, hB2⟩
       have HB2 := hide hB2
       have HF2 : Hid (Fr (One wb) w w2) := HA.out.trans ((Fr.dr _ _).trans hF2)
       have q0 := (hF2.cell (a := ⟨w.heap.size, 0, none⟩) (by simp) (fun e => hnw e)).trans b0
       have q1 := (hF2.cell (a := ⟨w.heap.size, 1, none⟩) (by simp) (fun e => hnw e)).trans b1
       have q4 := (hF2.cell (a := ⟨tb, 0, none⟩) (by simp; omega) (fun e => hne e)).trans b4
       clear hF2 hB2))
  go_wp2_with fail
  go_end0
  rw [HE.out]
  exact ⟨rfl, HF2, HB2⟩

set_option maxHeartbeats 8000000 in
set_option maxRecDepth 100000 in
theorem wvalue_2 {k : Nat} {t : PT} (w : World) (wb : Nat) (c : VC) (v : PV) (l : Bs) (h : WB w wb l) (hV : VR w (One wb) c v) (hVal : Valid (k + 1) t v) (hk : t.kind = 2) (hl : l.length + (wMsg (k + 1) v).length ≤ 100000000000000000) (hc : ∃ o n j, c.sv = .slice o n j) :
    Calls Tryz.prog 78 #[.pointer (some ⟨wb, 0, none⟩), c.val] w fun e w' => PutPost w wb (l ++ wMsg (k + 1) v) e w' := by
  have hwl := h.lt
  have HW := hide h
  obtain ⟨ca, cn, cb, csv⟩ := c
  obtain ⟨o, n, j, hc⟩ := hc
  simp only at hc
  subst hc
  obtain ⟨htr, hn, hb, rows, hO, hx, hL⟩ := hV.open
  simp only at htr hn hb hO hx
  subst hn hb
  obtain ⟨tb, tsv, trows, rfl, htb, htx, _⟩ := htr.open
  obtain ⟨hof, hV'⟩ := hVal
  have htl := lt_of_heap htb
  have k0 : w.cell? ⟨tb, 0, none⟩ = some (.int .i64 2) := by rw [cell_of_heap htb, hof, hk]; rfl
  have hne : tb ≠ wb := fun e => htx e
  have hnw : w.heap.size ≠ wb := by omega
  simp only [hk] at hV'
  obtain ⟨hb0, hp0, hn0, hn1⟩ := hV'
  obtain ⟨m, hm⟩ : ∃ m : Nat, v.num = m := ⟨v.num.toNat, by omega⟩
  have hmm : m < 9223372036854775808 := by have : mostOf 2 ≤ 4294967295 := by decide
                                           omega
  have HL17 : Hid (l.length ≤ 100000000000000000) := by show _ ≤ _; omega
  have HE : Hid (wMsg (k + 1) v = leBytes (widthOf 2) m) := by
    show _ = _
    simp only [wMsg, hof, hk, hm]
    rfl
  have HM := hide hm
  clear hm
  have HLI := hide hl
  clear h hV htr htb htx hof hl hk hn0 hn1 hb0 hp0
  simp only [VC.val]
  have HB0 : Hid (WB (w.alloc (.cells #[.pointer (some ⟨tb, 0, none⟩), .int .i64 v.num, .string (ba v.bytes), .slice o n j] 96)) wb l) := HW.out.keep (Fr.alloc Zero _ _) (fun h => h)
  have HA : Hid (Fr (One wb) w (w.alloc (.cells #[.pointer (some ⟨tb, 0, none⟩), .int .i64 v.num, .string (ba v.bytes), .slice o n j] 96))) := Fr.alloc _ _ _
  go_enter Tryz.func78, Tryz.ntmps78
  go_wp2_with fail
  have b0 : (w.alloc (.cells #[.pointer (some ⟨tb, 0, none⟩), .int .i64 v.num, .string (ba v.bytes), .slice o n j] 96)).cell? ⟨w.heap.size, 0, none⟩ = some (.pointer (some ⟨tb, 0, none⟩)) := by rw [cell_of_heap (heap_new_at rfl _)]; rfl
  have b1 : (w.alloc (.cells #[.pointer (some ⟨tb, 0, none⟩), .int .i64 v.num, .string (ba v.bytes), .slice o n j] 96)).cell? ⟨w.heap.size, 1, none⟩ = some (.int .i64 v.num) := by rw [cell_of_heap (heap_new_at rfl _)]; rfl
  have b2 : (w.alloc (.cells #[.pointer (some ⟨tb, 0, none⟩), .int .i64 v.num, .string (ba v.bytes), .slice o n j] 96)).cell? ⟨w.heap.size, 2, none⟩ = some (.string (ba v.bytes)) := by rw [cell_of_heap (heap_new_at rfl _)]; rfl
  have b4 : (w.alloc (.cells #[.pointer (some ⟨tb, 0, none⟩), .int .i64 v.num, .string (ba v.bytes), .slice o n j] 96)).cell? ⟨tb, 0, none⟩ = some (.int .i64 2) := by rw [World.cell?_alloc_lt _ _ ⟨tb, 0, none⟩ htl]; exact k0
  go_region_held3 (fun w' => w'.cell? ⟨w.heap.size, 0, none⟩ = some (.pointer (some ⟨tb, 0, none⟩)) ∧ w'.cell? ⟨w.heap.size, 1, none⟩ = some (.int .i64 v.num) ∧ w'.cell? ⟨tb, 0, none⟩ = some (.int .i64 2))
    (first | assumption | exact ⟨b0, b1, b4⟩ | exact ⟨q0, q1, q4⟩)
    (first
    | (go_at_call 120; refine (width_k 2 (by omega) _).mono ?_; rintro e w2 ⟨rfl, rfl⟩)
    | (go_at_call 119; refine (lowestFirst_at _ wb l v.num m (widthOf 2) HM (by exact HB0.out.same rfl) HL17 (by decide) hmm).mono ?_; rintro e w2 ⟨rfl, hF2, hB2⟩
       have HB2 := hide hB2
       have HF2 : Hid (Fr (One wb) w w2) := HA.out.trans ((Fr.dr _ _).trans hF2)
       have q0 := (hF2.cell (a := ⟨w.heap.size, 0, none⟩) (by simp) (fun e => hnw e)).trans b0
       have q1 := (hF2.cell (a := ⟨w.heap.size, 1, none⟩) (by simp) (fun e => hnw e)).trans b1
       have q4 := (hF2.cell (a := ⟨tb, 0, none⟩) (by simp; omega) (fun e => hne e)).trans b4
       clear hF2 hB2))
  go_wp2_with fail
  go_end0
  rw [HE.out]
  exact ⟨rfl, HF2, HB2⟩

set_option maxHeartbeats 8000000 in
set_option maxRecDepth 100000 in
theorem wvalue_3 {k : Nat} {t : PT} (w : World) (wb : Nat) (c : VC) (v : PV) (l : Bs) (h : WB w wb l) (hV : VR w (One wb) c v) (hVal : Valid (k + 1) t v) (hk : t.kind = 3) (hl : l.length + (wMsg (k + 1) v).length ≤ 100000000000000000) (hc : ∃ o n j, c.sv = .slice o n j) :
    Calls Tryz.prog 78 #[.pointer (some ⟨wb, 0, none⟩), c.val] w fun e w' => PutPost w wb (l ++ wMsg (k + 1) v) e w' := by
  have hwl := h.lt
  have HW := hide h
  obtain ⟨ca, cn, cb, csv⟩ := c
  obtain ⟨o, n, j, hc⟩ := hc
  simp only at hc
  subst hc
  obtain ⟨htr, hn, hb, rows, hO, hx, hL⟩ := hV.open
  simp only at htr hn hb hO hx
  subst hn hb
  obtain ⟨tb, tsv, trows, rfl, htb, htx, _⟩ := htr.open
  obtain ⟨hof, hV'⟩ := hVal
  have htl := lt_of_heap htb
  have k0 : w.cell? ⟨tb, 0, none⟩ = some (.int .i64 3) := by rw [cell_of_heap htb, hof, hk]; rfl
  have hne : tb ≠ wb := fun e => htx e
  have hnw : w.heap.size ≠ wb := by omega
  simp only [hk] at hV'
  obtain ⟨hb0, hp0, hn0, hn1⟩ := hV'
  have HE : Hid (wMsg (k + 1) v = beBytes 8 (ofInt64 v.num)) := by
    show _ = _
    simp only [wMsg, hof, hk]
    rfl
  have HLI := hide hl
  clear h hV htr htb htx hof hl hk hb0 hp0
  simp only [VC.val]
  have HB0 : Hid (WB (w.alloc (.cells #[.pointer (some ⟨tb, 0, none⟩), .int .i64 v.num, .string (ba v.bytes), .slice o n j] 96)) wb l) := HW.out.keep (Fr.alloc Zero _ _) (fun h => h)
  have HA : Hid (Fr (One wb) w (w.alloc (.cells #[.pointer (some ⟨tb, 0, none⟩), .int .i64 v.num, .string (ba v.bytes), .slice o n j] 96))) := Fr.alloc _ _ _
  go_enter Tryz.func78, Tryz.ntmps78
  go_wp2_with fail
  refine (highestFirst_any _ wb l v.num HB0 (by have := HLI.out; omega) hn1 hn0).mono ?_
  rintro e w2 ⟨rfl, hF2, hB2⟩
  have HB2 := hide hB2
  have HF2 := hide (HA.out.trans hF2)
  clear hF2 hB2
  go_wp2_with fail
  go_end0
  rw [HE.out]
  exact ⟨rfl, HF2, HB2⟩

set_option maxHeartbeats 8000000 in
set_option maxRecDepth 100000 in
theorem wvalue_4 {k : Nat} {t : PT} (w : World) (wb : Nat) (c : VC) (v : PV) (l : Bs) (h : WB w wb l) (hV : VR w (One wb) c v) (hVal : Valid (k + 1) t v) (hk : t.kind = 4) (hl : l.length + (wMsg (k + 1) v).length ≤ 100000000000000000) (hc : ∃ o n j, c.sv = .slice o n j) :
    Calls Tryz.prog 78 #[.pointer (some ⟨wb, 0, none⟩), c.val] w fun e w' => PutPost w wb (l ++ wMsg (k + 1) v) e w' := by
  have hwl := h.lt
  have HW := hide h
  obtain ⟨ca, cn, cb, csv⟩ := c
  obtain ⟨o, n, j, hc⟩ := hc
  simp only at hc
  subst hc
  obtain ⟨htr, hn, hb, rows, hO, hx, hL⟩ := hV.open
  simp only at htr hn hb hO hx
  subst hn hb
  obtain ⟨tb, tsv, trows, rfl, htb, htx, _⟩ := htr.open
  obtain ⟨hof, hV'⟩ := hVal
  have htl := lt_of_heap htb
  have k0 : w.cell? ⟨tb, 0, none⟩ = some (.int .i64 4) := by rw [cell_of_heap htb, hof, hk]; rfl
  have hne : tb ≠ wb := fun e => htx e
  have hnw : w.heap.size ≠ wb := by omega
  simp only [hk] at hV'
  obtain ⟨hb0, hp0, hn0⟩ := hV'
  have HE : Hid (wMsg (k + 1) v = [UInt8.ofNat v.num.toNat]) := by
    show _ = _
    simp only [wMsg, hof, hk]
    rfl
  have HLI := hide hl
  clear h hV htr htb htx hof hl hk hb0 hp0
  simp only [VC.val]
  have HB0 : Hid (WB (w.alloc (.cells #[.pointer (some ⟨tb, 0, none⟩), .int .i64 v.num, .string (ba v.bytes), .slice o n j] 96)) wb l) := HW.out.keep (Fr.alloc Zero _ _) (fun h => h)
  have HA : Hid (Fr (One wb) w (w.alloc (.cells #[.pointer (some ⟨tb, 0, none⟩), .int .i64 v.num, .string (ba v.bytes), .slice o n j] 96))) := Fr.alloc _ _ _
  go_enter Tryz.func78, Tryz.ntmps78
  go_wp2_with fail
  have b0 : (w.alloc (.cells #[.pointer (some ⟨tb, 0, none⟩), .int .i64 v.num, .string (ba v.bytes), .slice o n j] 96)).cell? ⟨w.heap.size, 0, none⟩ = some (.pointer (some ⟨tb, 0, none⟩)) := by rw [cell_of_heap (heap_new_at rfl _)]; rfl
  have b1 : (w.alloc (.cells #[.pointer (some ⟨tb, 0, none⟩), .int .i64 v.num, .string (ba v.bytes), .slice o n j] 96)).cell? ⟨w.heap.size, 1, none⟩ = some (.int .i64 v.num) := by rw [cell_of_heap (heap_new_at rfl _)]; rfl
  have b2 : (w.alloc (.cells #[.pointer (some ⟨tb, 0, none⟩), .int .i64 v.num, .string (ba v.bytes), .slice o n j] 96)).cell? ⟨w.heap.size, 2, none⟩ = some (.string (ba v.bytes)) := by rw [cell_of_heap (heap_new_at rfl _)]; rfl
  have b4 : (w.alloc (.cells #[.pointer (some ⟨tb, 0, none⟩), .int .i64 v.num, .string (ba v.bytes), .slice o n j] 96)).cell? ⟨tb, 0, none⟩ = some (.int .i64 4) := by rw [World.cell?_alloc_lt _ _ ⟨tb, 0, none⟩ htl]; exact k0
  go_region_held3 (fun w' => w'.cell? ⟨w.heap.size, 1, none⟩ = some (.int .i64 v.num))
    (first | assumption | exact b1 | exact q1)
    (first
    | (go_at_call 122; refine (put_at _ wb l (UInt8.ofNat v.num.toNat) _ (wrap8 _ _ (by omega)) (by exact HB0.out.same rfl) (by have := HLI.out; omega)).mono ?_; rintro e w2 ⟨rfl, hF2, hB2⟩
       have HB2 := hide hB2
       have HF2 : Hid (Fr (One wb) w w2) := HA.out.trans ((Fr.dr _ _).trans hF2)
       have q1 := (hF2.cell (a := ⟨w.heap.size, 1, none⟩) (by simp) (fun e => hnw e)).trans b1
       clear hF2 hB2))
  go_wp2_with fail
  go_end0
  rw [HE.out]
  exact ⟨rfl, HF2, HB2⟩

set_option maxHeartbeats 8000000 in
set_option maxRecDepth 100000 in
theorem wvalue_5 {k : Nat} {t : PT} (w : World) (wb : Nat) (c : VC) (v : PV) (l : Bs) (h : WB w wb l) (hV : VR w (One wb) c v) (hVal : Valid (k + 1) t v) (hk : t.kind = 5) (hl : l.length + (wMsg (k + 1) v).length ≤ 100000000000000000) (hc : ∃ o n j, c.sv = .slice o n j) :
    Calls Tryz.prog 78 #[.pointer (some ⟨wb, 0, none⟩), c.val] w fun e w' => PutPost w wb (l ++ wMsg (k + 1) v) e w' := by
  have hwl := h.lt
  have HW := hide h
  obtain ⟨ca, cn, cb, csv⟩ := c
  obtain ⟨o, n, j, hc⟩ := hc
  simp only at hc
  subst hc
  obtain ⟨htr, hn, hb, rows, hO, hx, hL⟩ := hV.open
  simp only at htr hn hb hO hx
  subst hn hb
  obtain ⟨tb, tsv, trows, rfl, htb, htx, _⟩ := htr.open
  obtain ⟨hof, hV'⟩ := hVal
  have htl := lt_of_heap htb
  have k0 : w.cell? ⟨tb, 0, none⟩ = some (.int .i64 5) := by rw [cell_of_heap htb, hof, hk]; rfl
  have hne : tb ≠ wb := fun e => htx e
  have hnw : w.heap.size ≠ wb := by omega
  simp only [hk] at hV'
  have h300 : v.bytes.length ≤ 300 := hV'.2.2.1
  have HE : Hid (wMsg (k + 1) v = wCount v.bytes.length ++ v.bytes) := by
    show _ = _
    simp only [wMsg, hof, hk]
    rfl
  have HLE : Hid (l.length + v.bytes.length + 2 ≤ 200000000000000000) := by
    show _ ≤ _
    rw [HE.out, List.length_append] at hl
    omega
  have HLC : Hid ((l ++ wCount v.bytes.length).length + v.bytes.length ≤ 1000000000000000000) := by
    show _ ≤ _
    have h1 : (wCount v.bytes.length).length ≤ 2 := by unfold wCount; split <;> simp
    have h2 := HLE.out
    rw [List.length_append]
    omega
  have hbs := ba_size v.bytes
  have HLI := hide hl
  clear h hV htr htb htx hof hl hk hV'
  simp only [VC.val]
  have HB0 : Hid (WB (w.alloc (.cells #[.pointer (some ⟨tb, 0, none⟩), .int .i64 v.num, .string (ba v.bytes), .slice o n j] 96)) wb l) := HW.out.keep (Fr.alloc Zero _ _) (fun h => h)
  have HA : Hid (Fr (One wb) w (w.alloc (.cells #[.pointer (some ⟨tb, 0, none⟩), .int .i64 v.num, .string (ba v.bytes), .slice o n j] 96))) := Fr.alloc _ _ _
  go_enter Tryz.func78, Tryz.ntmps78
  go_wp2_with fail
  refine (wcount_any _ wb l v.bytes.length HB0 (by have := HLI.out; omega) h300).mono ?_
  rintro e w2 ⟨rfl, hF2, hB2⟩
  have HB2 := hide hB2
  have HF2 := hide (HA.out.trans hF2)
  have b2 : w2.cell? ⟨w.heap.size, 2, none⟩ = some (.string (ba v.bytes)) := by
    rw [cell_of_heap (hF2.keep (heap_new_at rfl _) (fun e => hnw e))]; rfl
  clear hF2 hB2
  go_wp2_with fail
  go_region_held3 (fun w' => w'.cell? ⟨w.heap.size, 2, none⟩ = some (.string (ba v.bytes)))
    (first | assumption | exact b2 | exact q2)
    (first
    | (go_at_call 124; refine (putAll_any _ wb (l ++ wCount v.bytes.length) v.bytes (by exact HB2.out.same rfl) HLC).mono ?_; rintro e w3 ⟨rfl, hF3, hB3⟩
       have HB3 := hide hB3
       have HF3 : Hid (Fr (One wb) w w3) := HF2.out.trans ((Fr.dr _ _).trans hF3)
       have q2 := (hF3.cell (a := ⟨w.heap.size, 2, none⟩) (World.block_lt_of_cell? w2 _ b2) (fun e => hnw e)).trans b2
       clear hF3 hB3))
  go_wp2_with fail
  go_end0
  rw [HE.out]
  refine ⟨rfl, HF3, ?_⟩
  have h' := HB3.out
  rw [List.append_assoc] at h'
  exact h'

set_option maxHeartbeats 8000000 in
set_option maxRecDepth 100000 in
theorem wvalue_6 {k : Nat} {t : PT} (w : World) (wb : Nat) (c : VC) (v : PV) (l : Bs) (h : WB w wb l) (hV : VR w (One wb) c v) (hVal : Valid (k + 1) t v) (hk : t.kind = 6) (hl : l.length + (wMsg (k + 1) v).length ≤ 100000000000000000) (hc : ∃ o n j, c.sv = .slice o n j) :
    Calls Tryz.prog 78 #[.pointer (some ⟨wb, 0, none⟩), c.val] w fun e w' => PutPost w wb (l ++ wMsg (k + 1) v) e w' := by
  have hwl := h.lt
  have HW := hide h
  obtain ⟨ca, cn, cb, csv⟩ := c
  obtain ⟨o, n, j, hc⟩ := hc
  simp only at hc
  subst hc
  obtain ⟨htr, hn, hb, rows, hO, hx, hL⟩ := hV.open
  simp only at htr hn hb hO hx
  subst hn hb
  obtain ⟨tb, tsv, trows, rfl, htb, htx, _⟩ := htr.open
  obtain ⟨hof, hV'⟩ := hVal
  have htl := lt_of_heap htb
  have k0 : w.cell? ⟨tb, 0, none⟩ = some (.int .i64 6) := by rw [cell_of_heap htb, hof, hk]; rfl
  have hne : tb ≠ wb := fun e => htx e
  have hnw : w.heap.size ≠ wb := by omega
  simp only [hk] at hV'
  have h300 : v.bytes.length ≤ 300 := hV'.2.2
  have HE : Hid (wMsg (k + 1) v = wCount v.bytes.length ++ v.bytes) := by
    show _ = _
    simp only [wMsg, hof, hk]
    rfl
  have HLE : Hid (l.length + v.bytes.length + 2 ≤ 200000000000000000) := by
    show _ ≤ _
    rw [HE.out, List.length_append] at hl
    omega
  have HLC : Hid ((l ++ wCount v.bytes.length).length + v.bytes.length ≤ 1000000000000000000) := by
    show _ ≤ _
    have h1 : (wCount v.bytes.length).length ≤ 2 := by unfold wCount; split <;> simp
    have h2 := HLE.out
    rw [List.length_append]
    omega
  have hbs := ba_size v.bytes
  have HLI := hide hl
  clear h hV htr htb htx hof hl hk hV'
  simp only [VC.val]
  have HB0 : Hid (WB (w.alloc (.cells #[.pointer (some ⟨tb, 0, none⟩), .int .i64 v.num, .string (ba v.bytes), .slice o n j] 96)) wb l) := HW.out.keep (Fr.alloc Zero _ _) (fun h => h)
  have HA : Hid (Fr (One wb) w (w.alloc (.cells #[.pointer (some ⟨tb, 0, none⟩), .int .i64 v.num, .string (ba v.bytes), .slice o n j] 96))) := Fr.alloc _ _ _
  go_enter Tryz.func78, Tryz.ntmps78
  go_wp2_with fail
  refine (wcount_any _ wb l v.bytes.length HB0 (by have := HLI.out; omega) h300).mono ?_
  rintro e w2 ⟨rfl, hF2, hB2⟩
  have HB2 := hide hB2
  have HF2 := hide (HA.out.trans hF2)
  have b2 : w2.cell? ⟨w.heap.size, 2, none⟩ = some (.string (ba v.bytes)) := by
    rw [cell_of_heap (hF2.keep (heap_new_at rfl _) (fun e => hnw e))]; rfl
  clear hF2 hB2
  go_wp2_with fail
  go_region_held3 (fun w' => w'.cell? ⟨w.heap.size, 2, none⟩ = some (.string (ba v.bytes)))
    (first | assumption | exact b2 | exact q2)
    (first
    | (go_at_call 124; refine (putAll_any _ wb (l ++ wCount v.bytes.length) v.bytes (by exact HB2.out.same rfl) HLC).mono ?_; rintro e w3 ⟨rfl, hF3, hB3⟩
       have HB3 := hide hB3
       have HF3 : Hid (Fr (One wb) w w3) := HF2.out.trans ((Fr.dr _ _).trans hF3)
       have q2 := (hF3.cell (a := ⟨w.heap.size, 2, none⟩) (World.block_lt_of_cell? w2 _ b2) (fun e => hnw e)).trans b2
       clear hF3 hB3))
  go_wp2_with fail
  go_end0
  rw [HE.out]
  refine ⟨rfl, HF3, ?_⟩
  have h' := HB3.out
  rw [List.append_assoc] at h'
  exact h'

set_option maxHeartbeats 8000000 in
set_option maxRecDepth 100000 in
theorem wvalue_9 {k : Nat} {t : PT} (hT : ∀ u ∈ t.subs, WSaid k u) (hW : WFT (k + 1) t) (w : World) (wb : Nat) (c : VC) (v : PV) (l : Bs) (h : WB w wb l) (hV : VR w (One wb) c v) (hVal : Valid (k + 1) t v) (hk : t.kind = 9) (hl : l.length + (wMsg (k + 1) v).length ≤ 100000000000000000) (hc : ∃ o n j, c.sv = .slice o n j) :
    Calls Tryz.prog 78 #[.pointer (some ⟨wb, 0, none⟩), c.val] w fun e w' => PutPost w wb (l ++ wMsg (k + 1) v) e w' := by
  have hwl := h.lt
  have HW := hide h
  obtain ⟨ca, cn, cb, csv⟩ := c
  obtain ⟨o, n, j, hc⟩ := hc
  simp only at hc
  subst hc
  obtain ⟨htr, hn, hb, rows, hO, hx, hL⟩ := hV.open
  simp only at htr hn hb hO hx
  subst hn hb
  obtain ⟨tb, tsv, trows, rfl, htb, htx, _⟩ := htr.open
  obtain ⟨hof, hV'⟩ := hVal
  have htl := lt_of_heap htb
  have k0 : w.cell? ⟨tb, 0, none⟩ = some (.int .i64 9) := by rw [cell_of_heap htb, hof, hk]; rfl
  have hne : tb ≠ wb := fun e => htx e
  have hnw : w.heap.size ≠ wb := by omega
  simp only [hk] at hV'
  obtain ⟨hn0, hb0, hp0, hpv⟩ := hV'
  have HE : Hid (wMsg (k + 1) v = v.parts.flatMap (wMsg k)) := by
    show _ = _
    simp only [wMsg, hof, hk]
    rfl
  have h300 : v.parts.length ≤ 300 := by have := hW.2.2.2.2.2.1.1; omega
  have HTT : Hid (∀ x ∈ v.parts, ∃ u, WSaid k u ∧ Valid k u x) := fun x hx => by
    obtain ⟨i, hi, he⟩ := List.getElem_of_mem hx
    have hs : i < t.subs.length := by omega
    exact ⟨t.sub i, hT _ (List.mem_of_getElem? (PT.sub_some hs)), hpv i x (by rw [List.getElem?_eq_getElem hi, he])⟩
  have HLE : Hid (l.length + (v.parts.flatMap (wMsg k)).length ≤ 100000000000000000) := by
    show _ ≤ _
    rw [HE.out] at hl
    exact hl
  have HLL : Hid (VL w (One wb) rows v.parts) := hL
  have HO := hide hO
  have HXX := hide hx
  have HLI := hide hl
  clear h hV htr htb htx hof hl hk hT hW hn0 hb0 hp0 hpv hL hO hx
  simp only [VC.val]
  have HB0 : Hid (WB (w.alloc (.cells #[.pointer (some ⟨tb, 0, none⟩), .int .i64 v.num, .string (ba v.bytes), .slice o n j] 96)) wb l) := HW.out.keep (Fr.alloc Zero _ _) (fun h => h)
  have HA : Hid (Fr (One wb) w (w.alloc (.cells #[.pointer (some ⟨tb, 0, none⟩), .int .i64 v.num, .string (ba v.bytes), .slice o n j] 96))) := Fr.alloc _ _ _
  go_enter Tryz.func78, Tryz.ntmps78
  go_wp2_with fail
  refine (several_any _ wb (.slice o n j) rows v.parts l HTT HB0 (ownsRow_keep HO.out HA.out HXX.out) HXX (HLL.out.keep HA.out) h300 HLE).mono ?_
  rintro e w3 ⟨rfl, hF3, hB3⟩
  have HB3 := hide hB3
  have HF3 := hide (HA.out.trans hF3)
  clear hF3 hB3
  go_wp2_with fail
  go_end0
  rw [HE.out]
  exact ⟨rfl, HF3, HB3⟩

set_option maxHeartbeats 8000000 in
set_option maxRecDepth 100000 in
theorem wvalue_7 {k : Nat} {t : PT} (hT : ∀ u ∈ t.subs, WSaid k u) (hW : WFT (k + 1) t) (w : World) (wb : Nat) (c : VC) (v : PV) (l : Bs) (h : WB w wb l) (hV : VR w (One wb) c v) (hVal : Valid (k + 1) t v) (hk : t.kind = 7) (hl : l.length + (wMsg (k + 1) v).length ≤ 100000000000000000) (hc : ∃ o n j, c.sv = .slice o n j) :
    Calls Tryz.prog 78 #[.pointer (some ⟨wb, 0, none⟩), c.val] w fun e w' => PutPost w wb (l ++ wMsg (k + 1) v) e w' := by
  have hwl := h.lt
  have HW := hide h
  obtain ⟨ca, cn, cb, csv⟩ := c
  obtain ⟨o, n, j, hc⟩ := hc
  simp only at hc
  subst hc
  obtain ⟨htr, hn, hb, rows, hO, hx, hL⟩ := hV.open
  simp only at htr hn hb hO hx
  subst hn hb
  obtain ⟨tb, tsv, trows, rfl, htb, htx, _⟩ := htr.open
  obtain ⟨hof, hV'⟩ := hVal
  have htl := lt_of_heap htb
  have k0 : w.cell? ⟨tb, 0, none⟩ = some (.int .i64 7) := by rw [cell_of_heap htb, hof, hk]; rfl
  have hne : tb ≠ wb := fun e => htx e
  have hnw : w.heap.size ≠ wb := by omega
  simp only [hk] at hV'
  obtain ⟨hn0, hb0, hp0, hpv⟩ := hV'
  have HE : Hid (wMsg (k + 1) v = wCount v.parts.length ++ v.parts.flatMap (wMsg k)) := by
    show _ = _
    simp only [wMsg, hof, hk]
    rfl
  have h300 : v.parts.length ≤ 300 := by omega
  have h1s : t.subs.length = 1 := hW.2.2.2.2.1 (by omega)
  have HTT : Hid (∀ x ∈ v.parts, ∃ u, WSaid k u ∧ Valid k u x) := fun x hx => ⟨t.sub 0, hT _ (List.mem_of_getElem? (PT.sub_some (by omega))), hpv x hx⟩
  have HLE : Hid ((l ++ wCount v.parts.length).length + (v.parts.flatMap (wMsg k)).length ≤ 100000000000000000) := by
    show _ ≤ _
    rw [HE.out, List.length_append] at hl
    rw [List.length_append]
    omega
  have hnl : n = v.parts.length := by
    obtain ⟨a', cap', e⟩ := own_slice hO
    simp at e
    have := hL.1
    omega
  have HNL := hide hnl
  rw [← hnl] at HE HLE
  have hn300 : n ≤ 300 := by omega
  clear hnl
  have HLL : Hid (VL w (One wb) rows v.parts) := hL
  have HO := hide hO
  have HXX := hide hx
  have HLI := hide hl
  clear h hV htr htb htx hof hl hk hT hW hn0 hb0 hp0 hpv hL hO hx h1s
  simp only [VC.val]
  have HB0 : Hid (WB (w.alloc (.cells #[.pointer (some ⟨tb, 0, none⟩), .int .i64 v.num, .string (ba v.bytes), .slice o n j] 96)) wb l) := HW.out.keep (Fr.alloc Zero _ _) (fun h => h)
  have HA : Hid (Fr (One wb) w (w.alloc (.cells #[.pointer (some ⟨tb, 0, none⟩), .int .i64 v.num, .string (ba v.bytes), .slice o n j] 96))) := Fr.alloc _ _ _
  go_enter Tryz.func78, Tryz.ntmps78
  go_wp2_with fail
  refine (wcount_any _ wb l n HB0 (by have := HLI.out; omega) hn300).mono ?_
  rintro e w2 ⟨rfl, hF2, hB2⟩
  have HB2 := hide hB2
  have HF2 := hide (HA.out.trans hF2)
  have b3 : w2.cell? ⟨w.heap.size, 3, none⟩ = some (.slice o n j) := by
    rw [cell_of_heap (hF2.keep (heap_new_at rfl _) (fun e => hnw e))]; rfl
  clear hF2 hB2
  go_wp2_with fail
  refine (several_any _ wb (.slice o n j) rows v.parts (l ++ wCount n) HTT HB2 (ownsRow_keep HO.out HF2.out HXX.out) HXX (HLL.out.keep HF2.out) h300 HLE).mono ?_
  rintro e w3 ⟨rfl, hF3, hB3⟩
  have HB3 := hide hB3
  have HF3 := hide (HF2.out.trans hF3)
  clear hF3 hB3
  go_wp2_with fail
  go_end0
  rw [HE.out]
  refine ⟨rfl, HF3, ?_⟩
  have h' := HB3.out
  rw [List.append_assoc] at h'
  exact h'

set_option maxHeartbeats 8000000 in
set_option maxRecDepth 100000 in
theorem wvalue_8 {k : Nat} {t : PT} (hT : ∀ u ∈ t.subs, WSaid k u) (hW : WFT (k + 1) t) (w : World) (wb : Nat) (c : VC) (v : PV) (l : Bs) (h : WB w wb l) (hV : VR w (One wb) c v) (hVal : Valid (k + 1) t v) (hk : t.kind = 8) (hl : l.length + (wMsg (k + 1) v).length ≤ 100000000000000000) (hc : ∃ o n j, c.sv = .slice o n j) :
    Calls Tryz.prog 78 #[.pointer (some ⟨wb, 0, none⟩), c.val] w fun e w' => PutPost w wb (l ++ wMsg (k + 1) v) e w' := by
  have hwl := h.lt
  have HW := hide h
  obtain ⟨ca, cn, cb, csv⟩ := c
  obtain ⟨o, n, j, hc⟩ := hc
  simp only at hc
  subst hc
  obtain ⟨htr, hn, hb, rows, hO, hx, hL⟩ := hV.open
  simp only at htr hn hb hO hx
  subst hn hb
  obtain ⟨tb, tsv, trows, rfl, htb, htx, _⟩ := htr.open
  obtain ⟨hof, hV'⟩ := hVal
  have htl := lt_of_heap htb
  have k0 : w.cell? ⟨tb, 0, none⟩ = some (.int .i64 8) := by rw [cell_of_heap htb, hof, hk]; rfl
  have hne : tb ≠ wb := fun e => htx e
  have hnw : w.heap.size ≠ wb := by omega
  simp only [hk] at hV'
  obtain ⟨hn0, hb0, hp0, hpv⟩ := hV'
  have HE : Hid (wMsg (k + 1) v = wCount v.parts.length ++ v.parts.flatMap (wMsg k)) := by
    show _ = _
    simp only [wMsg, hof, hk]
    rfl
  have h300 : v.parts.length ≤ 300 := by omega
  have h1s : t.subs.length = 1 := hW.2.2.2.2.1 (by omega)
  have HTT : Hid (∀ x ∈ v.parts, ∃ u, WSaid k u ∧ Valid k u x) := fun x hx => ⟨t.sub 0, hT _ (List.mem_of_getElem? (PT.sub_some (by omega))), hpv x hx⟩
  have HLE : Hid ((l ++ wCount v.parts.length).length + (v.parts.flatMap (wMsg k)).length ≤ 100000000000000000) := by
    show _ ≤ _
    rw [HE.out, List.length_append] at hl
    rw [List.length_append]
    omega
  have hnl : n = v.parts.length := by
    obtain ⟨a', cap', e⟩ := own_slice hO
    simp at e
    have := hL.1
    omega
  have HNL := hide hnl
  rw [← hnl] at HE HLE
  have hn300 : n ≤ 300 := by omega
  clear hnl
  have HLL : Hid (VL w (One wb) rows v.parts) := hL
  have HO := hide hO
  have HXX := hide hx
  have HLI := hide hl
  clear h hV htr htb htx hof hl hk hT hW hn0 hb0 hp0 hpv hL hO hx h1s
  simp only [VC.val]
  have HB0 : Hid (WB (w.alloc (.cells #[.pointer (some ⟨tb, 0, none⟩), .int .i64 v.num, .string (ba v.bytes), .slice o n j] 96)) wb l) := HW.out.keep (Fr.alloc Zero _ _) (fun h => h)
  have HA : Hid (Fr (One wb) w (w.alloc (.cells #[.pointer (some ⟨tb, 0, none⟩), .int .i64 v.num, .string (ba v.bytes), .slice o n j] 96))) := Fr.alloc _ _ _
  go_enter Tryz.func78, Tryz.ntmps78
  go_wp2_with fail
  refine (wcount_any _ wb l n HB0 (by have := HLI.out; omega) hn300).mono ?_
  rintro e w2 ⟨rfl, hF2, hB2⟩
  have HB2 := hide hB2
  have HF2 := hide (HA.out.trans hF2)
  have b3 : w2.cell? ⟨w.heap.size, 3, none⟩ = some (.slice o n j) := by
    rw [cell_of_heap (hF2.keep (heap_new_at rfl _) (fun e => hnw e))]; rfl
  clear hF2 hB2
  go_wp2_with fail
  refine (several_any _ wb (.slice o n j) rows v.parts (l ++ wCount n) HTT HB2 (ownsRow_keep HO.out HF2.out HXX.out) HXX (HLL.out.keep HF2.out) h300 HLE).mono ?_
  rintro e w3 ⟨rfl, hF3, hB3⟩
  have HB3 := hide hB3
  have HF3 := hide (HF2.out.trans hF3)
  clear hF3 hB3
  go_wp2_with fail
  go_end0
  rw [HE.out]
  refine ⟨rfl, HF3, ?_⟩
  have h' := HB3.out
  rw [List.append_assoc] at h'
  exact h'

set_option maxHeartbeats 8000000 in
set_option maxRecDepth 100000 in
theorem wvalue_10 {k : Nat} {t : PT} (hT : ∀ u ∈ t.subs, WSaid k u) (hW : WFT (k + 1) t) (w : World) (wb : Nat) (c : VC) (v : PV) (l : Bs) (h : WB w wb l) (hV : VR w (One wb) c v) (hVal : Valid (k + 1) t v) (hk : t.kind = 10) (hl : l.length + (wMsg (k + 1) v).length ≤ 100000000000000000) (hc : ∃ o n j, c.sv = .slice o n j) :
    Calls Tryz.prog 78 #[.pointer (some ⟨wb, 0, none⟩), c.val] w fun e w' => PutPost w wb (l ++ wMsg (k + 1) v) e w' := by
  have hwl := h.lt
  have HW := hide h
  obtain ⟨ca, cn, cb, csv⟩ := c
  obtain ⟨o, n, j, hc⟩ := hc
  simp only at hc
  subst hc
  obtain ⟨htr, hn, hb, rows, hO, hx, hL⟩ := hV.open
  simp only at htr hn hb hO hx
  subst hn hb
  obtain ⟨tb, tsv, trows, rfl, htb, htx, _⟩ := htr.open
  obtain ⟨hof, hV'⟩ := hVal
  have htl := lt_of_heap htb
  have k0 : w.cell? ⟨tb, 0, none⟩ = some (.int .i64 10) := by rw [cell_of_heap htb, hof, hk]; rfl
  have hne : tb ≠ wb := fun e => htx e
  have hnw : w.heap.size ≠ wb := by omega
  simp only [hk] at hV'
  obtain ⟨hb0, i, x, hni, hi, hpx, hxv⟩ := hV'
  have HE : Hid (wMsg (k + 1) v = [UInt8.ofNat v.num.toNat] ++ v.parts.flatMap (wMsg k)) := by
    show _ = _
    simp only [wMsg, hof, hk]
    rfl
  have h300 : v.parts.length ≤ 300 := by rw [hpx]; simp
  have hi6 := hW.2.2.2.2.2.1.1
  have hnum0 : 0 ≤ v.num := by omega
  have hnum6 : v.num < 6 := by omega
  have HTT : Hid (∀ x ∈ v.parts, ∃ u, WSaid k u ∧ Valid k u x) := fun y hy => by
    rw [hpx] at hy
    simp at hy
    subst hy
    exact ⟨t.sub i, hT _ (List.mem_of_getElem? (PT.sub_some hi)), hxv⟩
  have HLE : Hid ((l ++ [UInt8.ofNat v.num.toNat]).length + (v.parts.flatMap (wMsg k)).length ≤ 100000000000000000) := by
    show _ ≤ _
    rw [HE.out, List.length_append] at hl
    rw [List.length_append]
    omega
  have HLL : Hid (VL w (One wb) rows v.parts) := hL
  have HO := hide hO
  have HXX := hide hx
  have HLI := hide hl
  clear h hV htr htb htx hof hl hk hT hW hb0 hni hi hpx hxv hL hO hx hi6
  simp only [VC.val]
  have HB0 : Hid (WB (w.alloc (.cells #[.pointer (some ⟨tb, 0, none⟩), .int .i64 v.num, .string (ba v.bytes), .slice o n j] 96)) wb l) := HW.out.keep (Fr.alloc Zero _ _) (fun h => h)
  have HA : Hid (Fr (One wb) w (w.alloc (.cells #[.pointer (some ⟨tb, 0, none⟩), .int .i64 v.num, .string (ba v.bytes), .slice o n j] 96))) := Fr.alloc _ _ _
  go_enter Tryz.func78, Tryz.ntmps78
  go_wp2_with fail
  have b0 : (w.alloc (.cells #[.pointer (some ⟨tb, 0, none⟩), .int .i64 v.num, .string (ba v.bytes), .slice o n j] 96)).cell? ⟨w.heap.size, 0, none⟩ = some (.pointer (some ⟨tb, 0, none⟩)) := by rw [cell_of_heap (heap_new_at rfl _)]; rfl
  have b1 : (w.alloc (.cells #[.pointer (some ⟨tb, 0, none⟩), .int .i64 v.num, .string (ba v.bytes), .slice o n j] 96)).cell? ⟨w.heap.size, 1, none⟩ = some (.int .i64 v.num) := by rw [cell_of_heap (heap_new_at rfl _)]; rfl
  have b2 : (w.alloc (.cells #[.pointer (some ⟨tb, 0, none⟩), .int .i64 v.num, .string (ba v.bytes), .slice o n j] 96)).cell? ⟨w.heap.size, 2, none⟩ = some (.string (ba v.bytes)) := by rw [cell_of_heap (heap_new_at rfl _)]; rfl
  have b4 : (w.alloc (.cells #[.pointer (some ⟨tb, 0, none⟩), .int .i64 v.num, .string (ba v.bytes), .slice o n j] 96)).cell? ⟨tb, 0, none⟩ = some (.int .i64 10) := by rw [World.cell?_alloc_lt _ _ ⟨tb, 0, none⟩ htl]; exact k0
  go_region_held3 (fun w' => w'.cell? ⟨w.heap.size, 1, none⟩ = some (.int .i64 v.num))
    (first | assumption | exact b1 | exact q1)
    (first
    | (go_at_call 122; refine (put_at _ wb l (UInt8.ofNat v.num.toNat) _ (wrap8 _ _ (by omega)) (by exact HB0.out.same rfl) (by have := HLI.out; omega)).mono ?_; rintro e w2 ⟨rfl, hF2, hB2⟩
       have HB2 := hide hB2
       have HF2 : Hid (Fr (One wb) w w2) := HA.out.trans ((Fr.dr _ _).trans hF2)
       have q1 := (hF2.cell (a := ⟨w.heap.size, 1, none⟩) (by simp) (fun e => hnw e)).trans b1
       have b3 : w2.cell? ⟨w.heap.size, 3, none⟩ = some (.slice o n j) := by rw [cell_of_heap (hF2.keep (b := w.heap.size) (heap_new_at (w := w) rfl (.cells #[.pointer (some ⟨tb, 0, none⟩), .int .i64 v.num, .string (ba v.bytes), .slice o n j] 96)) (fun e => hnw e))]; rfl
       clear hF2 hB2))
  go_wp2_with fail
  refine (several_any _ wb (.slice o n j) rows v.parts (l ++ [UInt8.ofNat v.num.toNat]) HTT HB2 (ownsRow_keep HO.out HF2.out HXX.out) HXX (HLL.out.keep HF2.out) h300 HLE).mono ?_
  rintro e w3 ⟨rfl, hF3, hB3⟩
  have HB3 := hide hB3
  have HF3 := hide (HF2.out.trans hF3)
  clear hF3 hB3
  go_wp2_with fail
  go_end0
  rw [HE.out]
  refine ⟨rfl, HF3, ?_⟩
  have h' := HB3.out
  rw [List.append_assoc] at h'
  exact h'

/-- Every value. -/
theorem wvalue_all : ∀ (k : Nat) (t : PT), WFT k t → WSaid k t := by
  intro k
  induction k with
  | zero => intro t h; exact h.elim
  | succ k ih =>
    intro t hW w wb c v l h hV hVal hl hc
    have hT : ∀ u ∈ t.subs, WSaid k u := fun u hu => ih u (hW.2.2.1 u hu)
    have h10 := hW.1
    rcases hk : t.kind with _ | _ | _ | _ | _ | _ | _ | _ | _ | _ | _ | m
    · exact wvalue_0 w wb c v l h hV hVal hk hl hc
    · exact wvalue_1 w wb c v l h hV hVal hk hl hc
    · exact wvalue_2 w wb c v l h hV hVal hk hl hc
    · exact wvalue_3 w wb c v l h hV hVal hk hl hc
    · exact wvalue_4 w wb c v l h hV hVal hk hl hc
    · exact wvalue_5 w wb c v l h hV hVal hk hl hc
    · exact wvalue_6 w wb c v l h hV hVal hk hl hc
    · exact wvalue_7 hT hW w wb c v l h hV hVal hk hl hc
    · exact wvalue_8 hT hW w wb c v l h hV hVal hk hl hc
    · exact wvalue_9 hT hW w wb c v l h hV hVal hk hl hc
    · exact wvalue_10 hT hW w wb c v l h hV hVal hk hl hc
    · omega

end Go.Proofs.YtdcjogpkogidaaaGreatDoor
