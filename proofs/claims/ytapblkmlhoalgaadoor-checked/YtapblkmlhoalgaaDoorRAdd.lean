/- The other reader's name and add. -/
import Derived.Test.YtapblkmlhoalgaaDoorRWord
import Derived.Test.YtapblkmlhoalgaaDoorRKind
namespace Go.Proofs.YtapblkmlhoalgaaDoor
open Go.RowKit

def nameB (s : ByteArray) (n : Nat) (bad : Bool) : Bool := wordB s n bad || (wordIdx (wordS s n bad)).isSome

theorem kindOf_nonneg (nm : ByteArray) : decide (0 ≤ kindOf nm) = (wordIdx nm).isSome := by
  unfold kindOf
  rcases wordIdx nm with _ | k
  · rfl
  · simp

theorem Fr.ofZero {w w' : World} {X : Nat → Prop} (h : Fr Zero w w') : Fr X w w' := h.of0

set_option maxHeartbeats 1000000 in
theorem name_any {w : World} {db : Nat} {s : ByteArray} {n : Nat} {bad : Bool} {tv lv av rv : Value} (h : DB w db s n bad tv lv av rv) (hs : s.size ≤ maxLen) (hle : n ≤ s.size) :
    Calls Tryd.prog 15 #[.pointer (some ⟨db, 0, none⟩)] w fun e w' => e = .returned (.string (wordS s n bad)) ∧ Fr (One db) w w' ∧ DB w' db s (wordN s n bad) (nameB s n bad) tv lv av rv ∧ wordN s n bad ≤ s.size := by
  have HD := hide h
  clear h
  go_enter Tryd.func15, Tryd.ntmps15
  go_wp2_with fail
  refine (word_any HD hs hle).mono ?_
  have hB : Hid (nameB s n bad = (wordB s n bad || (wordIdx (wordS s n bad)).isSome)) := rfl
  rintro e w1 ⟨rfl, hF1, hD1, hn1⟩
  have HF1 := hide hF1
  have HD1 := hide hD1
  clear hF1 hD1
  generalize hS : wordS s n bad = nm at *
  have HS := hide hS
  clear hS
  go_wp2_with fail
  refine (wordKind_any nm _).mono ?_
  rintro e w2 ⟨rfl, hF2⟩
  have hD2 := hF2.keep HD1.out (fun h => h)
  have hD2' : DB w2 db s (wordN s n bad) (wordB s n bad) tv lv av rv := hD2
  have h6 := hD2'.at6
  have f6 := hD2'.free 6
  have HF2 := hide (HF1.out.trans hF2.of0)
  have HD2 := hide hD2'
  have HK := hide (kindOf_nonneg nm)
  clear hF2 hD2 hD2'
  rcases hb : wordB s n bad with _ | _
  · rw [hb] at h6
    have HB : Hid (nameB s n bad = decide (0 ≤ kindOf nm)) := by show _ = _; rw [hB.out, hb, HK.out]; rfl
    clear hb
    go_wp2_with fail
    go_ret
    rw [HS.out, HB.out]
    exact ⟨rfl, HF2.out.trans (Fr.setCell _ _ _ _ (show One db db from rfl)), HD2.out.set6 _, hn1⟩
  · rw [hb] at h6
    have HB : Hid (nameB s n bad = true) := by show _ = _; rw [hB.out, hb]; rfl
    clear hb
    go_wp2_with fail
    go_ret
    rw [HS.out, HB.out]
    exact ⟨rfl, HF2.out.trans (Fr.setCell _ _ _ _ (show One db db from rfl)), HD2.out.set6 _, hn1⟩

/-- The reader and its table. -/
def DS (w : World) (X : Nat → Prop) (db : Nat) (s : ByteArray) (n : Nat) (bad : Bool) (tv lv av rv : Value) (tab : List RT) : Prop :=
  DB w db s n bad tv lv av rv ∧ ∃ rows : List RV, w.ownsRow 0 56 4 tv rows.length (rvCells rows) ∧ TabR w (XO X tv) rows tab

/-- What a call that adds types may turn. -/
def Ch (db : Nat) (tv : Value) : Nat → Prop := fun k => k = db ∨ tv.ownBlock = some k

theorem Tryd.info56 : (Tryd.prog.info? 56).map (fun i => (i.zero, i.size, i.bytes)) = some (some (.agg #[.int .i64 0, .slice none 0 0, .slice none 0 0, .slice none 0 0]), 4, 80) := by kernel_rfl

theorem RTR.shape {w : World} {X : Nat → Prop} {r : RV} {t : RT} (h : RTR w X r t) : ∀ v, (v = r.o ∨ v = r.n ∨ v = r.a) → ∃ a n c, v = .slice a n c := by
  have f : ∀ (e : TypeId) (v : Value) (xs : List Value), SL w X e v xs → ∃ a n c, v = .slice a n c := by
    intro e v xs hv
    rcases hv.1.2 with ⟨h, _⟩ | ⟨g, cap, cur, h, _⟩
    · exact ⟨_, _, _, h⟩
    · exact ⟨_, _, _, h⟩
  rintro v (rfl | rfl | rfl)
  · exact f _ _ _ h.2.1
  · exact f _ _ _ h.2.2.1
  · exact f _ _ _ h.2.2.2

theorem news4_heap {w w' : World} {x y z u : Value} {t : TypeId} {k : Nat} (hk : w.heap.size = k) (he : w'.heap = (w.alloc (.cells #[x, y, z, u] t)).heap) : ∀ (j : Nat) (q : Value), [x, y, z, u][j]? = some q → w'.cell? ((⟨k, 0, none⟩ : Addr).add j) = some q := by
  subst hk
  have h : w'.heap[w.heap.size]? = some (.cells #[x, y, z, u] t (0, 0)) := by rw [he]; exact heap_new_at rfl _
  intro j q hj
  match j, hj with
  | 0, hj => simp at hj; subst hj; simp [Addr.add, World.cell?, h]
  | 1, hj => simp at hj; subst hj; simp [Addr.add, World.cell?, h]
  | 2, hj => simp at hj; subst hj; simp [Addr.add, World.cell?, h]
  | 3, hj => simp at hj; subst hj; simp [Addr.add, World.cell?, h]
  | j + 4, hj => simp at hj

theorem dAfter {W wq w' : World} {o : Obj} {db : Nat} {s : ByteArray} {n : Nat} {bad : Bool} {tv lv av rv v : Value} (he : W.heap = (wq.alloc o).heap) (hD : DB wq db s n bad tv lv av rv) (hg : W.grownBy w' v.ownBlock) (hne : ∀ g, v.ownBlock = some g → g ≠ db) : DB w' db s n bad tv lv av rv := by
  have h1 : W.heap[db]? = some (.cells #[.string s, .int .i64 n, tv, lv, av, rv, .bool bad] 39 (0, 0)) := by rw [he]; exact hD.alloc o
  exact (hg.block db (lt_of_heap h1) (fun e => hne db e.symm rfl)).trans h1

theorem owned_neD {w : World} {db : Nat} {s : ByteArray} {n : Nat} {bad : Bool} {tv lv av rv v : Value} {base k size : Nat} {e : TypeId} {xs : List Value} (hD : DB w db s n bad tv lv av rv) (h : w.ownsRow base e size v k xs) (he : e ≠ 39) : ∀ g, v.ownBlock = some g → g ≠ db := by
  intro g hg
  obtain ⟨cur, hh⟩ := own_type h hg
  exact hD.ne hh he

theorem add_end {W wq w' : World} {X : Nat → Prop} {db : Nat} {s : ByteArray} {n : Nat} {bad : Bool} {tv lv av rv v' : Value} {rows : List RV} {tab : List RT} {r : RV} {t : RT} {o : Obj} (he : W.heap = (wq.alloc o).heap) (hos : W.os = wq.os) (htp : W.tape = wq.tape) (hou : W.output = wq.output)
    (hX : X db) (hD : DB wq db s n bad tv lv av rv) (hO : wq.ownsRow 0 56 4 tv rows.length (rvCells rows)) (hT : TabR wq (XO X tv) rows tab) (ht : RTR wq (XO X tv) r t)
    (hO2 : w'.ownsRow 0 56 4 v' (rows.length + 1) (rvCells rows ++ [.int .i64 r.k, r.o, r.n, r.a])) (hg : W.grownBy w' tv.ownBlock) (hv : ∃ g cap, v' = .slice (some ⟨g, 0, none⟩) (rows.length + 1) cap ∧ (tv.ownBlock = some g ∨ W.heap.size ≤ g)) :
    DS (w'.setCell ⟨db, 2, none⟩ v') X db s n bad v' lv av rv (tab ++ [t]) ∧ Fr (Ch db tv) wq (w'.setCell ⟨db, 2, none⟩ v') ∧ (∀ g, v'.ownBlock = some g → tv.ownBlock = some g ∨ wq.heap.size ≤ g) := by
  have hF0 : Fr Zero wq W := ⟨hos, htp, hou, by rw [he]; simp, fun k hk _ => by rw [he]; exact Below.heap_alloc _ _ _ hk⟩
  have hDW := hF0.keep hD (fun h => h)
  have hne := owned_neD hD hO (by decide)
  have hO1 := ownsRow_keep hO hF0 (fun _ _ h => h)
  have hT1 := hT.keep (hF0.of0 (X := XO X tv))
  have ht1 := ht.keep (hF0.of0 (X := XO X tv))
  have hfL : Fr (fun k => tv.ownBlock = some k) W w' := Fr.grown hg (fun k e _ => e)
  have hDw : DB w' db s n bad tv lv av rv := hfL.keep hDW (fun e => hne db e rfl)
  have hfS : Fr (One db) w' (w'.setCell ⟨db, 2, none⟩ v') := Fr.setCell _ _ _ _ rfl
  obtain ⟨g, cap, rfl, hgg⟩ := hv
  have hgd : g ≠ db := by
    rcases hgg with h | h
    · exact hne g h
    · have := lt_of_heap hDW; omega
  have hZ1 : ∀ b, b < W.heap.size → (XO X tv b ∨ W.heap.size ≤ b) → XO X tv b := fun b hb h => by
    rcases h with h | h
    · exact h
    · omega
  have hZ2 : ∀ b, b < w'.heap.size → XO X (.slice (some ⟨g, 0, none⟩) (rows.length + 1) cap) b → (XO X tv b ∨ W.heap.size ≤ b) := fun b _ h => by
    rcases h with h | h
    · exact .inl (.inl h)
    · simp [Value.ownBlock] at h
      subst h
      rcases hgg with h | h
      · exact .inl (.inr h)
      · exact .inr h
  have hfZ : Fr (fun b => XO X tv b ∨ W.heap.size ≤ b) W w' := Fr.grown hg (fun k e _ => .inl (.inr e))
  have hT2 : TabR w' (XO X (.slice (some ⟨g, 0, none⟩) (rows.length + 1) cap)) (rows ++ [r]) (tab ++ [t]) := (((hT1.snoc ht1).avoid hZ1).keep hfZ).avoid hZ2
  refine ⟨⟨hDw.set2 _, rows ++ [r], ?_, hT2.keep (hfS.one (.inl hX))⟩, ?_, ?_⟩
  · rw [rvCells_snoc, List.length_append]
    exact ownsRow_keep hO2 hfS (fun g' hg' e => by simp [Value.ownBlock] at hg'; subst hg'; exact hgd e)
  · exact (hF0.of0 (X := Ch db tv)).trans ((hfL.mono (fun k _ e => .inr e)).trans (hfS.mono (fun k _ e => .inl e)))
  · intro g' hg'
    simp [Value.ownBlock] at hg'
    subst hg'
    rcases hgg with h | h
    · exact .inl h
    · have := hF0.size; exact .inr (by omega)

set_option maxHeartbeats 4000000 in
theorem add_any {w : World} {X : Nat → Prop} {db : Nat} {s : ByteArray} {n : Nat} {bad : Bool} {tv lv av rv : Value} {tab : List RT} (h : DS w X db s n bad tv lv av rv tab) (hX : X db) (hl : tab.length ≤ 1000000) (kI : Int) (r : RV) (t : RT) (hk : kI = (r.k : Int)) (ht : RTR w (XO X tv) r t) :
    Calls Tryd.prog 28 #[.pointer (some ⟨db, 0, none⟩), .agg #[.int .i64 kI, r.o, r.n, r.a]] w fun e w' => e = .returned (.int .i64 tab.length) ∧ Fr (Ch db tv) w w' ∧ ∃ tv', DS w' X db s n bad tv' lv av rv (tab ++ [t]) ∧ (∀ g, tv'.ownBlock = some g → tv.ownBlock = some g ∨ w.heap.size ≤ g) := by
  subst hk
  obtain ⟨hD, rows, hO, hT⟩ := h
  have hrl : rows.length = tab.length := hT.1
  obtain ⟨oa, on, oc, ho⟩ := ht.shape r.o (.inl rfl)
  obtain ⟨na, nn, nc, hn⟩ := ht.shape r.n (.inr (.inl rfl))
  obtain ⟨aa, an, ac, ha⟩ := ht.shape r.a (.inr (.inr rfl))
  obtain ⟨rk, ro, rn, ra⟩ := r
  simp only at ho hn ha
  subst ho hn ha
  have HRL := hide hrl
  have hrb : (rows.length : Int) ≤ 1000000 := by omega
  have hdl := lt_of_heap hD
  have k2 := hD.at2
  have kf := hD.free 2
  have k2a := (hD.alloc (.cells #[.int .i64 rk, .slice oa on oc, .slice na nn nc, .slice aa an ac] 56)).at2
  have k2b := ((hD.alloc (.cells #[.int .i64 rk, .slice oa on oc, .slice na nn nc, .slice aa an ac] 56)).alloc (.cells #[.int .i64 rk, .slice oa on oc, .slice na nn nc, .slice aa an ac] 56)).at2
  have HNE := hide (owned_neD hD hO (by decide))
  have HT0 := hide ht
  have HD := hide hD
  have HO := hide hO
  have HTt := hide hT
  clear hD hO hT ht hrl
  have m1 : Hid (rows.length + 1 ≤ maxLen) := by show _ ≤ _; have := HRL.out; unfold maxLen; omega
  have m2 : Hid ((rows.length + 1) * 80 ≤ 140737488355328) := by show _ ≤ _; have := HRL.out; omega
  have m3 : Hid (∀ u ∈ [Value.int .i64 rk, .slice oa on oc, .slice na nn nc, .slice aa an ac], u.oneCell' = true) := by intro u hu; simp at hu; rcases hu with rfl | rfl | rfl | rfl <;> rfl
  obtain ⟨i0, hi, hz0, hz1, hz2⟩ := info_parts Tryd.info56
  go_enter Tryd.func28, Tryd.ntmps28
  go_wp2_with fail
  go_region_law (refine step_append_mine rfl (.tmp 9) (.tmp 11) 35 rfl 0 56 i0 (.agg #[.int .i64 0, .slice none 0 0, .slice none 0 0, .slice none 0 0]) 4 80 Tryd.underlying35 hi hz0 hz1 hz2 rfl (by decide) tv rows.length (rvCells rows) (by simp [Act.eval]) (by exact ownsRow_heap (o := .cells #[.int .i64 rk, .slice oa on oc, .slice na nn nc, .slice aa an ac] 56) (HO.out.alloc (.cells #[.int .i64 rk, .slice oa on oc, .slice na nn nc, .slice aa an ac] 56)) (by rfl)) ⟨w.heap.size + 1, 0, none⟩ 1 1 (by omega) [.int .i64 rk, .slice oa on oc, .slice na nn nc, .slice aa an ac] (by simp [Act.eval]) rfl (by exact news4_heap (w := w.alloc (.cells #[.int .i64 rk, .slice oa on oc, .slice na nn nc, .slice aa an ac] 56)) (t := 56) (x := .int .i64 rk) (y := .slice oa on oc) (z := .slice na nn nc) (u := .slice aa an ac) (by simp) (by rfl)) m3.out m1.out m2.out (Nat.zero_le _) ?_; intro v' w' hO2 hg2 hv2; obtain ⟨gn, capn, rfl, hgn⟩ := hv2; have hDw := dAfter (o := .cells #[.int .i64 rk, .slice oa on oc, .slice na nn nc, .slice aa an ac] 56) (by rfl) (HD.out.alloc (.cells #[.int .i64 rk, .slice oa on oc, .slice na nn nc, .slice aa an ac] 56)) hg2 HNE.out; have q2 := hDw.at2; have qf := hDw.free 2; have HE := hide (add_end (r := ⟨rk, .slice oa on oc, .slice na nn nc, .slice aa an ac⟩) (o := .cells #[.int .i64 rk, .slice oa on oc, .slice na nn nc, .slice aa an ac] 56) (by rfl) (by rfl) (by rfl) (by rfl) hX (HD.out.alloc (.cells #[.int .i64 rk, .slice oa on oc, .slice na nn nc, .slice aa an ac] 56)) (HO.out.alloc _) (HTt.out.keep (Fr.alloc _ _ _)) (HT0.out.keep (Fr.alloc _ _ _)) hO2 hg2 ⟨gn, capn, rfl, hgn⟩); clear hO2 hg2 hgn hDw)
  all_goals
    have r2 := HE.out.1.1.at2
    go_wp2_with fail
    go_ret
    refine ⟨by rw [← HRL.out]; rfl, (Fr.alloc _ _ _).trans HE.out.2.1, _, HE.out.1, fun g hg => ?_⟩
    · rcases HE.out.2.2 g hg with h | h
      · exact .inl h
      · simp at h; exact .inr (by omega)

end Go.Proofs.YtapblkmlhoalgaaDoor
