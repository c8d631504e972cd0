/- What parse and Check of package sluice tell. -/
import Derived.Test.YtapblkmlhoalgaaGreatDoorAsHit
namespace Go.Proofs.YtapblkmlhoalgaaGreatDoor
open Go.RowKit

/-- The variable errors.errorType, as it is laid. -/
def ErrT (w : World) : Prop := w.cell? ⟨0, 0, none⟩ = some (.iface 258 (.agg #[.pointer (some ⟨8, 107, none⟩)]))

theorem ErrT.keep {w w' : World} {X : Nat → Prop} (h : ErrT w) (hf : Fr X w w') (hx : ¬ X 0) : ErrT w' :=
  (hf.cell (a := ⟨0, 0, none⟩) (World.block_lt_of_cell? w _ h) hx).trans h

theorem checkP_ok {s : ByteArray} (h : (checkP s).1 = 0) : checkP s = (0, 0) := by
  unfold checkP at h ⊢
  split at h
  · cases h
  · split at h
    · cases h
    · split at h
      · cases h
      · split at h
        · cases h
        · rw [if_neg (by assumption), if_neg (by assumption)]

theorem as_set (e : Addr) (tb : Nat) (w : World) (hg : ErrT w) (ht : w.heap[tb]? = some (.cells #[.pointer none] 110 (0, 0))) :
    Calls Tryz.prog 51 #[.iface 110 (.pointer (some e)), .iface 112 (.pointer (some ⟨tb, 0, none⟩))] w fun ev w' => ev = .returned (.bool true) ∧ Fr (One tb) w w' ∧ w'.heap[tb]? = some (.cells #[.pointer (some e)] 110 (0, 0)) := by
  refine (as_hit e ⟨tb, 0, none⟩ (.pointer none) w hg (by rw [cell_of_heap ht]; rfl) (free_of_heap ht)).mono ?_
  rintro ev w' ⟨rfl, rfl⟩
  have hF : Fr (One tb) w ((((w.alloc (.cells #[.pointer (some ⟨tb, 0, none⟩)] 112)).alloc (.cells #[.pointer (some ⟨8, 112, none⟩), .pointer (some ⟨w.heap.size, 0, none⟩), .int .u64 150] 184)).alloc (.cells #[.pointer (some ⟨8, 112, none⟩), .pointer (some ⟨w.heap.size, 0, none⟩), .int .u64 150] 184)).alloc (.cells #[.pointer (some e)] 110)) :=
    (Fr.alloc _ _ _).trans ((Fr.alloc _ _ _).trans ((Fr.alloc _ _ _).trans (Fr.alloc _ _ _)))
  have h0 : Fr Zero w ((((w.alloc (.cells #[.pointer (some ⟨tb, 0, none⟩)] 112)).alloc (.cells #[.pointer (some ⟨8, 112, none⟩), .pointer (some ⟨w.heap.size, 0, none⟩), .int .u64 150] 184)).alloc (.cells #[.pointer (some ⟨8, 112, none⟩), .pointer (some ⟨w.heap.size, 0, none⟩), .int .u64 150] 184)).alloc (.cells #[.pointer (some e)] 110)) :=
    (Fr.alloc _ _ _).trans ((Fr.alloc _ _ _).trans ((Fr.alloc _ _ _).trans (Fr.alloc _ _ _)))
  refine ⟨rfl, hF.trans (Fr.setCell (One tb) _ ⟨tb, 0, none⟩ _ rfl), ?_⟩
  rw [heap_setCell_same (h0.keep ht (fun h => h))]
  rfl

theorem parse_any (s : ByteArray) (w : World) (hw : Words w) (hs : s.size ≤ maxLen) : Calls Tryz.prog 50 #[.string s] w fun e w' => ParsePost w s e w' := by
  by_cases h : 400 < s.size
  · exact parse_long s w h hs
  · exact parse_short s w (by omega) hw

set_option maxHeartbeats 4000000 in
theorem sparse_any (s : ByteArray) (w : World) (hw : Words w) (het : ErrT w) (hs : s.size ≤ maxLen) :
    Calls Tryz.prog 29 #[.string s] w fun e w' => Fr Zero w w' ∧ ∃ a : Option Addr, e = .returned (.tuple #[.pointer a, .int .i64 (checkP s).1, .int .i64 (checkP s).2]) ∧ (checkP s = (0, 0) → ∃ a', a = some a' ∧ TR w' Zero a' (typeP s)) := by
  have HW := hide hw
  have HE := hide het
  clear hw het
  go_enter Tryz.func29, Tryz.ntmps29
  go_wp2_with fail
  refine (parse_any s _ HW hs).mono ?_
  rintro e w1 ⟨hF, hok, hno⟩
  have HF := hide hF
  by_cases hz : (checkP s).1 = 0
  · have hc := checkP_ok hz
    obtain ⟨a, rfl, ht⟩ := hok hc
    have HC := hide hc
    have HTR := hide ht
    clear hF hok hno hz hc ht
    go_wp2_with fail
    refine (as_nil _ _).mono ?_
    rintro e w2 ⟨rfl, rfl⟩
    go_wp2_with fail
    go_ret3
    rw [HC.out]
    exact ⟨HF.out.trans (Fr.alloc _ _ _), some a, rfl, fun _ => ⟨a, rfl, HTR.out.keep (Fr.alloc _ _ _)⟩⟩
  · obtain ⟨b, rfl, hb⟩ := hno (checkP s).1 (checkP s).2 rfl hz
    have hbl := lt_of_heap hb
    have HET := hide ((HE.out.keep hF (fun h => h)).keep (Fr.alloc Zero w1 (.cells #[.pointer none] 110)) (fun h => h))
    have q0 : w1.cell? ⟨b, 0, none⟩ = some (.int .i64 (checkP s).1) := by rw [cell_of_heap hb]; rfl
    have q1 : w1.cell? ⟨b, 1, none⟩ = some (.int .i64 (checkP s).2) := by rw [cell_of_heap hb]; rfl
    have HZ := hide hz
    clear hF hok hno hz hb
    have HC1 : Hid (∃ c, c = (checkP s).1) := ⟨_, rfl⟩
    generalize hc1 : (checkP s).1 = c1 at *
    generalize hc2 : (checkP s).2 = c2 at *
    have HC1 := hide hc1
    have HC2 := hide hc2
    clear hc1 hc2
    go_wp2_with fail
    refine (as_set ⟨b, 0, none⟩ w1.heap.size _ HET (heap_new_at rfl _)).mono ?_
    rintro e w2 ⟨rfl, hF2, ht2⟩
    have hbn : ¬ One w1.heap.size b := fun e => by have e' : b = w1.heap.size := e; omega
    have hF3 := (Fr.alloc (One w1.heap.size) w1 (.cells #[.pointer none] 110)).trans hF2
    have p0 : w2.cell? ⟨b, 0, none⟩ = some (.int .i64 c1) := (hF3.cell (a := ⟨b, 0, none⟩) hbl hbn).trans q0
    have p1 : w2.cell? ⟨b, 1, none⟩ = some (.int .i64 c2) := (hF3.cell (a := ⟨b, 1, none⟩) hbl hbn).trans q1
    have p2 : w2.cell? ⟨w1.heap.size, 0, none⟩ = some (.pointer (some ⟨b, 0, none⟩)) := by rw [cell_of_heap ht2]; rfl
    have HF3 : Hid (Fr Zero w w2) := HF.out.past (hF3.mono (fun k _ e => by have e' : k = w1.heap.size := e; have := HF.out.size; omega))
    clear hF2 ht2 hbn hF3 q0 q1 hbl
    go_wp2_with fail
    go_quiet (fail)
    go_wp2_with fail
    go_ret3
    rw [HC1.out, HC2.out]
    refine ⟨HF3.out.trans (Fr.drewN _ _ _), none, rfl, fun h => ?_⟩
    have h1 : (checkP s).1 = 0 := by rw [h]
    exact absurd (HC1.out.symm.trans h1) HZ

theorem check_any (s : ByteArray) (w : World) (hw : Words w) (het : ErrT w) (hs : s.size ≤ maxLen) :
    Calls Tryz.prog 14 #[.string s] w fun e w' => Fr Zero w w' ∧ e = .returned (.tuple #[.int .i64 (checkP s).1, .int .i64 (checkP s).2]) := by
  have HW := hide hw
  have HE := hide het
  clear hw het
  go_enter Tryz.func14, Tryz.ntmps14
  go_wp2_with fail
  refine (sparse_any s _ HW HE hs).mono ?_
  rintro e w1 ⟨hF, a, rfl, _⟩
  have HF := hide hF
  clear hF
  go_wp2_with fail
  go_ret2
  exact ⟨HF, rfl⟩

end Go.Proofs.YtapblkmlhoalgaaGreatDoor
