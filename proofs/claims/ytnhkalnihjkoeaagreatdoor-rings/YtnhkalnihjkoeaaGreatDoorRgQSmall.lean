/- What a ring's small calls tell: how many frames are so, the gap, which frame is held, the first that waits. -/
import Derived.Test.YtnhkalnihjkoeaaGreatDoorRgQMem
namespace Go.Proofs.YtnhkalnihjkoeaaGreatDoor.Q
open Go.RowKit

def countOf (x : Nat) (l : List PF) : Nat := (l.filter (fun f => decide (f.st = x))).length
theorem countOf_snoc (x : Nat) (l : List PF) (f : PF) : countOf x (l ++ [f]) = countOf x l + (if f.st = x then 1 else 0) := by
  unfold countOf
  rw [List.filter_append, List.length_append]
  by_cases h : f.st = x <;> simp [h]
theorem take_snoc {α : Type} {l : List α} {k : Nat} {f : α} (h : l[k]? = some f) : l.take (k + 1) = l.take k ++ [f] := by
  obtain ⟨hkk, hke⟩ := List.getElem?_eq_some_iff.1 h
  rw [List.take_succ_eq_append_getElem hkk, hke]
theorem countOf_le (x : Nat) (l : List PF) : countOf x l ≤ l.length := List.length_filter_le _ _

set_option maxHeartbeats 4000000 in
set_option maxRecDepth 100000 in
theorem count_any {w : World} {rb yb : Nat} {R : PR} {fv : Value} (h : RM w rb yb R fv) (hl : R.fs.length ≤ 1000000) (x : Nat) (_hx : x ≤ 2) :
    Calls Tryz.prog 236 #[.pointer (some ⟨rb, 0, none⟩), .int .i64 x] w fun e w' => e = .returned (.int .i64 (countOf x R.fs : Nat)) ∧ Fr Zero w w' := by
  have h1 := h.at1
  have H := hide h
  obtain ⟨fa, fc, rfl⟩ := h.f.len
  clear h
  go_enter Tryz.func236, Tryz.ntmps236
  go_wp2_with fail
  go_loopw [5, 13] (fun nv iv wr => ∃ k : Nat, k ≤ R.fs.length ∧ nv = .int .i64 (countOf x (R.fs.take k) : Nat) ∧ iv = .int .i64 k ∧ Hid (Fr Zero w wr)) (fun _ iv _ => R.fs.length - (intOf iv).toNat)
  case atStart => exact ⟨0, by omega, rfl, rfl, Fr.refl _ _⟩
  case round =>
    obtain ⟨k, hk, rfl, rfl, HF⟩ := hrel
    have HR := hide (H.out.quiet HF.out)
    by_cases hlt : k < R.fs.length
    · have hI : (k : Int) < (R.fs.length : Int) := by omega
      obtain ⟨f, hf⟩ : ∃ f, R.fs[k]? = some f := ⟨R.fs[k], by simp⟩
      obtain ⟨fb, off, cap, e1, c1, c2, c3, _⟩ := HR.out.f.at_ hf
      obtain ⟨rfl, _, rfl⟩ : fa = some ⟨fb, off, none⟩ ∧ True ∧ fc = cap := by simp at e1; exact ⟨e1.1, trivial, e1.2⟩
      have HT : Hid (countOf x (R.fs.take (k + 1)) = countOf x (R.fs.take k) + (if f.st = x then 1 else 0)) := by
        show _ = _
        rw [take_snoc hf, countOf_snoc]
      have hcl : countOf x (R.fs.take k) ≤ k := Nat.le_trans (countOf_le _ _) (by rw [List.length_take]; omega)
      generalize countOf x (R.fs.take k) = N at *
      have HF2 : Hid (Fr Zero w (wr.alloc (.cells #[.int .i64 f.at_, .int .i64 f.takes, .int .i64 f.st] 358))) := HF.out.trans (Fr.alloc _ _ _)
      clear hf e1
      by_cases hs : f.st = x
      · have hq : ((f.st : Int) == (x : Int)) = true := beq_iff_eq.2 (by omega)
        rw [if_pos hs] at HT
        rw [hs] at HF2 c3
        clear hs hq
        go_wp2_with fail
        go_roundw
        case rel => exact ⟨k + 1, by omega, by rw [HT.out]; go_num, by go_num, HF2⟩
        case measure => simp [intOf]; omega
      · have hq : ((f.st : Int) == (x : Int)) = false := beq_eq_false_iff_ne.2 (by omega)
        rw [if_neg hs] at HT
        clear hs
        go_wp2_with fail
        go_roundw
        case rel => exact ⟨k + 1, by omega, by rw [HT.out]; rfl, by go_num, HF2⟩
        case measure => simp [intOf]; omega
    · have hkl : k = R.fs.length := by omega
      subst hkl
      have hI : ¬ (R.fs.length : Int) < (R.fs.length : Int) := by omega
      rw [List.take_length]
      go_wp2_with fail
      go_ret
      exact ⟨rfl, HF⟩

def gapOf (g next need : Nat) : Nat := if g - next < need then g - next else 0

set_option maxHeartbeats 4000000 in
set_option maxRecDepth 100000 in
theorem gap_any {w : World} {rb yb : Nat} {R : PR} {fv : Value} (h : RM w rb yb R fv) (hn : R.next < R.g) (n : Nat) (hnn : n ≤ 1000000000000000) :
    Calls Tryz.prog 230 #[.pointer (some ⟨rb, 0, none⟩), .int .i64 n] w fun e w' => e = .returned (.int .i64 (gapOf R.g R.next n : Nat)) ∧ Fr Zero w w' := by
  have h3 := h.at3
  have hg := h.g64
  have H := hide h
  clear h
  by_cases hlt : R.g - R.next < n
  · have HU : Hid (gapOf R.g R.next n = R.g - R.next) := if_pos hlt
    have hI : (R.g : Int) - (R.next : Int) < (n : Int) := by omega
    go_enter Tryz.func230, Tryz.ntmps230
    go_wp2_with fail
    go_region_held3 (fun W => W.cell? ⟨rb, 3, none⟩ = some (.int .i64 R.next)) (first | assumption | exact h3) (first | (go_at_call 229; refine (granules_any (H.out.quiet (Fr.drew _ _))).mono ?_; rintro e w1 ⟨rfl, rfl⟩))
    all_goals
      go_wp2_with fail
      go_ret
      rw [HU.out]
      refine ⟨?_, Fr.drew _ _⟩
      rw [show IntKind.i64.wrap ((R.g : Int) - (R.next : Int)) = ((R.g - R.next : Nat) : Int) by rw [IntKind.wrap_i64]; omega]
      try rfl
  · have HU : Hid (gapOf R.g R.next n = 0) := if_neg hlt
    have hI : ¬ (R.g : Int) - (R.next : Int) < (n : Int) := by omega
    go_enter Tryz.func230, Tryz.ntmps230
    go_wp2_with fail
    go_region_held3 (fun W => W.cell? ⟨rb, 3, none⟩ = some (.int .i64 R.next)) (first | assumption | exact h3) (first | (go_at_call 229; refine (granules_any (H.out.quiet (Fr.drew _ _))).mono ?_; rintro e w1 ⟨rfl, rfl⟩))
    all_goals
      go_wp2_with fail
      go_ret
      rw [HU.out]
      exact ⟨rfl, Fr.drew _ _⟩

/-- Which of the frames has this number, and is held. -/
def heldI (R : PR) (n : Int) : Option Nat := if n < R.first ∨ (R.fs.length : Int) ≤ n - R.first then none else
  match R.fs[(n - R.first).toNat]? with
  | some f => if f.st = 1 then some (n - R.first).toNat else none
  | none => none

set_option maxHeartbeats 4000000 in
set_option maxRecDepth 100000 in
theorem heldAt_any {w : World} {rb yb : Nat} {R : PR} {fv : Value} (h : RM w rb yb R fv) (hl : R.fs.length ≤ 1000000) (h1st : 1 ≤ R.first) (hfl : R.first ≤ 3000000000000) (n : Int) (hn1 : -9223372036854775808 ≤ n) (hn2 : n ≤ 9223372036854775807) :
    Calls Tryz.prog 235 #[.pointer (some ⟨rb, 0, none⟩), .int .i64 n] w fun e w' => (∃ i : Int, e = .returned (.tuple #[.int .i64 i, .bool (heldI R n).isSome]) ∧ ∀ j, heldI R n = some j → i = j) ∧ Fr Zero w w' := by
  have h1 := h.at1
  have h2 := h.at2
  have H := hide h
  obtain ⟨fa, fc, rfl⟩ := h.f.len
  clear h
  by_cases hlt : n < R.first
  · have HU : Hid (heldI R n = none) := if_pos (.inl hlt)
    go_enter Tryz.func235, Tryz.ntmps235
    go_wp2_with fail
    go_quiet (fail)
    go_wp2_with fail
    go_ret2
    rw [HU.out]
    exact ⟨⟨_, rfl, fun j h => by simp at h⟩, Fr.drewN _ _ _⟩
  · have hltb : decide (n < (R.first : Int)) = false := decide_eq_false hlt
    by_cases hge : (R.fs.length : Int) ≤ n - R.first
    · have HU : Hid (heldI R n = none) := if_pos (.inr hge)
      go_enter Tryz.func235, Tryz.ntmps235
      go_wp2_with fail
      go_quiet (fail)
      go_wp2_with fail
      go_ret2
      rw [HU.out]
      exact ⟨⟨_, rfl, fun j h => by simp at h⟩, Fr.drewN _ _ _⟩
    · obtain ⟨i, hi⟩ : ∃ i : Nat, n - R.first = i := ⟨(n - R.first).toNat, by omega⟩
      have hgeb : decide ((R.fs.length : Int) ≤ n - R.first) = false := decide_eq_false hge
      obtain ⟨f, hf⟩ : ∃ f, R.fs[i]? = some f := ⟨R.fs[i]'(by omega), by simp⟩
      obtain ⟨fb, off, cap, e1, c1, c2, c3, _⟩ := H.out.f.at_ hf
      obtain ⟨rfl, _, rfl⟩ : fa = some ⟨fb, off, none⟩ ∧ True ∧ fc = cap := by simp at e1; exact ⟨e1.1, trivial, e1.2⟩
      have HU : Hid (heldI R n = if f.st = 1 then some i else none) := by
        show _ = _
        unfold heldI
        rw [if_neg (by omega), hi]
        simp only [Int.toNat_natCast, hf]
      have hI : (i : Int) < (R.fs.length : Int) := by omega
      have hn : n = R.first + i := by omega
      subst hn
      have hsub : (R.first : Int) + (i : Int) - R.first = i := by omega
      clear hf e1 hi hge hlt
      by_cases hs : f.st = 1
      · rw [if_pos hs] at HU
        rw [hs] at c3
        clear hs
        go_enter Tryz.func235, Tryz.ntmps235
        go_wp2_with fail
        go_quiet (fail)
        go_wp2_with fail
        go_quiet (fail)
        go_wp2_with fail
        go_ret2
        rw [HU.out]
        exact ⟨⟨_, rfl, fun j h => by simp at h; omega⟩, (Fr.drewN _ _ _).trans (Fr.drewN _ _ _)⟩
      · rw [if_neg hs] at HU
        have hq : ((f.st : Int) == 1) = false := beq_eq_false_iff_ne.2 (by omega)
        clear hs
        go_enter Tryz.func235, Tryz.ntmps235
        go_wp2_with fail
        go_quiet (fail)
        go_wp2_with fail
        go_quiet (fail)
        go_wp2_with fail
        go_ret2
        rw [HU.out]
        exact ⟨⟨_, rfl, fun j h => by simp at h⟩, (Fr.drewN _ _ _).trans (Fr.drewN _ _ _)⟩

end Go.Proofs.YtnhkalnihjkoeaaGreatDoor.Q
