/- Which frame waits first; the bytes of a frame in the row. -/
import Derived.Test.YtnhkalnihjkoeaaGreatDoorRgQSmall
namespace Go.Proofs.YtnhkalnihjkoeaaGreatDoor.Q
open Go.RowKit

set_option maxHeartbeats 4000000 in
theorem waits_any (f : PF) (w : World) :
    Calls Tryz.prog 234 #[.agg #[.int .i64 f.at_, .int .i64 f.takes, .int .i64 f.st]] w fun e w' => e = .returned (.bool (decide (f.st = 0))) ∧ Fr Zero w w' := by
  by_cases hs : f.st = 0
  · rw [hs]
    go_enter Tryz.func234, Tryz.ntmps234
    go_wp2_with fail
    go_ret
    exact ⟨rfl, Fr.alloc _ _ _⟩
  · have hq : ((f.st : Int) == 0) = false := beq_eq_false_iff_ne.2 (by omega)
    have hd : decide (f.st = 0) = false := decide_eq_false hs
    rw [hd]
    go_enter Tryz.func234, Tryz.ntmps234
    go_wp2_with fail
    go_ret
    exact ⟨rfl, Fr.alloc _ _ _⟩

def waitI (l : List PF) : Option Nat := l.findIdx? (fun f => decide (f.st = 0))
def idxI (o : Option Nat) : Int := match o with
  | some i => i
  | none => -1

theorem findIdx_at {α : Type} {l : List α} {q : α → Bool} {k : Nat} {x : α} (hx : l[k]? = some x) (hq : q x = true) (hn : ∀ j y, j < k → l[j]? = some y → q y = false) : l.findIdx? q = some k := by
  obtain ⟨hk, he⟩ := List.getElem?_eq_some_iff.1 hx
  rw [List.findIdx?_eq_some_iff_getElem]
  refine ⟨hk, by rw [he]; exact hq, fun j hj => ?_⟩
  have := hn j l[j] hj (by simp)
  rw [this]
  simp
theorem findIdx_no {α : Type} {l : List α} {q : α → Bool} (hn : ∀ j y, j < l.length → l[j]? = some y → q y = false) : l.findIdx? q = none := by
  rw [List.findIdx?_eq_none_iff]
  intro x hx
  obtain ⟨j, hj, e⟩ := List.mem_iff_getElem.1 hx
  exact hn j x hj (by rw [List.getElem?_eq_getElem hj, e])

set_option maxHeartbeats 4000000 in
set_option maxRecDepth 100000 in
theorem indexFunc_any {w : World} {v : Value} {l : List PF} (h : FRow w v l) (hl : l.length ≤ 1000000) :
    Calls Tryz.prog 233 #[v, .func (Fn.func 234) #[] #[]] w fun e w' => e = .returned (.int .i64 (idxI (waitI l))) ∧ Fr Zero w w' := by
  have H := hide h
  obtain ⟨fa, fc, rfl⟩ := h.len
  clear h
  go_enter Tryz.func233, Tryz.ntmps233
  go_wp2_with fail
  go_loopw [8] (fun i wr => ∃ k : Nat, k ≤ l.length ∧ i = .int .i64 k ∧ Hid (∀ (j : Nat) (y : PF), j < k → l[j]? = some y → decide (y.st = 0) = false) ∧ Hid (Fr Zero w wr)) (fun i _ => l.length - (intOf i).toNat)
  case atStart => exact ⟨0, by omega, rfl, fun j q hj => by omega, Fr.refl _ _⟩
  case round =>
    obtain ⟨k, hk, rfl, HN, HF⟩ := hrel
    by_cases hlt : k < l.length
    · have hI : (k : Int) < (l.length : Int) := by omega
      obtain ⟨f, hf⟩ : ∃ f, l[k]? = some f := ⟨l[k], by simp⟩
      obtain ⟨fb, off, cap, e1, c1, c2, c3, _⟩ := (H.out.keep HF.out (fun _ _ h => h)).at_ hf
      obtain ⟨rfl, _, rfl⟩ : fa = some ⟨fb, off, none⟩ ∧ True ∧ fc = cap := by simp at e1; exact ⟨e1.1, trivial, e1.2⟩
      have HFp := hide hf
      clear hf e1
      go_wp2_with fail
      refine (waits_any f _).mono ?_
      rintro e w1 ⟨rfl, hF1⟩
      have HF1 := hide (HF.out.trans hF1)
      clear hF1
      rcases hq : decide (f.st = 0) with _ | _
      · have HQ := hide hq
        clear hq
        go_wp2_with fail
        refine ⟨⟨k + 1, by omega, by go_num, fun j y hj hy => ?_, HF1⟩, by simp [intOf]; omega⟩
        by_cases e : j = k
        · subst e
          rw [HFp.out] at hy
          cases hy
          exact HQ
        · exact HN j y (by omega) hy
      · have HQ := hide hq
        clear hq
        go_wp2_with fail
        go_ret
        refine ⟨?_, HF1⟩
        unfold waitI
        rw [findIdx_at (q := fun f : PF => decide (f.st = 0)) HFp.out HQ HN]
        rfl
    · have hkl : k = l.length := by omega
      subst hkl
      have hI : ¬ (l.length : Int) < (l.length : Int) := by omega
      go_wp2_with fail
      go_ret
      refine ⟨?_, HF⟩
      unfold waitI
      rw [findIdx_no (q := fun f : PF => decide (f.st = 0)) HN]
      rfl

end Go.Proofs.YtnhkalnihjkoeaaGreatDoor.Q
