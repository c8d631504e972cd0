/- Take, Shut, New. -/
import Derived.Test.YtnhkalnihjkoeaaGreatDoorRgQPut
namespace Go.Proofs.YtnhkalnihjkoeaaGreatDoor.Q
open Go.RowKit

def setSt (l : List PF) (i s : Nat) : List PF := l.modify i (fun f => { f with st := s })
theorem setSt_len (l : List PF) (i s : Nat) : (setSt l i s).length = l.length := by simp [setSt]
theorem setSt_at {l : List PF} {i j s : Nat} {f : PF} (h : l[j]? = some f) : (setSt l i s)[j]? = some (if i = j then { f with st := s } else f) := by
  unfold setSt
  rw [List.getElem?_modify]
  by_cases e : i = j <;> simp [e, h]
theorem setSt_cells {l : List PF} {i s : Nat} (hi : i < l.length) : fsCells (setSt l i s) = (fsCells l).set (i * 3 + 2) (.int .i64 s) := by
  induction l generalizing i with
  | nil => simp at hi
  | cons x l ih =>
    have e : fsCells (x :: l) = .int .i64 x.at_ :: .int .i64 x.takes :: .int .i64 x.st :: fsCells l := rfl
    rcases i with _ | i
    · rfl
    · have hi' : i < l.length := by simpa using hi
      have e2 : setSt (x :: l) (i + 1) s = x :: setSt l i s := by simp [setSt]
      rw [e2, show fsCells (x :: setSt l i s) = .int .i64 x.at_ :: .int .i64 x.takes :: .int .i64 x.st :: fsCells (setSt l i s) from rfl, ih hi', e, show (i + 1) * 3 + 2 = i * 3 + 2 + 1 + 1 + 1 by omega]
      simp only [List.set_cons_succ]

theorem RM.setst {w : World} {rb yb fb off cap : Nat} {R : PR} (h : RM w rb yb R (.slice (some ⟨fb, off, none⟩) R.fs.length cap)) {i : Nat} (hi : i < R.fs.length) (s : Nat) :
    RM (w.setCell ⟨fb, off + i * 3 + 2, none⟩ (.int .i64 s)) rb yb { R with fs := setSt R.fs i s } (.slice (some ⟨fb, off, none⟩) R.fs.length cap) ∧ RFr rb yb w (w.setCell ⟨fb, off + i * 3 + 2, none⟩ (.int .i64 s)) := by
  have hS : Fr (One fb) w (w.setCell ⟨fb, off + i * 3 + 2, none⟩ (.int .i64 s)) := Fr.setCell _ _ _ _ rfl
  have hM : RM (w.setCell ⟨fb, off + i * 3 + 2, none⟩ (.int .i64 s)) rb yb { R with fs := setSt R.fs i s } (.slice (some ⟨fb, off, none⟩) R.fs.length cap) := by
    refine ⟨hS.keep h.r (fun e => h.fner (g := fb) rfl (by have e' : rb = fb := e; exact e'.symm)), hS.keep h.y (fun e => h.fne (g := fb) rfl (by have e' : yb = fb := e; exact e'.symm)), ?_, h.g2, h.g64, h.len⟩
    rcases h.f with ⟨q, _⟩ | ⟨fb', off', cap', cur, q1, q2, q3, q4, q5, q6⟩
    · simp at q
    · simp at q1
      obtain ⟨⟨rfl, rfl⟩, rfl⟩ := q1
      refine .inr ⟨fb, off, cap, _, by rw [setSt_len], heap_setCell_same q2, by rw [setSt_len]; exact q3, by simpa using q4, q5, fun j u hj => ?_⟩
      rw [setSt_cells hi, List.getElem?_set] at hj
      rw [Array.getElem?_setIfInBounds]
      by_cases e : i * 3 + 2 = j
      · subst e
        rw [if_pos rfl] at hj
        rw [fsCells_length, if_pos (by omega)] at hj
        rw [if_pos (by omega), if_pos (by omega)]
        exact hj
      · rw [if_neg e] at hj
        rw [if_neg (by omega)]
        exact q6 j u hj
  exact ⟨hM, RFr.of h hM (hS.mono (fun k _ e => .inr (.inr (by have e' : k = fb := e; rw [e']; rfl)))) (fun _ _ e => e)⟩
theorem RM.sets {w : World} {rb yb : Nat} {R : PR} {fv : Value} (h : RM w rb yb R fv) (b : Bool) : RM (w.setCell ⟨rb, 4, none⟩ (.bool b)) rb yb { R with shut := b } fv ∧ RFr rb yb w (w.setCell ⟨rb, 4, none⟩ (.bool b)) := by
  have hS : Fr (One rb) w (w.setCell ⟨rb, 4, none⟩ (.bool b)) := Fr.setCell _ _ _ _ rfl
  have hM : RM (w.setCell ⟨rb, 4, none⟩ (.bool b)) rb yb { R with shut := b } fv := ⟨by rw [heap_setCell_same h.r]; rfl, hS.keep h.y (fun e => h.ne (by have e' : yb = rb := e; exact e'.symm)), h.f.keep hS (fun g hg e => h.fner hg e), h.g2, h.g64, h.len⟩
  exact ⟨hM, RFr.of h hM (hS.mono (fun k _ e => .inl e)) (fun _ _ e => e)⟩

def takeP (R : PR) : Nat × Nat × PR := match waitI R.fs with
  | some i => (R.first + i, 0, { R with fs := setSt R.fs i 1 })
  | none => (0, if R.shut then 12 else 11, R)

set_option maxHeartbeats 8000000 in
set_option maxRecDepth 100000 in
theorem take_any {w : World} {rb yb : Nat} {R : PR} {fv : Value} (h : RM w rb yb R fv) (hl : R.fs.length ≤ 1000000) (hfl : R.first ≤ 3000000000000) :
    Calls Tryz.prog 159 #[.pointer (some ⟨rb, 0, none⟩)] w fun e w' => e = .returned (.tuple #[.int .i64 (takeP R).1, .int .i64 (takeP R).2.1]) ∧ RFr rb yb w w' ∧ ∃ fv', RM w' rb yb (takeP R).2.2 fv' := by
  have h1 := h.at1
  have H := hide h
  have hlt := h.lt
  obtain ⟨fa, fc, rfl⟩ := h.f.len
  clear h
  go_enter Tryz.func159, Tryz.ntmps159
  go_wp2_with fail
  refine (indexFunc_any H.out.f hl).mono ?_
  rintro e w1 ⟨rfl, hF1⟩
  have HF1 := hide hF1
  have H1 := hide (H.out.quiet hF1)
  clear hF1 h1
  have k1 := H1.out.at1
  have k2 := H1.out.at2
  have k4 := H1.out.at4
  rcases hq : waitI R.fs with _ | i
  · have HU : Hid (takeP R = (0, if R.shut then 12 else 11, R)) := by show _ = _; unfold takeP; rw [hq]
    simp only [idxI]
    clear hq
    cases hs : R.shut with
    | true =>
      rw [hs] at k4 HU
      clear hs
      go_wp2_with fail
      go_ret2
      rw [HU.out]
      exact ⟨rfl, RFr.quiet HF1.out hlt, _, H1.out⟩
    | false =>
      rw [hs] at k4 HU
      clear hs
      go_wp2_with fail
      go_ret2
      rw [HU.out]
      exact ⟨rfl, RFr.quiet HF1.out hlt, _, H1.out⟩
  · have HU : Hid (takeP R = (R.first + i, 0, { R with fs := setSt R.fs i 1 })) := by show _ = _; unfold takeP; rw [hq]
    obtain ⟨hi, _, _⟩ := List.findIdx?_eq_some_iff_getElem.1 hq
    obtain ⟨f, hf⟩ : ∃ f, R.fs[i]? = some f := ⟨R.fs[i], by simp⟩
    obtain ⟨fb, off, cap, e1, c1, c2, c3, c4⟩ := H1.out.f.at_ hf
    obtain ⟨rfl, _, rfl⟩ : fa = some ⟨fb, off, none⟩ ∧ True ∧ fc = cap := by simp at e1; exact ⟨e1.1, trivial, e1.2⟩
    have HE := hide (H1.out.setst hi 1)
    have hI : (i : Int) < (R.fs.length : Int) := by omega
    have hI0 : (0 : Int) ≤ (i : Int) := by omega
    have z2 : (w1.setCell ⟨fb, off + i * 3 + 2, none⟩ (.int .i64 1)).cell? ⟨rb, 2, none⟩ = some (.int .i64 R.first) := HE.out.1.at2
    have c5 := c4 (off + i * 3 + 2)
    simp only [idxI]
    clear hq hf e1
    go_wp2_with fail
    go_ret2
    rw [HU.out]
    exact ⟨by simp, (RFr.quiet HF1.out hlt).trans HE.out.2, _, HE.out.1⟩

def shutP (R : PR) : Nat × PR := if R.shut then (12, R) else (0, { R with shut := true })

-- %?f:ring.Ring.Shut%
set_option maxHeartbeats 4000000 in
theorem shut_any {w : World} {rb yb : Nat} {R : PR} {fv : Value} (h : RM w rb yb R fv) :
    Calls Tryz.prog 163 #[.pointer (some ⟨rb, 0, none⟩)] w fun e w' => e = .returned (.int .i64 (shutP R).1) ∧ RFr rb yb w w' ∧ ∃ fv', RM w' rb yb (shutP R).2 fv' := by
  have h4 := h.at4
  have f4 := h.free 4
  have H := hide h
  clear h
  cases hs : R.shut with
  | true =>
    have HU : Hid (shutP R = (12, R)) := if_pos hs
    rw [hs] at h4
    clear hs
    go_enter Tryz.func163, Tryz.ntmps163
    go_wp2_with fail
    go_ret
    rw [HU.out]
    exact ⟨rfl, RFr.refl _ _ _, fv, H.out⟩
  | false =>
    have HU : Hid (shutP R = (0, { R with shut := true })) := if_neg (by rw [hs]; decide)
    rw [hs] at h4
    clear hs
    go_enter Tryz.func163, Tryz.ntmps163
    go_wp2_with fail
    go_ret
    rw [HU.out]
    exact ⟨rfl, (H.out.sets true).2, fv, (H.out.sets true).1⟩

-- %end%

end Go.Proofs.YtnhkalnihjkoeaaGreatDoor.Q
