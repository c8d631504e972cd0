/- Release. -/
import Derived.Test.YtnhkalnihjkoeaaGreatDoorRgQVw
namespace Go.Proofs.YtnhkalnihjkoeaaGreatDoor.Q
open Go.RowKit

theorem FRow.tail {w : World} {v : Value} {f : PF} {l : List PF} (h : FRow w v (f :: l)) : ∃ fb off cap, v = .slice (some ⟨fb, off, none⟩) (l.length + 1) cap ∧ 0 < cap ∧ w.cell? ⟨fb, off + 2, none⟩ = some (.int .i64 f.st) ∧ (cap = 1 → FRow w (.slice (some ⟨fb, off, none⟩) l.length 0) l) ∧ (1 < cap → FRow w (.slice (some ⟨fb, off + 3, none⟩) l.length (cap - 1)) l) := by
  rcases h with ⟨_, h⟩ | ⟨fb, off, cap, cur, rfl, h2, h3, h4, h5, h6⟩
  · simp at h
  · have e : fsCells (f :: l) = .int .i64 f.at_ :: .int .i64 f.takes :: .int .i64 f.st :: fsCells l := rfl
    simp only [List.length_cons] at h3
    refine ⟨fb, off, cap, by simp, by omega, ?_, fun hc => ?_, fun hc => ?_⟩
    · rw [cell_of_heap h2]
      exact h6 2 _ (by rw [e]; rfl)
    · have hl : l = [] := List.eq_nil_of_length_eq_zero (by omega)
      subst hl
      exact .inr ⟨fb, off, 0, cur, rfl, h2, by simp, by omega, by unfold maxLen; omega, fun j u hj => by simp [fsCells] at hj⟩
    · refine .inr ⟨fb, off + 3, cap - 1, cur, rfl, h2, by omega, by omega, by omega, fun j u hj => ?_⟩
      have := h6 (j + 3) u (by rw [e]; exact hj)
      rw [show off + 3 + j = off + (j + 3) by omega]
      exact this

theorem RM.setfirst {w : World} {rb yb : Nat} {R : PR} {fv : Value} (h : RM w rb yb R fv) (n : Nat) : RM (w.setCell ⟨rb, 2, none⟩ (.int .i64 n)) rb yb { R with first := n } fv ∧ RFr rb yb w (w.setCell ⟨rb, 2, none⟩ (.int .i64 n)) := by
  have hS : Fr (One rb) w (w.setCell ⟨rb, 2, none⟩ (.int .i64 n)) := Fr.setCell _ _ _ _ rfl
  have hM : RM (w.setCell ⟨rb, 2, none⟩ (.int .i64 n)) rb yb { R with first := n } fv := ⟨by rw [heap_setCell_same h.r]; rfl, hS.keep h.y (fun e => h.ne (by have e' : yb = rb := e; exact e'.symm)), h.f.keep hS (fun g hg e => h.fner hg e), h.g2, h.g64, h.len⟩
  exact ⟨hM, RFr.of h hM (hS.mono (fun k _ e => .inl e)) (fun _ _ e => e)⟩

/-- Released frames at the head go. -/
def popP : List PF → Nat → List PF × Nat
  | [], n => ([], n)
  | f :: l, n => if f.st = 2 then popP l (n + 1) else (f :: l, n)
def relP (R : PR) (n : Int) : Nat × PR := match heldI R n with
  | none => (13, R)
  | some i => (0, { R with fs := (popP (setSt R.fs i 2) R.first).1, first := (popP (setSt R.fs i 2) R.first).2 })
def lenF (rb : Nat) (w : World) : Nat := match w.cell? ⟨rb, 1, none⟩ with
  | some (.slice _ n _) => n
  | _ => 0
theorem RM.lenF {w : World} {rb yb : Nat} {R : PR} {fv : Value} (h : RM w rb yb R fv) : lenF rb w = R.fs.length := by
  unfold Go.Proofs.YtnhkalnihjkoeaaGreatDoor.Q.lenF
  rw [h.at1]
  obtain ⟨a, c, rfl⟩ := h.f.len
  rfl

set_option maxHeartbeats 8000000 in
set_option maxRecDepth 100000 in
theorem release_any {w : World} {rb yb : Nat} {R : PR} {fv : Value} (h : RM w rb yb R fv) (hl : R.fs.length ≤ 1000000) (h1st : 1 ≤ R.first) (hfl : R.first ≤ 3000000000000) (n : Int) (hn1 : -9223372036854775808 ≤ n) (hn2 : n ≤ 9223372036854775807) :
    Calls Tryz.prog 162 #[.pointer (some ⟨rb, 0, none⟩), .int .i64 n] w fun e w' => e = .returned (.int .i64 (relP R n).1) ∧ RFr rb yb w w' ∧ ∃ fv', RM w' rb yb (relP R n).2 fv' := by
  have H := hide h
  have hlt := h.lt
  obtain ⟨fa, fc, rfl⟩ := h.f.len
  clear h
  go_enter Tryz.func162, Tryz.ntmps162
  go_wp2_with fail
  refine (heldAt_any H.out hl h1st hfl n hn1 hn2).mono ?_
  rintro e w1 ⟨⟨i, rfl, hij⟩, hF1⟩
  have HF1 := hide hF1
  have H1 := hide (H.out.quiet hF1)
  clear hF1
  rcases hq : heldI R n with _ | j
  · have HU : Hid (relP R n = (13, R)) := by show _ = _; unfold relP; rw [hq]
    simp only [Option.isSome_none]
    clear hq hij
    go_wp2_with fail
    go_ret
    rw [HU.out]
    exact ⟨rfl, RFr.quiet HF1.out hlt, _, H1.out⟩
  · obtain ⟨f, hf, hst⟩ := heldI_at hq
    have hi : i = j := hij j hq
    subst hi
    have HU : Hid (relP R n = (0, { R with fs := (popP (setSt R.fs j 2) R.first).1, first := (popP (setSt R.fs j 2) R.first).2 })) := by show _ = _; unfold relP; rw [hq]
    have k1 := H1.out.at1
    obtain ⟨fb, off, cap, e1, c1, c2, c3, c4⟩ := H1.out.f.at_ hf
    obtain ⟨rfl, _, rfl⟩ : fa = some ⟨fb, off, none⟩ ∧ True ∧ fc = cap := by simp at e1; exact ⟨e1.1, trivial, e1.2⟩
    have hjl : j < R.fs.length := (List.getElem?_eq_some_iff.1 hf).1
    have hI : (j : Int) < (R.fs.length : Int) := by omega
    have HE := hide (H1.out.setst hjl 2)
    have c5 := c4 (off + j * 3 + 2)
    have HF2 := hide ((RFr.quiet HF1.out hlt).trans HE.out.2)
    have HM2 := hide HE.out.1
    have HL0 : Hid ((setSt R.fs j 2).length = R.fs.length) := setSt_len _ _ _
    simp only [Option.isSome_some]
    clear hq hij hf e1 hst
    go_wp2_with fail
    clear c1 c2 c3 c4 c5 k1 HE
    go_loopw [] (fun wr => ∃ (l : List PF) (m : Nat) (v : Value), l.length ≤ 1000000 ∧ m + l.length ≤ 4000000000000 ∧ Hid (RM wr rb yb { R with fs := l, first := m } v) ∧ Hid (popP l m = popP (setSt R.fs j 2) R.first) ∧ Hid (RFr rb yb w wr)) (fun wr => lenF rb wr)
    case atStart =>
      have := HL0.out
      exact ⟨setSt R.fs j 2, R.first, _, by omega, by omega, HM2.out, rfl, HF2.out⟩
    case round =>
      obtain ⟨l, m, v, hl1, hl2, HMr, HP, HFr⟩ := hrel
      have k1 := HMr.out.at1
      have k2 := HMr.out.at2
      have kf1 := HMr.out.free 1
      have kf2 := HMr.out.free 2
      rcases l with _ | ⟨x, l⟩
      · obtain ⟨va, vc, rfl⟩ := HMr.out.f.len
        have HPP : Hid (popP (setSt R.fs j 2) R.first = ([], m)) := HP.out.symm
        simp only [List.length_nil] at k1
        go_wp2_with fail
        go_ret
        rw [HU.out, HPP.out]
        exact ⟨rfl, HFr, _, HMr.out⟩
      · obtain ⟨xb, xo, xc, rfl, hc0, hcs, ht1, ht2⟩ := HMr.out.f.tail
        have hll : (0 : Int) < ((l.length + 1 : Nat) : Int) := by omega
        have hll1 : (1 : Int) ≤ ((l.length + 1 : Nat) : Int) := by omega
        have hlx : l.length + 1 ≤ xc := by
          rcases HMr.out.f with ⟨q, _⟩ | ⟨_, _, _, _, q1, _, q3, _⟩
          · simp at q
          · simp at q1
            simp only [List.length_cons] at q3
            omega
        have HT1 := hide ht1
        have HT2 := hide ht2
        have HLF : Hid (lenF rb wr = l.length + 1) := by show _ = _; rw [HMr.out.lenF]; rfl
        clear ht1 ht2
        by_cases hs : x.st = 2
        · rw [hs] at hcs
          have HPN : Hid (popP l (m + 1) = popP (setSt R.fs j 2) R.first) := by show _ = _; rw [← HP.out]; simp only [popP]; rw [if_pos hs]
          simp only [List.length_cons] at hl1 hl2
          clear hs
          by_cases hx1 : xc = 1
          · subst hx1
            obtain rfl : l = [] := List.eq_nil_of_length_eq_zero (by omega)
            have hS := HMr.out.setf (HT1.out rfl) (Fr.refl _ _) (fun k _ e => by simpa [blockOf] using e)
            simp only [List.length_nil] at hS
            have HS := hide hS
            have z2 := hS.1.at2
            have zf2 := hS.1.free 2
            have HN := hide (hS.1.setfirst (m + 1))
            clear hS
            go_wp2_with fail
            refine ⟨⟨[], m + 1, _, by simp, by simp; omega, HN.out.1, HPN, (HFr.out.trans HS.out.2).trans HN.out.2⟩, ?_⟩
            have e1 := HN.out.1.lenF
            rw [HLF.out]
            refine Nat.lt_of_le_of_lt (Nat.le_of_eq e1) ?_
            simp
          · have hx2 : 1 < xc := by omega
            have hx3 : (1 : Int) < (xc : Int) := by omega
            have hS := HMr.out.setf (HT2.out hx2) (Fr.refl _ _) (fun k _ e => by simpa [blockOf] using e)
            have HS := hide hS
            have z2 := hS.1.at2
            have zf2 := hS.1.free 2
            have HN := hide (hS.1.setfirst (m + 1))
            clear hS
            go_wp2_with fail
            refine ⟨⟨l, m + 1, _, by omega, by omega, HN.out.1, HPN, (HFr.out.trans HS.out.2).trans HN.out.2⟩, ?_⟩
            have e1 := HN.out.1.lenF
            rw [HLF.out]
            refine Nat.lt_of_le_of_lt (Nat.le_of_eq e1) ?_
            simp
        · have hsb : ((x.st : Int) == 2) = false := beq_eq_false_iff_ne.2 (by omega)
          have HPN : Hid (popP (setSt R.fs j 2) R.first = (x :: l, m)) := by show _ = _; rw [← HP.out]; simp only [popP]; rw [if_neg hs]
          clear hs
          go_wp2_with fail
          go_ret
          rw [HU.out, HPN.out]
          exact ⟨rfl, HFr, _, HMr.out⟩

end Go.Proofs.YtnhkalnihjkoeaaGreatDoor.Q
