/- Release. -/
import Derived.Test.YtcmkjdpmlmmjcaaGreatDoorPsQPut
section
namespace Go.Proofs.YtcmkjdpmlmmjcaaGreatDoor.Q
open Go.RowKit

def setSt (l : List PF) (i s : Nat) : List PF := l.modify i (fun f => { f with st := s })
theorem setSt_len (l : List PF) (i s : Nat) : (setSt l i s).length = l.length := by simp [setSt]
theorem setSt_at {l : List PF} {i j s : Nat} {f : PF} (h : l[j]? = some f) : (setSt l i s)[j]? = some (if i = j then { f with st := s } else f) := by
  unfold setSt
  rw [List.getElem?_modify]
  by_cases e : i = j <;> simp [e, h]
theorem setSt_cells {l : List PF} {i s : Nat} (hi : i < l.length) : fsCells (setSt l i s) = (fsCells l).set (i * 3 + 2) (.int .i64 s) := by
  induction l generalizing i with
  | nil => simp at hi
  | cons x l ih =>
    have e : fsCells (x :: l) = .int .i64 x.at_ :: .int .i64 x.takes :: .int .i64 x.st :: fsCells l := rfl
    rcases i with _ | i
    · rfl
    · have hi' : i < l.length := by simpa using hi
      have e2 : setSt (x :: l) (i + 1) s = x :: setSt l i s := by simp [setSt]
      rw [e2, show fsCells (x :: setSt l i s) = .int .i64 x.at_ :: .int .i64 x.takes :: .int .i64 x.st :: fsCells (setSt l i s) from rfl, ih hi', e, show (i + 1) * 3 + 2 = i * 3 + 2 + 1 + 1 + 1 by omega]
      simp only [List.set_cons_succ]

theorem RM.setst {w : World} {rb yb fb off cap : Nat} {R : PR} (h : RM w rb yb R (.slice (some ⟨fb, off, none⟩) R.fs.length cap)) {i : Nat} (hi : i < R.fs.length) (s : Nat) :
    RM (w.setCell ⟨fb, off + i * 3 + 2, none⟩ (.int .i64 s)) rb yb { R with fs := setSt R.fs i s } (.slice (some ⟨fb, off, none⟩) R.fs.length cap) ∧ RFr rb yb w (w.setCell ⟨fb, off + i * 3 + 2, none⟩ (.int .i64 s)) := by
  have hS : Fr (One fb) w (w.setCell ⟨fb, off + i * 3 + 2, none⟩ (.int .i64 s)) := Fr.setCell _ _ _ _ rfl
  have hM : RM (w.setCell ⟨fb, off + i * 3 + 2, none⟩ (.int .i64 s)) rb yb { R with fs := setSt R.fs i s } (.slice (some ⟨fb, off, none⟩) R.fs.length cap) := by
    refine ⟨hS.keep h.r (fun e => h.fner (g := fb) rfl (by have e' : rb = fb := e; exact e'.symm)), hS.keep h.y (fun e => h.fne (g := fb) rfl (by have e' : yb = fb := e; exact e'.symm)), ?_, h.g2, h.g64, h.len⟩
    rcases h.f with ⟨q, _⟩ | ⟨fb', off', cap', cur, q1, q2, q3, q4, q5, q6⟩
    · simp at q
    · simp at q1
      obtain ⟨⟨rfl, rfl⟩, rfl⟩ := q1
      refine .inr ⟨fb, off, cap, _, by rw [setSt_len], heap_setCell_same q2, by rw [setSt_len]; exact q3, by simpa using q4, q5, fun j u hj => ?_⟩
      rw [setSt_cells hi, List.getElem?_set] at hj
      rw [Array.getElem?_setIfInBounds]
      by_cases e : i * 3 + 2 = j
      · subst e
        rw [if_pos rfl] at hj
        rw [fsCells_length, if_pos (by omega)] at hj
        rw [if_pos (by omega), if_pos (by omega)]
        exact hj
      · rw [if_neg e] at hj
        rw [if_neg (by omega)]
        exact q6 j u hj
  exact ⟨hM, RFr.of h hM (hS.mono (fun k _ e => .inr (.inr (by have e' : k = fb := e; rw [e']; rfl)))) (fun _ _ e => e)⟩
def takeP (R : PR) : Nat × Nat × PR := match waitI R.fs with
  | some i => (R.first + i, 0, { R with fs := setSt R.fs i 1 })
  | none => (0, if R.shut then 12 else 11, R)

set_option maxHeartbeats 8000000 in
set_option maxRecDepth 100000 in
theorem take_any {w : World} {rb yb : Nat} {R : PR} {fv : Value} (h : RM w rb yb R fv) (hl : R.fs.length ≤ 1000000) (hfl : R.first ≤ 1000000000000) :
    Calls Tryz.prog 25 #[.pointer (some ⟨rb, 0, none⟩)] w fun e w' => e = .returned (.tuple #[.int .i64 (takeP R).1, .int .i64 (takeP R).2.1]) ∧ RFr rb yb w w' ∧ ∃ fv', RM w' rb yb (takeP R).2.2 fv' := by
  have h1 := h.at1
  have H := hide h
  have hlt := h.lt
  obtain ⟨fa, fc, rfl⟩ := h.f.len
  clear h
  go_enter Tryz.func25, Tryz.ntmps25
  go_wp2_with fail
  refine (indexFunc_any H.out.f hl).mono ?_
  rintro e w1 ⟨rfl, hF1⟩
  have HF1 := hide hF1
  have H1 := hide (H.out.quiet hF1)
  clear hF1 h1
  have k1 := H1.out.at1
  have k2 := H1.out.at2
  have k4 := H1.out.at4
  rcases hq : waitI R.fs with _ | i
  · have HU : Hid (takeP R = (0, if R.shut then 12 else 11, R)) := by show _ = _; unfold takeP; rw [hq]
    simp only [idxI]
    clear hq
    cases hs : R.shut with
    | true =>
      rw [hs] at k4 HU
      clear hs
      go_wp2_with fail
      go_ret2
      rw [HU.out]
      exact ⟨rfl, RFr.quiet HF1.out hlt, _, H1.out⟩
    | false =>
      rw [hs] at k4 HU
      clear hs
      go_wp2_with fail
      go_ret2
      rw [HU.out]
      exact ⟨rfl, RFr.quiet HF1.out hlt, _, H1.out⟩
  · have HU : Hid (takeP R = (R.first + i, 0, { R with fs := setSt R.fs i 1 })) := by show _ = _; unfold takeP; rw [hq]
    obtain ⟨hi, _, _⟩ := List.findIdx?_eq_some_iff_getElem.1 hq
    obtain ⟨f, hf⟩ : ∃ f, R.fs[i]? = some f := ⟨R.fs[i], by simp⟩
    obtain ⟨fb, off, cap, e1, c1, c2, c3, c4⟩ := H1.out.f.at_ hf
    obtain ⟨rfl, _, rfl⟩ : fa = some ⟨fb, off, none⟩ ∧ True ∧ fc = cap := by simp at e1; exact ⟨e1.1, trivial, e1.2⟩
    have HE := hide (H1.out.setst hi 1)
    have hI : (i : Int) < (R.fs.length : Int) := by omega
    have hI0 : (0 : Int) ≤ (i : Int) := by omega
    have z2 : (w1.setCell ⟨fb, off + i * 3 + 2, none⟩ (.int .i64 1)).cell? ⟨rb, 2, none⟩ = some (.int .i64 R.first) := HE.out.1.at2
    have c5 := c4 (off + i * 3 + 2)
    simp only [idxI]
    clear hq hf e1
    go_wp2_with fail
    go_ret2
    rw [HU.out]
    exact ⟨by simp, (RFr.quiet HF1.out hlt).trans HE.out.2, _, HE.out.1⟩

def shutP (R : PR) : Nat × PR := if R.shut then (12, R) else (0, { R with shut := true })

-- %end%

end Go.Proofs.YtcmkjdpmlmmjcaaGreatDoor.Q
end
section
namespace Go.Proofs.YtcmkjdpmlmmjcaaGreatDoor.Q
open Go.RowKit

/-- All frames' bytes lie in the row. -/
def Kept (R : PR) : Prop := ∀ (i : Nat) (f : PF), R.fs[i]? = some f → Stored R.row f.at_ f.data ∧ f.data.length ≤ 1000

theorem heldI_at {R : PR} {n : Int} {i : Nat} (h : heldI R n = some i) : ∃ f, R.fs[i]? = some f ∧ f.st = 1 := by
  unfold heldI at h
  split at h
  · simp at h
  · split at h
    · rename_i f hf
      split at h
      · rename_i hs
        have h' := Option.some.inj h
        rw [h'] at hf
        exact ⟨f, hf, hs⟩
      · simp at h
    · simp at h

theorem conv_part {w : World} {rb yb : Nat} {R : PR} {fv : Value} (h : RM w rb yb R fv) {at_ : Nat} {d : Bs} (hst : Stored R.row at_ d) (a n c : Nat) (han : a + n ≤ d.length) :
    (convert 61 9 (.slice (some ⟨yb, at_ * 8 + 2 + a, none⟩) n c)).run Tryz.prog w = .ok (.string (ba ((d.drop a).take n))) w := by
  have hl : ((d.drop a).take n).length = n := by rw [List.length_take, List.length_drop]; omega
  have := run_convert_bytes_back (P := Tryz.prog) w 61 9 5 ⟨yb, at_ * 8 + 2 + a, none⟩ c ((d.drop a).take n) Tryz.underlying61 Tryz.underlying5 Tryz.underlying9 (fun j hj => by
    have e : (⟨yb, at_ * 8 + 2 + a, none⟩ : Addr).add j = ⟨yb, at_ * 8 + 2 + a + j, none⟩ := by simp [Addr.add]
    rw [e, cell_of_heap h.y]
    obtain ⟨p, s, hrow, hp⟩ := hst
    rw [hl] at hj
    have hj2 : a + j < d.length := by omega
    simp only [Lib.byteCells, List.getElem?_toArray, List.getElem?_map]
    rw [hrow, show at_ * 8 + 2 + a + j = (p ++ hdr d.length).length + (a + j) by simp [hdr]; omega, List.append_assoc, List.getElem?_append_right (Nat.le_add_right _ _), Nat.add_sub_cancel_left, List.getElem?_append_left hj2]
    simp [List.getElem_take, List.getElem_drop, hj2])
  rw [hl] at this
  exact this

/-- All bytes of a frame that is held. -/
def bytesP (R : PR) (n : Int) : Bs × Nat := match heldI R n with
  | none => ([], 13)
  | some i => match R.fs[i]? with
    | none => ([], 13)
    | some f => (f.data, 0)

set_option maxHeartbeats 8000000 in
set_option maxRecDepth 100000 in
theorem frame_any {w : World} {rb yb : Nat} {R : PR} {fv : Value} (h : RM w rb yb R fv) (hK : Kept R) (hl : R.fs.length ≤ 1000000) (h1st : 1 ≤ R.first) (hfl : R.first ≤ 1000000000000) (n : Int) (hn1 : -9223372036854775808 ≤ n) (hn2 : n ≤ 9223372036854775807) :
    Calls Tryz.prog 27 #[.pointer (some ⟨rb, 0, none⟩), .int .i64 n] w fun e w' => e = .returned (.tuple #[.string (ba (bytesP R n).1), .int .i64 (bytesP R n).2]) ∧ Fr Zero w w' := by
  have H := hide h
  have HK := hide hK
  obtain ⟨fa, fc, rfl⟩ := h.f.len
  clear h hK
  go_enter Tryz.func27, Tryz.ntmps27
  go_wp2_with fail
  refine (heldAt_any H.out hl h1st hfl n hn1 hn2).mono ?_
  rintro e w1 ⟨⟨i, rfl, hij⟩, hF1⟩
  have HF1 := hide hF1
  have H1 := hide (H.out.quiet hF1)
  clear hF1
  rcases hq : heldI R n with _ | j
  · have HU : Hid (bytesP R n = ([], 13)) := by show _ = _; unfold bytesP; rw [hq]
    simp only [Option.isSome_none]
    clear hq hij
    go_wp2_with fail
    go_ret2
    rw [HU.out]
    exact ⟨rfl, HF1⟩
  · obtain ⟨f, hf, hst⟩ := heldI_at hq
    have hi : i = j := hij j hq
    subst hi
    have HU : Hid (bytesP R n = (f.data, 0)) := by show _ = _; unfold bytesP; rw [hq]; simp only [hf]
    have k1 := H1.out.at1
    obtain ⟨fb, off, cap, e1, c1, c2, c3, c4⟩ := H1.out.f.at_ hf
    obtain ⟨rfl, _, rfl⟩ : fa = some ⟨fb, off, none⟩ ∧ True ∧ fc = cap := by simp at e1; exact ⟨e1.1, trivial, e1.2⟩
    obtain ⟨hS, hdl⟩ := HK.out j f hf
    have HS := hide hS
    have hjl : j < R.fs.length := (List.getElem?_eq_some_iff.1 hf).1
    have hI : (j : Int) < (R.fs.length : Int) := by omega
    simp only [Option.isSome_some]
    clear hq hij hf e1 hS hst
    go_wp2_with fail
    refine (bytes_any H1.out f.at_ f.data HS.out hdl).mono ?_
    rintro e w2 ⟨rfl, hF2⟩
    have HF2 := hide (HF1.out.trans hF2)
    have H2 := hide (H1.out.quiet hF2)
    clear hF2 k1 c1 c2 c3 c4
    have hcv := conv_part H2.out HS.out 0 f.data.length (8 * R.g - f.at_ * 8 - 2) (by omega)
    rw [List.drop_zero, List.take_length, Nat.add_zero] at hcv
    go_wp2_with fail
    go_ret2
    rw [HU.out]
    exact ⟨rfl, HF2⟩

end Go.Proofs.YtcmkjdpmlmmjcaaGreatDoor.Q
end
section
namespace Go.Proofs.YtcmkjdpmlmmjcaaGreatDoor.Q
open Go.RowKit

theorem FRow.tail {w : World} {v : Value} {f : PF} {l : List PF} (h : FRow w v (f :: l)) : ∃ fb off cap, v = .slice (some ⟨fb, off, none⟩) (l.length + 1) cap ∧ 0 < cap ∧ w.cell? ⟨fb, off + 2, none⟩ = some (.int .i64 f.st) ∧ (cap = 1 → FRow w (.slice (some ⟨fb, off, none⟩) l.length 0) l) ∧ (1 < cap → FRow w (.slice (some ⟨fb, off + 3, none⟩) l.length (cap - 1)) l) := by
  rcases h with ⟨_, h⟩ | ⟨fb, off, cap, cur, rfl, h2, h3, h4, h5, h6⟩
  · simp at h
  · have e : fsCells (f :: l) = .int .i64 f.at_ :: .int .i64 f.takes :: .int .i64 f.st :: fsCells l := rfl
    simp only [List.length_cons] at h3
    refine ⟨fb, off, cap, by simp, by omega, ?_, fun hc => ?_, fun hc => ?_⟩
    · rw [cell_of_heap h2]
      exact h6 2 _ (by rw [e]; rfl)
    · have hl : l = [] := List.eq_nil_of_length_eq_zero (by omega)
      subst hl
      exact .inr ⟨fb, off, 0, cur, rfl, h2, by simp, by omega, by unfold maxLen; omega, fun j u hj => by simp [fsCells] at hj⟩
    · refine .inr ⟨fb, off + 3, cap - 1, cur, rfl, h2, by omega, by omega, by omega, fun j u hj => ?_⟩
      have := h6 (j + 3) u (by rw [e]; exact hj)
      rw [show off + 3 + j = off + (j + 3) by omega]
      exact this

theorem RM.setfirst {w : World} {rb yb : Nat} {R : PR} {fv : Value} (h : RM w rb yb R fv) (n : Nat) : RM (w.setCell ⟨rb, 2, none⟩ (.int .i64 n)) rb yb { R with first := n } fv ∧ RFr rb yb w (w.setCell ⟨rb, 2, none⟩ (.int .i64 n)) := by
  have hS : Fr (One rb) w (w.setCell ⟨rb, 2, none⟩ (.int .i64 n)) := Fr.setCell _ _ _ _ rfl
  have hM : RM (w.setCell ⟨rb, 2, none⟩ (.int .i64 n)) rb yb { R with first := n } fv := ⟨by rw [heap_setCell_same h.r]; rfl, hS.keep h.y (fun e => h.ne (by have e' : yb = rb := e; exact e'.symm)), h.f.keep hS (fun g hg e => h.fner hg e), h.g2, h.g64, h.len⟩
  exact ⟨hM, RFr.of h hM (hS.mono (fun k _ e => .inl e)) (fun _ _ e => e)⟩

/-- Released frames at the head go. -/
def popP : List PF → Nat → List PF × Nat
  | [], n => ([], n)
  | f :: l, n => if f.st = 2 then popP l (n + 1) else (f :: l, n)
def relP (R : PR) (n : Int) : Nat × PR := match heldI R n with
  | none => (13, R)
  | some i => (0, { R with fs := (popP (setSt R.fs i 2) R.first).1, first := (popP (setSt R.fs i 2) R.first).2 })
def lenF (rb : Nat) (w : World) : Nat := match w.cell? ⟨rb, 1, none⟩ with
  | some (.slice _ n _) => n
  | _ => 0
theorem RM.lenF {w : World} {rb yb : Nat} {R : PR} {fv : Value} (h : RM w rb yb R fv) : lenF rb w = R.fs.length := by
  unfold Go.Proofs.YtcmkjdpmlmmjcaaGreatDoor.Q.lenF
  rw [h.at1]
  obtain ⟨a, c, rfl⟩ := h.f.len
  rfl

set_option maxHeartbeats 8000000 in
set_option maxRecDepth 100000 in
theorem release_any {w : World} {rb yb : Nat} {R : PR} {fv : Value} (h : RM w rb yb R fv) (hl : R.fs.length ≤ 1000000) (h1st : 1 ≤ R.first) (hfl : R.first ≤ 1000000000000) (n : Int) (hn1 : -9223372036854775808 ≤ n) (hn2 : n ≤ 9223372036854775807) :
    Calls Tryz.prog 26 #[.pointer (some ⟨rb, 0, none⟩), .int .i64 n] w fun e w' => e = .returned (.int .i64 (relP R n).1) ∧ RFr rb yb w w' ∧ ∃ fv', RM w' rb yb (relP R n).2 fv' := by
  have H := hide h
  have hlt := h.lt
  obtain ⟨fa, fc, rfl⟩ := h.f.len
  clear h
  go_enter Tryz.func26, Tryz.ntmps26
  go_wp2_with fail
  refine (heldAt_any H.out hl h1st hfl n hn1 hn2).mono ?_
  rintro e w1 ⟨⟨i, rfl, hij⟩, hF1⟩
  have HF1 := hide hF1
  have H1 := hide (H.out.quiet hF1)
  clear hF1
  rcases hq : heldI R n with _ | j
  · have HU : Hid (relP R n = (13, R)) := by show _ = _; unfold relP; rw [hq]
    simp only [Option.isSome_none]
    clear hq hij
    go_wp2_with fail
    go_ret
    rw [HU.out]
    exact ⟨rfl, RFr.quiet HF1.out hlt, _, H1.out⟩
  · obtain ⟨f, hf, hst⟩ := heldI_at hq
    have hi : i = j := hij j hq
    subst hi
    have HU : Hid (relP R n = (0, { R with fs := (popP (setSt R.fs j 2) R.first).1, first := (popP (setSt R.fs j 2) R.first).2 })) := by show _ = _; unfold relP; rw [hq]
    have k1 := H1.out.at1
    obtain ⟨fb, off, cap, e1, c1, c2, c3, c4⟩ := H1.out.f.at_ hf
    obtain ⟨rfl, _, rfl⟩ : fa = some ⟨fb, off, none⟩ ∧ True ∧ fc = cap := by simp at e1; exact ⟨e1.1, trivial, e1.2⟩
    have hjl : j < R.fs.length := (List.getElem?_eq_some_iff.1 hf).1
    have hI : (j : Int) < (R.fs.length : Int) := by omega
    have HE := hide (H1.out.setst hjl 2)
    have c5 := c4 (off + j * 3 + 2)
    have HF2 := hide ((RFr.quiet HF1.out hlt).trans HE.out.2)
    have HM2 := hide HE.out.1
    have HL0 : Hid ((setSt R.fs j 2).length = R.fs.length) := setSt_len _ _ _
    simp only [Option.isSome_some]
    clear hq hij hf e1 hst
    go_wp2_with fail
    clear c1 c2 c3 c4 c5 k1 HE
    go_loopw [] (fun wr => ∃ (l : List PF) (m : Nat) (v : Value), l.length ≤ 1000000 ∧ m + l.length ≤ 2000000000000 ∧ Hid (RM wr rb yb { R with fs := l, first := m } v) ∧ Hid (popP l m = popP (setSt R.fs j 2) R.first) ∧ Hid (RFr rb yb w wr)) (fun wr => lenF rb wr)
    case atStart =>
      have := HL0.out
      exact ⟨setSt R.fs j 2, R.first, _, by omega, by omega, HM2.out, rfl, HF2.out⟩
    case round =>
      obtain ⟨l, m, v, hl1, hl2, HMr, HP, HFr⟩ := hrel
      have k1 := HMr.out.at1
      have k2 := HMr.out.at2
      have kf1 := HMr.out.free 1
      have kf2 := HMr.out.free 2
      rcases l with _ | ⟨x, l⟩
      · obtain ⟨va, vc, rfl⟩ := HMr.out.f.len
        have HPP : Hid (popP (setSt R.fs j 2) R.first = ([], m)) := HP.out.symm
        simp only [List.length_nil] at k1
        go_wp2_with fail
        go_ret
        rw [HU.out, HPP.out]
        exact ⟨rfl, HFr, _, HMr.out⟩
      · obtain ⟨xb, xo, xc, rfl, hc0, hcs, ht1, ht2⟩ := HMr.out.f.tail
        have hll : (0 : Int) < ((l.length + 1 : Nat) : Int) := by omega
        have hll1 : (1 : Int) ≤ ((l.length + 1 : Nat) : Int) := by omega
        have hlx : l.length + 1 ≤ xc := by
          rcases HMr.out.f with ⟨q, _⟩ | ⟨_, _, _, _, q1, _, q3, _⟩
          · simp at q
          · simp at q1
            simp only [List.length_cons] at q3
            omega
        have HT1 := hide ht1
        have HT2 := hide ht2
        have HLF : Hid (lenF rb wr = l.length + 1) := by show _ = _; rw [HMr.out.lenF]; rfl
        clear ht1 ht2
        by_cases hs : x.st = 2
        · rw [hs] at hcs
          have HPN : Hid (popP l (m + 1) = popP (setSt R.fs j 2) R.first) := by show _ = _; rw [← HP.out]; simp only [popP]; rw [if_pos hs]
          simp only [List.length_cons] at hl1 hl2
          clear hs
          by_cases hx1 : xc = 1
          · subst hx1
            obtain rfl : l = [] := List.eq_nil_of_length_eq_zero (by omega)
            have hS := HMr.out.setf (HT1.out rfl) (Fr.refl _ _) (fun k _ e => by simpa [blockOf] using e)
            simp only [List.length_nil] at hS
            have HS := hide hS
            have z2 := hS.1.at2
            have zf2 := hS.1.free 2
            have HN := hide (hS.1.setfirst (m + 1))
            clear hS
            go_wp2_with fail
            refine ⟨⟨[], m + 1, _, by simp, by simp; omega, HN.out.1, HPN, (HFr.out.trans HS.out.2).trans HN.out.2⟩, ?_⟩
            have e1 := HN.out.1.lenF
            rw [HLF.out]
            refine Nat.lt_of_le_of_lt (Nat.le_of_eq e1) ?_
            simp
          · have hx2 : 1 < xc := by omega
            have hx3 : (1 : Int) < (xc : Int) := by omega
            have hS := HMr.out.setf (HT2.out hx2) (Fr.refl _ _) (fun k _ e => by simpa [blockOf] using e)
            have HS := hide hS
            have z2 := hS.1.at2
            have zf2 := hS.1.free 2
            have HN := hide (hS.1.setfirst (m + 1))
            clear hS
            go_wp2_with fail
            refine ⟨⟨l, m + 1, _, by omega, by omega, HN.out.1, HPN, (HFr.out.trans HS.out.2).trans HN.out.2⟩, ?_⟩
            have e1 := HN.out.1.lenF
            rw [HLF.out]
            refine Nat.lt_of_le_of_lt (Nat.le_of_eq e1) ?_
            simp
        · have hsb : ((x.st : Int) == 2) = false := beq_eq_false_iff_ne.2 (by omega)
          have HPN : Hid (popP (setSt R.fs j 2) R.first = (x :: l, m)) := by show _ = _; rw [← HP.out]; simp only [popP]; rw [if_neg hs]
          clear hs
          go_wp2_with fail
          go_ret
          rw [HU.out, HPN.out]
          exact ⟨rfl, HFr, _, HMr.out⟩

end Go.Proofs.YtcmkjdpmlmmjcaaGreatDoor.Q
end
