/- The document's ring: what is held, Take, View, Release, Shut, Room. -/
import Derived.Test.YtnhkalnihjkoeaaGreatDoorRgQRoom
import Derived.Test.YtnhkalnihjkoeaaGreatDoorRgSPut
namespace Go.Proofs.YtnhkalnihjkoeaaGreatDoor.Q
open Go.RowKit

def setHow (l : List RF) (i s : Nat) : List RF := l.modify i (fun f => { f with how := s })
theorem setHow_len (l : List RF) (i s : Nat) : (setHow l i s).length = l.length := by simp [setHow]
theorem setHow_cells {l : List RF} {i s : Nat} (hi : i < l.length) : rsCells (setHow l i s) = (rsCells l).set (i * 3 + 2) (.int .i64 s) := by
  induction l generalizing i with
  | nil => simp at hi
  | cons x l ih =>
    rcases i with _ | i
    · simp [setHow, rsCells, rcells]
    · have e := ih (i := i) (by simpa using hi)
      have e1 : setHow (x :: l) (i + 1) s = x :: setHow l i s := by simp [setHow]
      rw [e1]
      show rcells x ++ rsCells (setHow l i s) = (rcells x ++ rsCells l).set ((i + 1) * 3 + 2) _
      rw [e, show (i + 1) * 3 + 2 = (rcells x).length + (i * 3 + 2) by simp [rcells]; omega, List.set_append_right _ _ (Nat.le_add_right _ _), Nat.add_sub_cancel_left]
theorem PRow.set {w : World} {ty : TypeId} {sz n fb off cap : Nat} {xs : List Value} (h : PRow w ty sz (.slice (some ⟨fb, off, none⟩) n cap) n xs) (j : Nat) (hj : j < xs.length) (u : Value) : PRow (w.setCell ⟨fb, off + j, none⟩ u) ty sz (.slice (some ⟨fb, off, none⟩) n cap) n (xs.set j u) := by
  obtain ⟨h0, h⟩ := h
  refine ⟨by rw [List.length_set]; exact h0, .inr ?_⟩
  rcases h with ⟨q, _⟩ | ⟨fb', off', cap', cur, q1, q2, q3, q4, q5, q6⟩
  · simp at q
  · simp at q1
    obtain ⟨⟨rfl, rfl⟩, rfl⟩ := q1
    refine ⟨fb, off, cap, cur.setIfInBounds (off + j) u, rfl, heap_setCell_same q2, q3, by rw [Array.size_setIfInBounds]; exact q4, q5, fun i v hi => ?_⟩
    rw [List.getElem?_set] at hi
    rw [Array.getElem?_setIfInBounds]
    by_cases hij : j = i
    · subst hij
      rw [if_pos rfl, if_pos hj] at hi
      have hlt : off + j < cur.size := by
        rcases Nat.lt_or_ge (off + j) cur.size with q | q
        · exact q
        · have := q6 j _ (List.getElem?_eq_getElem hj)
          rw [Array.getElem?_eq_none (by omega)] at this
          simp at this
      rw [if_pos rfl, if_pos hlt]
      exact hi
    · rw [if_neg hij] at hi
      rw [if_neg (by omega)]
      exact q6 i v hi
theorem RQ.seth {w : World} {qb fb off cap : Nat} {Q : RR} (h : RQ w qb Q (.slice (some ⟨fb, off, none⟩) Q.fs.length cap)) (i s : Nat) (hi : i < Q.fs.length) :
    RQ (w.setCell ⟨fb, off + i * 3 + 2, none⟩ (.int .i64 s)) qb { Q with fs := setHow Q.fs i s } (.slice (some ⟨fb, off, none⟩) Q.fs.length cap) ∧ QFr qb w (w.setCell ⟨fb, off + i * 3 + 2, none⟩ (.int .i64 s)) := by
  have hS : Fr (One fb) w (w.setCell ⟨fb, off + i * 3 + 2, none⟩ (.int .i64 s)) := Fr.setCell _ _ _ _ rfl
  have hne : qb ≠ fb := fun e => h.f.ne h.q (by decide) (by simp [blockOf, e])
  have hM : RQ (w.setCell ⟨fb, off + i * 3 + 2, none⟩ (.int .i64 s)) qb { Q with fs := setHow Q.fs i s } (.slice (some ⟨fb, off, none⟩) Q.fs.length cap) := by
    refine ⟨hS.keep h.q hne, ?_⟩
    show PRow _ _ 3 _ (setHow Q.fs i s).length (rsCells (setHow Q.fs i s))
    rw [setHow_len, setHow_cells hi]
    have := h.f.set (i * 3 + 2) (by rw [rsCells_length]; omega) (.int .i64 s)
    rw [← Nat.add_assoc] at this
    exact this
  refine ⟨hM, ⟨hS.mono (fun k _ e => QX.mk h (.inr (by have e' : k = fb := e; simp [blockOf, e']))), fun k _ hx => ?_⟩⟩
  rcases QX.of hM hx with e | e
  · exact QX.mk h (.inl e)
  · exact QX.mk h (.inr e)

theorem Same.at_ {R : PR} {Q : RR} (h : Same R Q) {n : Int} {i : Nat} (hi : heldI R n = some i) : ∃ (m : Nat) (f : PF), n = (m : Int) + 1 ∧ R.fs[i]? = some f ∧ f.st = 1 ∧ Q.fs[m]? = some (rf f) ∧ m < Q.fs.length ∧ m + 1 = R.first + i := by
  obtain ⟨old, h1, h2, h3⟩ := h.fs
  obtain ⟨f, hf, hst⟩ := heldI_at hi
  have hfl : i < R.fs.length := (List.getElem?_eq_some_iff.1 hf).1
  unfold heldI at hi
  split at hi
  · simp at hi
  · rename_i hc
    split at hi
    · split at hi
      · have hi' := Option.some.inj hi
        refine ⟨old.length + i, f, by omega, hf, hst, ?_, ?_, by omega⟩
        · rw [h1, List.getElem?_append_right (Nat.le_add_right _ _), Nat.add_sub_cancel_left, List.getElem?_map, hf]
          rfl
        · rw [h1]; simp; omega
      · simp at hi
    · simp at hi
theorem Same.no {R : PR} {Q : RR} (h : Same R Q) {n : Int} (hi : heldI R n = none) : n < 1 ∨ (Q.fs.length : Int) < n ∨ ∃ (m : Nat) (f : RF), n = (m : Int) + 1 ∧ Q.fs[m]? = some f ∧ f.how ≠ 1 := by
  obtain ⟨old, h1, h2, h3⟩ := h.fs
  by_cases a1 : n < 1
  · exact .inl a1
  by_cases a2 : (Q.fs.length : Int) < n
  · exact .inr (.inl a2)
  right; right
  have hl : Q.fs.length = old.length + R.fs.length := by rw [h1]; simp
  obtain ⟨m, hm⟩ : ∃ m : Nat, n = (m : Int) + 1 := ⟨(n - 1).toNat, by omega⟩
  have hml : m < Q.fs.length := by omega
  obtain ⟨f, hf⟩ : ∃ f, Q.fs[m]? = some f := ⟨_, List.getElem?_eq_getElem hml⟩
  refine ⟨m, f, hm, hf, fun e => ?_⟩
  rw [h1] at hf
  rcases Nat.lt_or_ge m old.length with q | q
  · rw [List.getElem?_append_left q] at hf
    have := h3 _ (List.mem_of_getElem? hf)
    omega
  · rw [List.getElem?_append_right q, List.getElem?_map] at hf
    rcases hr : R.fs[m - old.length]? with _ | x
    · rw [hr] at hf; simp at hf
    · rw [hr] at hf
      simp only [Option.map_some, Option.some.injEq] at hf
      unfold heldI at hi
      rw [if_neg (by omega), show (n - (R.first : Int)).toNat = m - old.length by omega, hr] at hi
      simp only at hi
      split at hi
      · simp at hi
      · rename_i hne
        apply hne
        have e2 : (rf x).how = 1 := by rw [hf]; exact e
        exact e2

set_option maxHeartbeats 8000000 in
set_option maxRecDepth 100000 in
theorem rheld_any {w : World} {qb : Nat} {Q : RR} {fv : Value} {R : PR} (h : RQ w qb Q fv) (hS : Same R Q) (hl : Q.fs.length ≤ 3000000000000) (n : Int) (hn1 : -9223372036854775808 ≤ n) (hn2 : n ≤ 9223372036854775807) :
    Calls Tryz.prog 161 #[.pointer (some ⟨qb, 0, none⟩), .int .i64 n] w fun e w' => e = .returned (.bool (heldI R n).isSome) ∧ w' = w := by
  have H := hide h
  have k1 := h.at1
  obtain ⟨fa, fc, rfl⟩ := h.f.len
  clear h
  rcases hq : heldI R n with _ | i
  · rcases hS.no hq with a1 | a1 | ⟨m, f, rfl, hf, hne⟩
    · have a1' : ¬ (1 : Int) ≤ n := by omega
      clear hq hS
      go_enter Tryz.func161, Tryz.ntmps161
      go_wp2_with fail
      go_ret
      exact ⟨rfl, rfl⟩
    · have a2 : (1 : Int) ≤ n := by omega
      have a3 : ¬ n ≤ (Q.fs.length : Int) := by omega
      clear hq hS
      go_enter Tryz.func161, Tryz.ntmps161
      go_wp2_with fail
      go_ret
      exact ⟨rfl, rfl⟩
    · have hml : m < Q.fs.length := (List.getElem?_eq_some_iff.1 hf).1
      have a2 : (1 : Int) ≤ (m : Int) + 1 := by omega
      have a3 : (m : Int) + 1 ≤ (Q.fs.length : Int) := by omega
      have a4 : (m : Int) < (Q.fs.length : Int) := by omega
      have a5 : ((m : Int) + 1 - 1) = (m : Int) := by omega
      obtain ⟨fb, off, cap, e1, c0, c1, c2, _⟩ := H.out.frame hf
      obtain ⟨rfl, _, rfl⟩ : fa = some ⟨fb, off, none⟩ ∧ True ∧ fc = cap := by simp at e1; exact ⟨e1.1, trivial, e1.2⟩
      have hb : ((f.how : Int) == 1) = false := beq_eq_false_iff_ne.2 (by omega)
      clear hq hS e1 hf
      go_enter Tryz.func161, Tryz.ntmps161
      go_wp2_with fail
      go_ret
      exact ⟨rfl, rfl⟩
  · obtain ⟨m, f, rfl, hf, hst, hQ, hml, _⟩ := hS.at_ hq
    have a2 : (1 : Int) ≤ (m : Int) + 1 := by omega
    have a3 : (m : Int) + 1 ≤ (Q.fs.length : Int) := by omega
    have a4 : (m : Int) < (Q.fs.length : Int) := by omega
    have a5 : ((m : Int) + 1 - 1) = (m : Int) := by omega
    obtain ⟨fb, off, cap, e1, c0, c1, c2, _⟩ := H.out.frame hQ
    obtain ⟨rfl, _, rfl⟩ : fa = some ⟨fb, off, none⟩ ∧ True ∧ fc = cap := by simp at e1; exact ⟨e1.1, trivial, e1.2⟩
    have c2' : w.cell? ⟨fb, off + m * 3 + 2, none⟩ = some (.int .i64 1) := by rw [c2]; simp [rf, hst]
    clear hq hS e1 hf hQ c2
    go_enter Tryz.func161, Tryz.ntmps161
    go_wp2_with fail
    go_ret
    exact ⟨rfl, rfl⟩

set_option maxHeartbeats 8000000 in
set_option maxRecDepth 100000 in
theorem rview_any {w : World} {qb : Nat} {Q : RR} {fv : Value} {R : PR} (h : RQ w qb Q fv) (hS : Same R Q) (hK : Kept R) (hl : Q.fs.length ≤ 3000000000000) (n from_ to_ : Int) (hn1 : -9223372036854775808 ≤ n) (hn2 : n ≤ 9223372036854775807) (hf1 : -9223372036854775808 ≤ from_) (hf2 : from_ ≤ 9223372036854775807) (ht1 : -9223372036854775808 ≤ to_) (ht2 : to_ ≤ 9223372036854775807) :
    Calls Tryz.prog 84 #[.pointer (some ⟨qb, 0, none⟩), .int .i64 n, .int .i64 from_, .int .i64 to_] w fun e w' => e = .returned (.tuple #[.string (ba (viewP R n from_ to_).1), .int .i64 (viewP R n from_ to_).2]) ∧ w' = w := by
  have H := hide h
  have HS := hide hS
  have HK := hide hK
  have k1 := h.at1
  obtain ⟨fa, fc, rfl⟩ := h.f.len
  clear h hS hK
  go_enter Tryz.func84, Tryz.ntmps84
  go_wp2_with fail
  refine (rheld_any H.out HS.out hl n hn1 hn2).mono ?_
  rintro e w1 ⟨rfl, e1⟩
  obtain rfl := e1.symm
  rcases hq : heldI R n with _ | i
  · have HU : Hid (viewP R n from_ to_ = ([], 13)) := by show _ = _; unfold viewP; rw [hq]
    simp only [Option.isSome_none]
    clear hq
    go_wp2_with fail
    go_ret2
    rw [HU.out]
    exact ⟨rfl, rfl⟩
  · obtain ⟨m, f, rfl, hf, hst, hQ, hml, _⟩ := HS.out.at_ hq
    have HU : Hid (viewP R ((m : Int) + 1) from_ to_ = if from_ < 0 ∨ to_ < from_ ∨ (f.data.length : Int) < to_ then ([], 8) else ((f.data.drop from_.toNat).take (to_ - from_).toNat, 0)) := by show _ = _; unfold viewP; rw [hq]; simp only [hf]
    have a4 : (m : Int) < (Q.fs.length : Int) := by omega
    have a5 : ((m : Int) + 1 - 1) = (m : Int) := by omega
    obtain ⟨fb, off, cap, e1, c0, c1, c2, _⟩ := H.out.frame hQ
    obtain ⟨rfl, _, rfl⟩ : fa = some ⟨fb, off, none⟩ ∧ True ∧ fc = cap := by simp at e1; exact ⟨e1.1, trivial, e1.2⟩
    have c0' : w.cell? ⟨fb, off + m * 3, none⟩ = some (.string (ba f.data)) := c0
    obtain ⟨_, hdl⟩ := HK.out i f hf
    have hsz := ba_size f.data
    have HX : ∀ a b, Hid ((ba f.data).extract a b = ba ((f.data.drop a).take (b - a))) := fun a b => ba_cut f.data a b
    simp only [Option.isSome_some]
    clear hq e1 hf hQ c0 c1 c2
    generalize ba f.data = S at *
    rw [← hsz] at HU hdl
    clear hsz
    by_cases b1 : from_ < 0
    · have HV : Hid (viewP R ((m : Int) + 1) from_ to_ = ([], 8)) := HU.out.trans (if_pos (.inl b1))
      go_wp2_with fail
      go_ret2
      rw [HV.out]
      exact ⟨rfl, rfl⟩
    · have b1d : decide (from_ < 0) = false := decide_eq_false b1
      by_cases b2 : to_ < from_
      · have HV : Hid (viewP R ((m : Int) + 1) from_ to_ = ([], 8)) := HU.out.trans (if_pos (.inr (.inl b2)))
        go_wp2_with fail
        go_ret2
        rw [HV.out]
        exact ⟨rfl, rfl⟩
      · have b2d : decide (to_ < from_) = false := decide_eq_false b2
        by_cases b3 : (S.size : Int) < to_
        · have HV : Hid (viewP R ((m : Int) + 1) from_ to_ = ([], 8)) := HU.out.trans (if_pos (.inr (.inr b3)))
          go_wp2_with fail
          go_ret2
          rw [HV.out]
          exact ⟨rfl, rfl⟩
        · have b3d : decide ((S.size : Int) < to_) = false := decide_eq_false b3
          have HV : Hid (viewP R ((m : Int) + 1) from_ to_ = ((f.data.drop from_.toNat).take (to_ - from_).toNat, 0)) := HU.out.trans (if_neg (by omega))
          obtain ⟨a, rfl⟩ : ∃ a : Nat, from_ = a := ⟨from_.toNat, by omega⟩
          obtain ⟨b, rfl⟩ : ∃ b : Nat, to_ = b := ⟨to_.toNat, by omega⟩
          have hI1 : (a : Int) ≤ (b : Int) := by omega
          have hI2 : (b : Int) ≤ (S.size : Int) := by omega
          have hm1 : a ≤ b := by omega
          have hm2 : b ≤ S.size := by omega
          rw [show ((b : Int) - (a : Int)).toNat = b - a by omega, Int.toNat_natCast] at HV
          go_wp2_with fail
          go_ret2
          rw [HV.out]
          refine ⟨?_, rfl⟩
          simp only
          rw [← (HX a b).out]
          rfl

theorem setHow_append {old l : List RF} {i s : Nat} : setHow (old ++ l) (old.length + i) s = old ++ setHow l i s := by
  unfold setHow
  induction old with
  | nil => simp
  | cons x old ih => simp only [List.cons_append, List.length_cons, show old.length + 1 + i = (old.length + i) + 1 by omega, List.modify_succ_cons]; rw [ih]
theorem setHow_short {l : List RF} {i s : Nat} (h : ∀ f ∈ l, f.bytes.length ≤ 1000) : ∀ f ∈ setHow l i s, f.bytes.length ≤ 1000 := by
  unfold setHow
  induction l generalizing i with
  | nil => intro f hf; simp at hf
  | cons x l ih =>
    intro f hf
    rcases i with _ | i
    · simp at hf
      rcases hf with rfl | hf
      · exact h x (by simp)
      · exact h f (by simp [hf])
    · rw [List.modify_succ_cons] at hf
      rcases List.mem_cons.1 hf with rfl | hf
      · exact h _ (by simp)
      · exact ih (fun y hy => h y (by simp [hy])) f hf
theorem setHow_map {l : List PF} {i s : Nat} : setHow (l.map rf) i s = (setSt l i s).map rf := by
  unfold setHow setSt
  induction l generalizing i with
  | nil => simp
  | cons x l ih =>
    rcases i with _ | i
    · simp [rf]
    · simp only [List.map_cons, List.modify_succ_cons]; rw [ih]
theorem Same.release {R : PR} {Q : RR} (h : Same R Q) {n : Int} {i m : Nat} (hi : heldI R n = some i) (hm : m + 1 = R.first + i) : Same (relP R n).2 { Q with fs := setHow Q.fs m 2 } ∧ (relP R n).1 = 0 := by
  obtain ⟨old, h1, h2, h3⟩ := h.fs
  have e : relP R n = (0, { R with fs := (popP (setSt R.fs i 2) R.first).1, first := (popP (setSt R.fs i 2) R.first).2 }) := by unfold relP; rw [hi]
  obtain ⟨k, s1, s2, s3, s4⟩ := pop_suffix (setSt R.fs i 2) R.first
  rw [e]
  refine ⟨⟨h.g, h.next, h.shut, ⟨old ++ ((setSt R.fs i 2).take k).map rf, ?_, ?_, fun f hf => ?_⟩, setHow_short h.short⟩, rfl⟩
  · simp only
    rw [h1, show m = old.length + i by omega, setHow_append, setHow_map, s1, List.append_assoc, ← List.map_append, List.take_append_drop]
  · simp only [List.length_append, List.length_map, List.length_take]
    rw [s2]
    omega
  · rcases List.mem_append.1 hf with hf | hf
    · exact h3 f hf
    · obtain ⟨x, hx, rfl⟩ := List.mem_map.1 hf
      obtain ⟨j, hj, hje⟩ := List.mem_iff_getElem.1 hx
      have hj2 : j < k := by rw [List.length_take] at hj; omega
      exact s4 j x hj2 (by rw [← hje, List.getElem_take]; exact List.getElem?_eq_getElem _)

set_option maxHeartbeats 8000000 in
set_option maxRecDepth 100000 in
theorem rrelease_any {w : World} {qb : Nat} {Q : RR} {fv : Value} {R : PR} (h : RQ w qb Q fv) (hS : Same R Q) (hl : Q.fs.length ≤ 3000000000000) (n : Int) (hn1 : -9223372036854775808 ≤ n) (hn2 : n ≤ 9223372036854775807) :
    Calls Tryz.prog 86 #[.pointer (some ⟨qb, 0, none⟩), .int .i64 n] w fun e w' => e = .returned (.int .i64 (relP R n).1) ∧ QFr qb w w' ∧ ∃ Q' fv', RQ w' qb Q' fv' ∧ Same (relP R n).2 Q' := by
  have H := hide h
  have HS := hide hS
  have k1 := h.at1
  have hqlt := h.lt
  obtain ⟨fa, fc, rfl⟩ := h.f.len
  clear h hS
  go_enter Tryz.func86, Tryz.ntmps86
  go_wp2_with fail
  refine (rheld_any H.out HS.out hl n hn1 hn2).mono ?_
  rintro e w1 ⟨rfl, e1⟩
  obtain rfl := e1.symm
  rcases hq : heldI R n with _ | i
  · have HU : Hid (relP R n = (13, R)) := by show _ = _; unfold relP; rw [hq]
    simp only [Option.isSome_none]
    clear hq
    go_wp2_with fail
    go_ret
    rw [HU.out]
    exact ⟨rfl, QFr.refl _ _, _, ⟨_, H.out⟩, HS.out⟩
  · obtain ⟨m, f, rfl, hf, hst, hQ, hml, hm⟩ := HS.out.at_ hq
    have HN := hide (HS.out.release hq hm)
    have a4 : (m : Int) < (Q.fs.length : Int) := by omega
    have a5 : ((m : Int) + 1 - 1) = (m : Int) := by omega
    obtain ⟨fb, off, cap, e1, c0, c1, c2, c3⟩ := H.out.frame hQ
    obtain ⟨rfl, _, rfl⟩ : fa = some ⟨fb, off, none⟩ ∧ True ∧ fc = cap := by simp at e1; exact ⟨e1.1, trivial, e1.2⟩
    have HE := hide (H.out.seth m 2 hml)
    have cf := c3 (off + m * 3 + 2)
    simp only [Option.isSome_some]
    clear hq e1 hf hQ c0 c1 c3
    go_wp2_with fail
    go_ret
    exact ⟨by rw [HN.out.2]; rfl, HE.out.2, _, ⟨_, HE.out.1⟩, HN.out.1⟩

set_option maxHeartbeats 8000000 in
theorem rclose_any {w : World} {qb : Nat} {Q : RR} {fv : Value} {R : PR} (h : RQ w qb Q fv) (hS : Same R Q) :
    Calls Tryz.prog 88 #[.pointer (some ⟨qb, 0, none⟩)] w fun e w' => e = .returned (.int .i64 (shutP R).1) ∧ QFr qb w w' ∧ ∃ Q' fv', RQ w' qb Q' fv' ∧ Same (shutP R).2 Q' := by
  have H := hide h
  have HS := hide hS
  have k3 := h.at3
  have kf := h.free 3
  rw [hS.shut] at k3
  clear h hS
  cases hs : R.shut with
  | true =>
    have HU : Hid (shutP R = (12, R)) := if_pos hs
    rw [hs] at k3
    clear hs
    go_enter Tryz.func88, Tryz.ntmps88
    go_wp2_with fail
    go_ret
    rw [HU.out]
    exact ⟨rfl, QFr.refl _ _, _, _, H.out, HS.out⟩
  | false =>
    have HU : Hid (shutP R = (0, { R with shut := true })) := if_neg (by rw [hs]; decide)
    rw [hs] at k3
    have HE := hide (H.out.sets true)
    clear hs
    go_enter Tryz.func88, Tryz.ntmps88
    go_wp2_with fail
    go_ret
    rw [HU.out]
    exact ⟨rfl, HE.out.2, _, _, HE.out.1, ⟨HS.out.g, HS.out.next, rfl, HS.out.fs, HS.out.short⟩⟩

theorem Same.take_at {R : PR} {Q : RR} (h : Same R Q) {i : Nat} {f : RF} (hf : Q.fs[i]? = some f) (h0 : f.how = 0) (hb : ∀ j x, j < i → Q.fs[j]? = some x → x.how ≠ 0) : (takeP R).1 = i + 1 ∧ (takeP R).2.1 = 0 ∧ Same (takeP R).2.2 { Q with fs := setHow Q.fs i 1 } := by
  obtain ⟨old, h1, h2, h3⟩ := h.fs
  have hge : old.length ≤ i := by
    rcases Nat.lt_or_ge i old.length with q | q
    · rw [h1, List.getElem?_append_left q] at hf
      have := h3 _ (List.mem_of_getElem? hf)
      omega
    · exact q
  obtain ⟨k, rfl⟩ : ∃ k, i = old.length + k := ⟨i - old.length, by omega⟩
  rw [h1, List.getElem?_append_right hge, Nat.add_sub_cancel_left, List.getElem?_map] at hf
  rcases hr : R.fs[k]? with _ | x
  · rw [hr] at hf; simp at hf
  · rw [hr] at hf
    simp only [Option.map_some, Option.some.injEq] at hf
    have hk : k < R.fs.length := (List.getElem?_eq_some_iff.1 hr).1
    have hx : x.st = 0 := by rw [← hf] at h0; exact h0
    have hsp : R.fs = R.fs.take k ++ x :: R.fs.drop (k + 1) := by
      have e1 := (List.getElem?_eq_some_iff.1 hr).2
      rw [← e1, ← List.drop_eq_getElem_cons hk, List.take_append_drop]
    have hA : ∀ y ∈ R.fs.take k, y.st ≠ 0 := fun y hy => by
      obtain ⟨j, hj, hje⟩ := List.mem_iff_getElem.1 hy
      rw [List.length_take] at hj
      have hj2 : R.fs[j]? = some y := by rw [← hje, List.getElem_take]; exact List.getElem?_eq_getElem _
      exact hb (old.length + j) (rf y) (by omega) (by rw [h1, List.getElem?_append_right (Nat.le_add_right _ _), Nat.add_sub_cancel_left, List.getElem?_map, hj2]; rfl)
    have hw : waitI R.fs = some k := by
      have := wait_mid (A := R.fs.take k) (B := R.fs.drop (k + 1)) hA hx
      rw [← hsp, List.length_take, Nat.min_eq_left (by omega)] at this
      exact this
    have e : takeP R = (R.first + k, 0, { R with fs := setSt R.fs k 1 }) := by unfold takeP; rw [hw]
    rw [e]
    refine ⟨by simp only; omega, rfl, ⟨h.g, h.next, h.shut, ⟨old, ?_, h2, h3⟩, setHow_short h.short⟩⟩
    simp only
    rw [h1, setHow_append, setHow_map]
theorem Same.take_no {R : PR} {Q : RR} (h : Same R Q) (hb : ∀ j x, j < Q.fs.length → Q.fs[j]? = some x → x.how ≠ 0) : takeP R = (0, if R.shut then 12 else 11, R) := by
  obtain ⟨old, h1, h2, h3⟩ := h.fs
  have hw : waitI R.fs = none := wait_none (fun y hy => by
    obtain ⟨j, hj, hje⟩ := List.mem_iff_getElem.1 hy
    have hj2 : R.fs[j]? = some y := by rw [← hje]; exact List.getElem?_eq_getElem _
    exact hb (old.length + j) (rf y) (by rw [h1]; simp; omega) (by rw [h1, List.getElem?_append_right (Nat.le_add_right _ _), Nat.add_sub_cancel_left, List.getElem?_map, hj2]; rfl))
  unfold takeP
  rw [hw]

set_option maxHeartbeats 8000000 in
set_option maxRecDepth 100000 in
theorem rtake_any {w : World} {qb : Nat} {Q : RR} {fv : Value} {R : PR} (h : RQ w qb Q fv) (hS : Same R Q) (hl : Q.fs.length ≤ 3000000000000) :
    Calls Tryz.prog 82 #[.pointer (some ⟨qb, 0, none⟩)] w fun e w' => e = .returned (.tuple #[.int .i64 (takeP R).1, .int .i64 (takeP R).2.1]) ∧ QFr qb w w' ∧ ∃ Q' fv', RQ w' qb Q' fv' ∧ Same (takeP R).2.2 Q' := by
  have H := hide h
  have HS := hide hS
  have k1 := h.at1
  have k3 := h.at3
  rw [hS.shut] at k3
  have hqlt := h.lt
  obtain ⟨fa, fc, rfl⟩ := h.f.len
  clear h hS
  go_enter Tryz.func82, Tryz.ntmps82
  go_wp2_with fail
  go_loopw [4] (fun iv wr => ∃ i : Nat, i ≤ Q.fs.length ∧ iv = .int .i64 i ∧ wr = w ∧ Hid (∀ j x, j < i → Q.fs[j]? = some x → x.how ≠ 0)) (fun iv _ => Q.fs.length - (intOf iv).toNat)
  case atStart => exact ⟨0, by omega, rfl, rfl, fun j x hj => by omega⟩
  case round =>
    obtain ⟨i, hi, rfl, hw, HB⟩ := hrel
    subst hw
    by_cases hlt : i < Q.fs.length
    · have hI : (i : Int) < (Q.fs.length : Int) := by omega
      obtain ⟨f, hf⟩ : ∃ f, Q.fs[i]? = some f := ⟨_, List.getElem?_eq_getElem hlt⟩
      obtain ⟨fb, off, cap, e1, c0, c1, c2, c3⟩ := H.out.frame hf
      obtain ⟨rfl, _, rfl⟩ : fa = some ⟨fb, off, none⟩ ∧ True ∧ fc = cap := by simp at e1; exact ⟨e1.1, trivial, e1.2⟩
      have cf := c3 (off + i * 3 + 2)
      by_cases hh : f.how = 0
      · have HT := hide (HS.out.take_at hf hh HB.out)
        have HE := hide (H.out.seth i 1 hlt)
        rw [hh] at c2
        clear hf e1 c3 c0 c1
        go_wp2_with fail
        go_ret2
        rw [HT.out.1, HT.out.2.1]
        exact ⟨by rfl, HE.out.2, _, _, HE.out.1, HT.out.2.2⟩
      · have hb : ((f.how : Int) == 0) = false := beq_eq_false_iff_ne.2 (by omega)
        have HN : Hid (∀ j x, j < i + 1 → Q.fs[j]? = some x → x.how ≠ 0) := fun j x hj hx => by
          rcases Nat.lt_or_ge j i with q | q
          · exact HB.out j x q hx
          · have : j = i := by omega
            subst this
            rw [hf] at hx
            simp at hx
            subst hx
            exact hh
        clear hf e1 c3 c0 c1
        go_wp2_with fail
        exact ⟨⟨i + 1, by omega, by go_num, by trivial, HN⟩, by simp [intOf]; omega⟩
    · have hi' : i = Q.fs.length := by omega
      subst hi'
      have hI : ¬ (Q.fs.length : Int) < (Q.fs.length : Int) := by omega
      have HT := hide (HS.out.take_no HB.out)
      cases hs : R.shut with
      | true =>
        rw [hs] at k3 HT
        clear hs
        go_wp2_with fail
        go_ret2
        rw [HT.out]
        exact ⟨rfl, QFr.refl _ _, _, ⟨_, H.out⟩, HS.out⟩
      | false =>
        rw [hs] at k3 HT
        clear hs
        go_wp2_with fail
        go_ret2
        rw [HT.out]
        exact ⟨rfl, QFr.refl _ _, _, ⟨_, H.out⟩, HS.out⟩

end Go.Proofs.YtnhkalnihjkoeaaGreatDoor.Q
