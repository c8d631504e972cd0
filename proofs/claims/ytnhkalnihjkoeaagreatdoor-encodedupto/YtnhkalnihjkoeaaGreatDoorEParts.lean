/- The reference's reader of texts takes lists, options, records, choices. -/
import Derived.Test.YtnhkalnihjkoeaaGreatDoorEValue
namespace Go.Proofs.YtnhkalnihjkoeaaGreatDoor
open Go.RowKit

theorem nat7 : ((7 : Nat) : Int) = 7 := rfl
theorem nat8 : ((8 : Nat) : Int) = 8 := rfl
theorem nat9 : ((9 : Nat) : Int) = 9 := rfl
theorem nat10 : ((10 : Nat) : Int) = 10 := rfl

set_option maxHeartbeats 8000000 in
set_option maxRecDepth 100000 in
theorem mv_list {w : World} {B mb db : Nat} {s : ByteArray} {l out : Bs} {tab : List RT} {roots : List Nat} {k x : Nat} {t : PT} (hV : MSaid k) (h : MIn w B mb db s l out tab roots) (hI : Is tab x t) (hk : t.kind = 7) (hW : WFT (k + 1) t) (hr : out.length + 8 * l.length + 600 * (k + 1) ≤ 800000000) :
    Calls Tryz.prog 106 #[.pointer (some ⟨mb, 0, none⟩), .int .i64 x] w fun e w' => EPost mb B db s out (8 * l.length + 600 * (k + 1)) w l (rText (k + 1) t l) (wMsg (k + 1)) e w' := by
  have HW := hide hW
  have HV := hide hV
  clear hW hV
  obtain ⟨ov, hb⟩ := h.ms.block
  have h0 := hb.at0
  have h4 := hb.at4
  have HI := hide h
  have HIs := hide hI
  have hlt := hb.lt
  have hs9 : s.size ≤ maxLen := by unfold maxLen; have := h.hs; omega
  have HS9 := hide hs9
  clear h hI hb hs9
  go_enter Tryz.func106, Tryz.ntmps106
  go_wp2_with fail
  refine (at_tab HI.out.df x t HIs.out HI.out.hB HI.out.tl).mono ?_
  rintro e w1 ⟨hF1, row, o, nv1, a, rfl, hrow, hRT⟩
  have HE : Hid (rText (k + 1) t l = ((rList (rText k (t.sub 0)) l).1.map (vParts t 0), (rList (rText k (t.sub 0)) l).2)) := by show _ = _; simp only [rText]; rw [if_neg (by omega), if_neg (by omega), if_neg (by omega), if_neg (by omega), if_neg (by omega), if_pos hk]
  have hs1 : t.subs.length = 1 := HW.out.2.2.2.2.1 (.inl hk)
  have hol : row.of.length = 1 := hrow.len.trans hs1
  have hkk := hrow.kind
  rw [hkk] at hRT ⊢
  have hRT1 := hRT.keep hF1.of0
  obtain ⟨go, co, rfl, hT9⟩ := T9.new hRT1 (by omega)
  obtain ⟨pn, qn, rfl⟩ := hRT.2.2.1.shape
  obtain ⟨pa, qa, rfl⟩ := hRT.2.2.2.shape
  have HIsub := hide (hrow.sub 0 (by omega))
  have HF1 := hide (hF1.trans (Fr.alloc Zero w1 (.cells #[.int .i64 t.kind, .slice (some ⟨go, 0, none⟩) row.of.length co, .slice pn (texts row.names).length qn, .slice pa (ints row.ats).length qa] 293)))
  have HT9 := hide hT9
  have HOL := hide hol
  rw [hol] at HT9
  rw [hol] at HF1
  rw [hol]
  rw [hk] at HT9
  rw [hk] at HF1
  rw [hk]
  simp only [nat7] at HT9 HF1
  have HKK := hide hk
  have HWs := hide (HW.out.sub (i := 0) (by omega))
  clear hF1 hrow hRT hRT1 hkk hT9 hol hk hs1
  have c1 := HT9.out.at1n HOL.out
  have c2 := HT9.out.of 0 (by have := HOL.out; omega)
  go_wp2_with fail
  refine (mList_any HV.out (HI.out.quiet HF1.out) _ (t.sub 0) HIsub.out HWs.out (by omega)).mono ?_
  intro e w2 hE
  have he := hE.end_
  subst he
  have HP := hide (EPost.pre (MFr.quiet HF1.out hlt) hE)
  clear hE
  go_wp2_with fail
  go_end0
  refine HP.out.map (by rw [HE.out]) (fun a ha => ⟨_, by rw [HE.out]; simp [ha]; rfl, ?_⟩) (fun hn => by rw [HE.out]; simp [hn]) (by omega)
  show wMsg (k + 1) ⟨t, _, _, _⟩ = _
  rw [wMsg_mk, if_neg (by rw [HKK.out]; omega), if_neg (by rw [HKK.out]; omega), if_neg (by rw [HKK.out]; omega), if_neg (by rw [HKK.out]; omega), if_pos (by rw [HKK.out]; omega)]

set_option maxHeartbeats 8000000 in
set_option maxRecDepth 100000 in
theorem mv_option {w : World} {B mb db : Nat} {s : ByteArray} {l out : Bs} {tab : List RT} {roots : List Nat} {k x : Nat} {t : PT} (hV : MSaid k) (h : MIn w B mb db s l out tab roots) (hI : Is tab x t) (hk : t.kind = 8) (hW : WFT (k + 1) t) (hr : out.length + 8 * l.length + 600 * (k + 1) ≤ 800000000) :
    Calls Tryz.prog 106 #[.pointer (some ⟨mb, 0, none⟩), .int .i64 x] w fun e w' => EPost mb B db s out (8 * l.length + 600 * (k + 1)) w l (rText (k + 1) t l) (wMsg (k + 1)) e w' := by
  have HW := hide hW
  have HV := hide hV
  clear hW hV
  obtain ⟨ov, hb⟩ := h.ms.block
  have h0 := hb.at0
  have h4 := hb.at4
  have HI := hide h
  have HIs := hide hI
  have hlt := hb.lt
  have hs9 : s.size ≤ maxLen := by unfold maxLen; have := h.hs; omega
  have HS9 := hide hs9
  clear h hI hb hs9
  go_enter Tryz.func106, Tryz.ntmps106
  go_wp2_with fail
  refine (at_tab HI.out.df x t HIs.out HI.out.hB HI.out.tl).mono ?_
  rintro e w1 ⟨hF1, row, o, nv1, a, rfl, hrow, hRT⟩
  have HE : Hid (rText (k + 1) t l = ((rOpt (rText k (t.sub 0)) l).1.map (vParts t 0), (rOpt (rText k (t.sub 0)) l).2)) := by show _ = _; simp only [rText]; rw [if_neg (by omega), if_neg (by omega), if_neg (by omega), if_neg (by omega), if_neg (by omega), if_neg (by omega), if_pos hk]
  have hs1 : t.subs.length = 1 := HW.out.2.2.2.2.1 (.inr hk)
  have hol : row.of.length = 1 := hrow.len.trans hs1
  have hkk := hrow.kind
  rw [hkk] at hRT ⊢
  have hRT1 := hRT.keep hF1.of0
  obtain ⟨go, co, rfl, hT9⟩ := T9.new hRT1 (by omega)
  obtain ⟨pn, qn, rfl⟩ := hRT.2.2.1.shape
  obtain ⟨pa, qa, rfl⟩ := hRT.2.2.2.shape
  have HIsub := hide (hrow.sub 0 (by omega))
  have HF1 := hide (hF1.trans (Fr.alloc Zero w1 (.cells #[.int .i64 t.kind, .slice (some ⟨go, 0, none⟩) row.of.length co, .slice pn (texts row.names).length qn, .slice pa (ints row.ats).length qa] 293)))
  have HT9 := hide hT9
  have HOL := hide hol
  rw [hol] at HT9
  rw [hol] at HF1
  rw [hol]
  rw [hk] at HT9
  rw [hk] at HF1
  rw [hk]
  simp only [nat8] at HT9 HF1
  have HKK := hide hk
  have HWs := hide (HW.out.sub (i := 0) (by omega))
  clear hF1 hrow hRT hRT1 hkk hT9 hol hk hs1
  have HI1 := hide (HI.out.quiet HF1.out)
  have HFM := hide (MFr.quiet HF1.out hlt)
  obtain ⟨ov2, hb2⟩ := HI1.out.ms.block
  have HB2 := hide hb2
  clear hb2 h0 h4
  go_wp2_with fail
  generalize w1.alloc (.cells #[.int .i64 8, .slice (some ⟨go, 0, none⟩) 1 co, .slice pn (texts row.names).length qn, .slice pa (ints row.ats).length qa] 293) = w2 at *
  refine (mNext_any HB2.out HS9.out).mono ?_
  rintro e w3 ⟨rfl, n3, e3⟩
  obtain rfl := e3.symm
  have HFz : Hid (Fr Zero w2 (w2.drewN n3)) := Fr.drewN _ _ _
  have HI3 := hide (HI1.out.quiet HFz.out)
  have HF3 := hide (HFM.out.trans (MFr.quiet HFz.out HB2.out.lt))
  have HT3 := hide (HT9.out.quiet HFz.out)
  have HB3 := hide (HB2.out.keep HFz.out (fun h => h))
  generalize w2.drewN n3 = w3 at *
  clear HI1 HFM HT9 HB2
  simp only [Bool.false_eq_true, if_false]
  have hh := hd_lt l
  by_cases hc : hd l = 45
  · obtain ⟨b, r, rfl⟩ : ∃ b r, l = b :: r := by
      rcases l with _ | ⟨b, r⟩
      · simp [hd] at hc
      · exact ⟨b, r, rfl⟩
    have hb45 : b.toNat = 45 := hc
    have HU : Hid (rOpt (rText k (t.sub 0)) (b :: r) = (some [], r)) := by show _ = _; simp [rOpt, rAcc, hb45]
    rw [hc]
    have g2 := HB3.out.at2
    have gf2 := HB3.out.free 2
    have hps := HB3.out.posle
    have hsz : s.size ≤ 1048576 := HI.out.hs
    obtain ⟨hp, hp1, htl, _⟩ := HB3.out.next
    have hpe : ((pos s (b :: r) : Nat) : Int) + 1 = ((pos s r : Nat) : Int) := by omega
    have HLR : Hid (r.length ≤ s.size) := by show _ ≤ _; have := HB3.out.len; simp at this; omega
    have HM4 : Hid (MS (w3.setCell ⟨mb, 2, none⟩ (.int .i64 (pos s r))) B mb db s r false out ∧ MFr mb w3 (w3.setCell ⟨mb, 2, none⟩ (.int .i64 (pos s r)))) := by
      obtain ⟨ov3, q1, q2, q3⟩ := HI3.out.ms
      exact MS.seal q1 q2 q3 (q1.move HLR.out htl) (Fr.setCell (One mb) _ _ _ rfl)
    have hBB : B ≤ (w3.setCell ⟨mb, 2, none⟩ (.int .i64 (pos s r))).heap.size := Nat.le_trans HI3.out.hB HM4.out.2.fr.size
    clear htl hp1 hc hb45
    go_wp2_with fail
    refine (mPut_any HM4.out.1 hBB 0 0 rfl (by omega)).mono ?_
    rintro e w5 ⟨hF5, hM5, rfl⟩
    have HF5 := hide ((HF3.out.trans HM4.out.2).trans hF5)
    have HM5 := hide hM5
    clear hF5 hM5
    go_wp2_with fail
    refine bodyPost_ret (v := .tuple #[]) (by simp [results, Tryz.results106, go_sem]) rfl ?_
    refine ⟨HF5, r, false, out ++ [0], HM5, rfl, by rw [HE.out, HU.out], by simp, fun _ => ⟨_, by rw [HE.out, HU.out]; rfl, ?_⟩, fun h => by simp at h⟩
    show _ = out ++ wMsg (k + 1) ⟨t, _, _, _⟩
    rw [wMsg_mk, if_neg (by rw [HKK.out]; omega), if_neg (by rw [HKK.out]; omega), if_neg (by rw [HKK.out]; omega), if_neg (by rw [HKK.out]; omega), if_pos (by rw [HKK.out]; omega)]
    rfl
  · have hq : (((hd l : Nat) : Int) == 45) = false := beq_eq_false_iff_ne.2 (by omega)
    have HU0 : Hid (rAcc 45 l = none) := by show _ = _; rw [rAcc_hd (by omega), if_neg hc]
    generalize hd l = c at *
    clear hc
    go_wp2_with fail
    refine (mMust_any HI3.out.ms HS9.out 43 (by omega) (by omega)).mono ?_
    rintro e w4 ⟨hF4, hM4, rfl⟩
    have HF4 := hide (HF3.out.trans hF4)
    have HT4 := hide (HT3.out.keepM HI3.out.ms hF4)
    have HML := hide (mMust_len 43 l false)
    have HI4 : Hid (∀ hb : (mMust 43 l false).2 = false, MIn w4 B mb db s (mMust 43 l false).1 out tab roots) := fun hb => HI3.out.next hF4 hM4 hb
    have HM4 := hide hM4
    have hB4 : B ≤ w4.heap.size := Nat.le_trans HI3.out.hB hF4.fr.size
    clear hF4 hM4
    go_wp2_with fail
    refine (mPut_any HM4.out hB4 1 1 rfl (by omega)).mono ?_
    rintro e w5 ⟨hF5, hM5, rfl⟩
    have HF5 := hide (HF4.out.trans hF5)
    have HT5 := hide (HT4.out.keepM HM4.out hF5)
    have HI5 : Hid (∀ hb : (mMust 43 l false).2 = false, MIn w5 B mb db s (mMust 43 l false).1 (out ++ [1]) tab roots) := fun hb => (HI4.out hb).next hF5 hM5 hb
    have HM5 := hide hM5
    have c1 := HT5.out.at1n HOL.out
    have c2 := HT5.out.of 0 (by have := HOL.out; omega)
    clear hF5 hM5
    rcases hq4 : rAcc 43 l with _ | l1
    · have hmm : mMust 43 l false = (l, true) := by simp [mMust, hq4]
      rw [hmm] at HM5
      have HU : Hid (rOpt (rText k (t.sub 0)) l = (none, l)) := by show _ = _; simp [rOpt, HU0.out, hq4]
      clear hq4 hmm HI5 HI4 HM4
      go_wp2_with fail
      refine (mValue_bad HM5.out _).mono ?_
      rintro e w6 ⟨rfl, e6⟩
      obtain rfl := e6.symm
      go_wp2_with fail
      go_end0
      exact ⟨HF5, l, true, out ++ [1], HM5, rfl, by rw [HE.out, HU.out], by omega, fun h => by simp at h, fun _ => ⟨.inl (by rw [HE.out, HU.out]; rfl), by simp; omega⟩⟩
    · have hmm : mMust 43 l false = (l1, false) := by simp [mMust, hq4]
      rw [hmm] at HI5 HML
      have HU : Hid (rOpt (rText k (t.sub 0)) l = ((rText k (t.sub 0) l1).1.map (fun v => [v]), (rText k (t.sub 0) l1).2)) := by show _ = _; simp [rOpt, HU0.out, hq4]
      have HLL : Hid (l1.length < l.length) := by show _ < _; obtain ⟨b, rfl, _⟩ := rAcc_some hq4; simp
      have hll := HLL.out
      clear hq4 hmm HI4 HM4
      go_wp2_with fail
      refine (HV.out w5 B mb db s l1 (out ++ [1]) tab roots _ (t.sub 0) (HI5.out (by first | rfl | trivial | simp)) HIsub.out HWs.out (by simp; omega)).mono ?_
      rintro e w6 ⟨hF6, r, bad, out', hM6, rfl, hr6, hrl, hg6, hb6⟩
      have HF6 := hide (HF5.out.trans hF6)
      have HM6 := hide hM6
      have HR6 := hide hr6
      have HG6 := hide hg6
      have HBD6 := hide hb6
      clear hF6 hM6 hr6 hg6 hb6
      go_wp2_with fail
      go_end0
      refine ⟨HF6, r, bad, out', HM6, rfl, by rw [HE.out, HU.out]; exact HR6.out, by omega, fun h => ?_, fun h => ?_⟩
      · obtain ⟨v, q1, q2⟩ := HG6.out h
        refine ⟨_, by rw [HE.out, HU.out]; simp [q1]; rfl, ?_⟩
        show _ = out ++ wMsg (k + 1) ⟨t, _, _, _⟩
        rw [wMsg_mk, if_neg (by rw [HKK.out]; omega), if_neg (by rw [HKK.out]; omega), if_neg (by rw [HKK.out]; omega), if_neg (by rw [HKK.out]; omega), if_pos (by rw [HKK.out]; omega), q2]
        simp [wCount]
      · obtain ⟨q1, q2⟩ := HBD6.out h
        refine ⟨?_, by simp at q2; omega⟩
        rcases q1 with q1 | q1
        · left; rw [HE.out, HU.out]; simp [q1]
        · exact .inr q1

/-- Fields behind what stands ahead of the first. -/
def rFieldB (rd : PT → Bs → Option PV × Bs) (ts : List PT) (acc : List PV) (l1 : Bs) : Option (List PV) × Bs := match ts with
  | [] => (none, l1)
  | t :: ts => match rd t l1 with
    | (none, l2) => (none, l2)
    | (some v, l2) => rFields rd ts 44 (acc ++ [v]) l2
theorem rFields_B {rd : PT → Bs → Option PV × Bs} {ts : List PT} (hne : ts ≠ []) (ahead : Nat) (acc : List PV) (l : Bs) : rFields rd ts ahead acc l = match rAcc ahead l with | none => (none, l) | some l1 => rFieldB rd ts acc l1 := by
  rcases ts with _ | ⟨t, ts⟩
  · exact absurd rfl hne
  · simp only [rFields, rFieldB]
    rcases rAcc ahead l with _ | l1 <;> rfl
/-- After i fields. -/
def RecI (k : Nat) (t : PT) (l out : Bs) (i : Nat) (bad : Bool) (r out' : Bs) : Prop :=
  r.length ≤ l.length ∧
  (bad = false → ∃ vs : List PV, vs.length = i ∧ out' = out ++ vs.flatMap (wMsg k) ∧ out'.length + 8 * r.length ≤ out.length + 8 * l.length ∧
     (i = 0 → rFields (rText k) t.subs 123 [] l = rFieldB (rText k) t.subs [] r) ∧ (0 < i → rFields (rText k) t.subs 123 [] l = rFields (rText k) (t.subs.drop i) 44 vs r)) ∧
  (bad = true → rFields (rText k) t.subs 123 [] l = (none, r) ∧ out'.length ≤ out.length + 8 * l.length + 600 * k)
theorem RecI.start {k : Nat} {t : PT} (hne : t.subs ≠ []) (l out : Bs) : RecI k t l out 0 (mMust 123 l false).2 (mMust 123 l false).1 out := by
  have e := rFields_B (rd := rText k) hne 123 [] l
  rcases hq : rAcc 123 l with _ | l1
  · rw [hq] at e
    exact ⟨by simp [mMust, hq], by simp [mMust, hq], fun _ => ⟨by rw [e]; simp [mMust, hq], by omega⟩⟩
  · rw [hq] at e
    obtain ⟨b, rfl, _⟩ := rAcc_some hq
    exact ⟨by simp [mMust, hq], fun _ => ⟨[], rfl, by simp, by simp [mMust, hq]; omega, fun _ => by rw [e]; simp [mMust, hq], fun h => by omega⟩, by simp [mMust, hq]⟩
theorem drop_sub {t : PT} {i : Nat} (hi : i < t.subs.length) : t.subs.drop i = t.sub i :: t.subs.drop (i + 1) := by
  rw [List.drop_eq_getElem_cons hi]
  simp [PT.sub, hi]
/-- Ahead of field i. -/
def RecM (k : Nat) (t : PT) (l out : Bs) (i : Nat) (bad : Bool) (r out' : Bs) : Prop :=
  r.length ≤ l.length ∧ (bad = true → rFields (rText k) t.subs 123 [] l = (none, r) ∧ out'.length ≤ out.length + 8 * l.length + 600 * k) ∧
    (bad = false → ∃ vs : List PV, vs.length = i ∧ out' = out ++ vs.flatMap (wMsg k) ∧ out'.length + 8 * r.length ≤ out.length + 8 * l.length ∧ rFields (rText k) t.subs 123 [] l = rFieldB (rText k) (t.subs.drop i) vs r)
theorem RecI.first {k : Nat} {t : PT} {l out : Bs} {bad : Bool} {r out' : Bs} (h : RecI k t l out 0 bad r out') : RecM k t l out 0 bad r out' := by
  obtain ⟨h1, h2, h3⟩ := h
  refine ⟨h1, h3, fun hb => ?_⟩
  obtain ⟨vs, a1, a2, a3, a4, _⟩ := h2 hb
  obtain rfl : vs = [] := List.eq_nil_of_length_eq_zero a1
  exact ⟨[], a1, a2, a3, a4 rfl⟩
theorem RecI.comma {k : Nat} {t : PT} {l out : Bs} {i : Nat} {bad : Bool} {r out' : Bs} (h : RecI k t l out i bad r out') (hi : 0 < i) (hi2 : i < t.subs.length) : RecM k t l out i (mMust 44 r bad).2 (mMust 44 r bad).1 out' := by
  obtain ⟨h1, h2, h3⟩ := h
  cases bad with
  | true =>
    obtain ⟨a1, a2⟩ := h3 rfl
    exact ⟨by simpa [mMust] using h1, fun _ => ⟨by simpa [mMust] using a1, a2⟩, fun h => by simp [mMust] at h⟩
  | false =>
    obtain ⟨vs, a1, a2, a3, _, a4⟩ := h2 rfl
    have a4 := a4 hi
    have eB := rFields_B (rd := rText k) (ts := t.subs.drop i) (by rw [drop_sub hi2]; simp) 44 vs r
    rw [eB] at a4
    rcases hq : rAcc 44 r with _ | l1
    · rw [hq] at a4
      exact ⟨by simpa [mMust, hq] using h1, fun _ => ⟨by simpa [mMust, hq] using a4, by omega⟩, fun h => by simp [mMust, hq] at h⟩
    · rw [hq] at a4
      obtain ⟨b, rfl, _⟩ := rAcc_some hq
      simp only [List.length_cons] at h1 a3
      exact ⟨by simp [mMust, hq]; omega, fun h => by simp [mMust, hq] at h, fun _ => ⟨vs, a1, a2, by simp [mMust, hq]; omega, by simpa [mMust, hq] using a4⟩⟩
theorem RecM.bad {k : Nat} {t : PT} {l out : Bs} {i : Nat} {r out' : Bs} (h : RecM k t l out i true r out') : RecI k t l out (i + 1) true r out' := ⟨h.1, fun h => by simp at h, h.2.1⟩
theorem RecM.good {k : Nat} {t : PT} {l out : Bs} {i : Nat} {r out1 : Bs} (h : RecM k t l out i false r out1) (hi : i < t.subs.length) (hW : WFT k (t.sub i))
    {r' out' : Bs} {bad' : Bool} (hr : r' = (rText k (t.sub i) r).2) (hrl : r'.length ≤ r.length)
    (hg : bad' = false → ∃ v, (rText k (t.sub i) r).1 = some v ∧ out' = out1 ++ wMsg k v) (hb : bad' = true → ((rText k (t.sub i) r).1 = none ∨ digStart r') ∧ out'.length ≤ out1.length + (8 * r.length + 600 * k)) :
    RecI k t l out (i + 1) bad' r' out' := by
  obtain ⟨a0, _, h2⟩ := h
  obtain ⟨vs, a1, a2, a3, a4⟩ := h2 rfl
  rw [drop_sub hi] at a4
  simp only [rFieldB] at a4
  rcases hp : rText k (t.sub i) r with ⟨o, r1⟩
  rw [hp] at hr hg hb a4
  simp only at hr
  subst hr
  cases bad' with
  | true =>
    obtain ⟨b1, b2⟩ := hb rfl
    refine ⟨by omega, fun h => by simp at h, fun _ => ⟨?_, by omega⟩⟩
    rw [a4]
    rcases o with _ | v
    · rfl
    · rcases b1 with b1 | b1
      · simp at b1
      · simp only
        rcases t.subs.drop (i + 1) with _ | ⟨u, us⟩
        · simp only [rFields, b1.acc (c := 125) (by omega)]
        · simp only [rFields, b1.acc (c := 44) (by omega)]
  | false =>
    obtain ⟨v, c1, c2⟩ := hg rfl
    simp only at c1
    subst c1
    have hroom := msg_room hW hp
    refine ⟨by omega, fun _ => ⟨vs ++ [v], by simp [a1], by rw [c2, a2]; simp, by rw [c2, List.length_append]; omega, fun h => by omega, fun _ => by rw [a4]⟩, fun h => by simp at h⟩
theorem RecI.fin {k : Nat} {t : PT} {l out : Bs} {i : Nat} {bad : Bool} {r out' : Bs} (h : RecI k t l out i bad r out') (hi : 0 < i) (hi2 : i = t.subs.length) :
    (mMust 125 r bad).1.length ≤ l.length ∧ (mMust 125 r bad).1 = (rFields (rText k) t.subs 123 [] l).2 ∧ ((mMust 125 r bad).2 = false → ∃ vs, (rFields (rText k) t.subs 123 [] l).1 = some vs ∧ out' = out ++ vs.flatMap (wMsg k)) ∧ ((mMust 125 r bad).2 = true → (rFields (rText k) t.subs 123 [] l).1 = none) ∧ out'.length ≤ out.length + 8 * l.length + 600 * k := by
  obtain ⟨h1, h2, h3⟩ := h
  cases bad with
  | true =>
    obtain ⟨a1, a2⟩ := h3 rfl
    exact ⟨by simpa [mMust] using h1, by simp [mMust, a1], by simp [mMust], by simp [a1], a2⟩
  | false =>
    obtain ⟨vs, a1, a2, a3, _, a4⟩ := h2 rfl
    have a4 := a4 hi
    rw [hi2, List.drop_length] at a4
    simp only [rFields] at a4
    rcases hq : rAcc 125 r with _ | l1
    · rw [hq] at a4
      exact ⟨by simpa [mMust, hq] using h1, by simp [mMust, hq, a4], by simp [mMust, hq], by simp [a4], by omega⟩
    · rw [hq] at a4
      obtain ⟨b, rfl, _⟩ := rAcc_some hq
      simp only [List.length_cons] at h1 a3
      exact ⟨by simp [mMust, hq]; omega, by simp [mMust, hq, a4], fun _ => ⟨vs, by simp [a4], a2⟩, by simp [mMust, hq], by omega⟩

set_option maxHeartbeats 8000000 in
set_option maxRecDepth 100000 in
theorem mv_record {w : World} {B mb db : Nat} {s : ByteArray} {l out : Bs} {tab : List RT} {roots : List Nat} {k x : Nat} {t : PT} (hV : MSaid k) (h : MIn w B mb db s l out tab roots) (hI : Is tab x t) (hk : t.kind = 9) (hW : WFT (k + 1) t) (hr : out.length + 8 * l.length + 600 * (k + 1) ≤ 800000000) :
    Calls Tryz.prog 106 #[.pointer (some ⟨mb, 0, none⟩), .int .i64 x] w fun e w' => EPost mb B db s out (8 * l.length + 600 * (k + 1)) w l (rText (k + 1) t l) (wMsg (k + 1)) e w' := by
  have HW := hide hW
  have HV := hide hV
  clear hW hV
  obtain ⟨ov, hb⟩ := h.ms.block
  have h0 := hb.at0
  have h4 := hb.at4
  have HI := hide h
  have HIs := hide hI
  have hlt := hb.lt
  have hs9 : s.size ≤ maxLen := by unfold maxLen; have := h.hs; omega
  have HS9 := hide hs9
  clear h hI hb hs9
  go_enter Tryz.func106, Tryz.ntmps106
  go_wp2_with fail
  refine (at_tab HI.out.df x t HIs.out HI.out.hB HI.out.tl).mono ?_
  rintro e w1 ⟨hF1, row, o, nv1, a, rfl, hrow, hRT⟩
  have HE : Hid (rText (k + 1) t l = ((rFields (rText k) t.subs 123 [] l).1.map (vParts t 0), (rFields (rText k) t.subs 123 [] l).2)) := by show _ = _; simp only [rText]; rw [if_neg (by omega), if_neg (by omega), if_neg (by omega), if_neg (by omega), if_neg (by omega), if_neg (by omega), if_neg (by omega), if_pos hk]
  have hs0 : 0 < t.subs.length := HW.out.2.2.2.1 (by omega)
  have hs6 : t.subs.length ≤ 6 := HW.out.2.2.2.2.2.1.1
  have hol : row.of.length = t.subs.length := hrow.len
  have hkk := hrow.kind
  rw [hkk] at hRT ⊢
  have hRT1 := hRT.keep hF1.of0
  obtain ⟨go, co, rfl, hT9⟩ := T9.new hRT1 (by omega)
  obtain ⟨pn, qn, rfl⟩ := hRT.2.2.1.shape
  obtain ⟨pa, qa, rfl⟩ := hRT.2.2.2.shape
  have HIsub : Hid (∀ i, i < t.subs.length → Is tab (numAt row.of i) (t.sub i)) := fun i hi => hrow.sub i hi
  have HF1 := hide (hF1.trans (Fr.alloc Zero w1 (.cells #[.int .i64 t.kind, .slice (some ⟨go, 0, none⟩) row.of.length co, .slice pn (texts row.names).length qn, .slice pa (ints row.ats).length qa] 293)))
  have HT9 := hide hT9
  have HOL := hide hol
  rw [hk] at HT9
  rw [hk] at HF1
  rw [hk]
  simp only [nat9] at HT9 HF1
  have HKK := hide hk
  have HNE : Hid (t.subs ≠ []) := fun e => by rw [e] at hs0; simp at hs0
  have HWs : Hid (∀ i, i < t.subs.length → WFT k (t.sub i)) := fun i hi => HW.out.sub (i := i) hi
  have HI1 := hide (HI.out.quiet HF1.out)
  have HFM := hide (MFr.quiet HF1.out hlt)
  rw [hol] at HT9 HI1 HFM
  rw [hol]
  clear hF1 hrow hRT hRT1 hkk hT9 hol hk h0 h4 HF1
  go_wp2_with fail
  generalize w1.alloc (.cells #[.int .i64 9, .slice (some ⟨go, 0, none⟩) t.subs.length co, .slice pn (texts row.names).length qn, .slice pa (ints row.ats).length qa] 293) = w2 at *
  refine (mMust_any HI1.out.ms HS9.out 123 (by omega) (by omega)).mono ?_
  rintro e w3 ⟨hF3, hM3, rfl⟩
  have HR3 := hide (RecI.start (k := k) HNE.out l out)
  have HF3 := hide (HFM.out.trans hF3)
  have HT3 := hide (HT9.out.keepM HI1.out.ms hF3)
  have HD3 : Hid (DF w3 B db tab roots) := HI1.out.df.keep (HI1.out.ms.fromB hF3)
  have HM3 := hide hM3
  clear hF3 hM3
  go_wp2_with fail
  go_loopw [9] (fun iv wr => ∃ (i : Nat) (bad : Bool) (r out' : Bs), i ≤ t.subs.length ∧ iv = .int .i64 i ∧ Hid (RecI k t l out i bad r out') ∧ Hid (MS wr B mb db s r bad out') ∧ Hid (MFr mb w wr) ∧ Hid (T9 wr B w1.heap.size row 9 go co (.slice pn (texts row.names).length qn) (.slice pa (ints row.ats).length qa)) ∧ Hid (DF wr B db tab roots)) (fun iv _ => t.subs.length - (intOf iv).toNat)
  case atStart => exact ⟨0, _, _, out, by omega, rfl, HR3, HM3, HF3, HT3, HD3⟩
  case round =>
    obtain ⟨i, bad, r, out1, hin, rfl, HRr, HMr, HFr, HTr, HDr⟩ := hrel
    have c1 := HTr.out.at1n HOL.out
    have hB4 : B ≤ wr.heap.size := Nat.le_trans HI.out.hB HFr.out.fr.size
    by_cases hlt' : i < t.subs.length
    · have hI : (i : Int) < (t.subs.length : Int) := by omega
      have c2 := HTr.out.of i (by rw [HOL.out]; exact hlt')
      have HIi := hide (HIsub.out i hlt')
      have HWi := hide (HWs.out i hlt')
      rcases Nat.eq_zero_or_pos i with hi0 | hi0
      case' inl =>
        subst hi0
        have HRM := hide HRr.out.first
        have HM4 := HMr
        have HF4 := HFr
        have HT4 := HTr
        have HD4 := HDr
        generalize wr = w4 at *
        generalize r = r4 at *
        generalize bad = bad4 at *
        go_wp2_with fail
      case' inr =>
        have hg0 : (0 : Int) < (i : Int) := by omega
        have HRM := hide (HRr.out.comma hi0 hlt')
        clear hi0
        go_wp2_with fail
        refine (mMust_any HMr.out HS9.out 44 (by omega) (by omega)).mono ?_
        rintro e w4 ⟨hF4, hM4, rfl⟩
        have HF4 := hide (HFr.out.trans hF4)
        have HT4 := hide (HTr.out.keepM HMr.out hF4)
        have HD4 : Hid (DF w4 B db tab roots) := HDr.out.keep (HMr.out.fromB hF4)
        have HM4 := hide hM4
        generalize (mMust 44 r bad).1 = r4 at *
        generalize (mMust 44 r bad).2 = bad4 at *
        clear hF4 hM4 c1 c2
        have c1 := HT4.out.at1n HOL.out
        have c2 := HT4.out.of i (by rw [HOL.out]; exact hlt')
        go_wp2_with fail
      all_goals
        cases bad4 with
        | true =>
          refine (mValue_bad HM4.out _).mono ?_
          rintro e w6 ⟨rfl, e6⟩
          obtain rfl := e6.symm
          go_wp2_with fail
          go_roundw
          case rel => exact ⟨_, true, r4, out1, by omega, by go_num, HRM.out.bad, HM4, HF4, HT4, HD4⟩
          case measure => simp [intOf]; omega
        | false =>
          have hb4 : B ≤ w4.heap.size := Nat.le_trans HI.out.hB HF4.out.fr.size
          have HO4 : Hid (out1.length + 8 * r4.length ≤ out.length + 8 * l.length) := by
            obtain ⟨vs, _, _, q, _⟩ := HRM.out.2.2 rfl
            exact q
          have ho4 := HO4.out
          refine (HV.out w4 B mb db s r4 out1 tab roots _ _ ⟨HM4.out, HD4.out, HI.out.hs, HI.out.tl, hb4⟩ HIi.out HWi.out (by omega)).mono ?_
          rintro e w6 ⟨hF6, r6, bad6, out6, hM6, rfl, hr6, hrl6, hg6, hb6⟩
          have HR6 := hide (HRM.out.good hlt' HWi.out hr6 hrl6 hg6 hb6)
          have HF6 := hide (HF4.out.trans hF6)
          have HT6 := hide (HT4.out.keepM HM4.out hF6)
          have HD6 : Hid (DF w6 B db tab roots) := HD4.out.keep (HM4.out.fromB hF6)
          have HM6 := hide hM6
          clear hF6 hM6 hr6 hrl6 hg6 hb6
          go_wp2_with fail
          go_roundw
          case rel => exact ⟨_, bad6, r6, out6, by omega, by go_num, HR6, HM6, HF6, HT6, HD6⟩
          case measure => simp [intOf]; omega
    · have hin' : i = t.subs.length := by omega
      have hI : ¬ (i : Int) < (t.subs.length : Int) := by omega
      have HFN := hide (HRr.out.fin (by omega) hin')
      clear hin' hlt'
      go_wp2_with fail
      refine (mMust_any HMr.out HS9.out 125 (by omega) (by omega)).mono ?_
      rintro e w5 ⟨hF5, hM5, rfl⟩
      have HF5 := hide (HFr.out.trans hF5)
      have HM5 := hide hM5
      clear hF5 hM5
      go_wp2_with fail
      go_end0
      obtain ⟨q1, q2, q3, q4, q5⟩ := HFN.out
      refine ⟨HF5, _, _, out1, HM5, rfl, by rw [HE.out]; exact q2, q1, fun h => ?_, fun h => ⟨.inl (by rw [HE.out]; simp [q4 h]), by omega⟩⟩
      obtain ⟨vs, e1, e2⟩ := q3 h
      refine ⟨_, by rw [HE.out]; simp [e1]; rfl, ?_⟩
      show _ = out ++ wMsg (k + 1) ⟨t, _, _, _⟩
      rw [wMsg_mk, if_neg (by rw [HKK.out]; omega), if_neg (by rw [HKK.out]; omega), if_neg (by rw [HKK.out]; omega), if_neg (by rw [HKK.out]; omega), if_neg (by rw [HKK.out]; omega), if_pos (by rw [HKK.out]), e2]

set_option maxHeartbeats 8000000 in
set_option maxRecDepth 100000 in
theorem mv_choice {w : World} {B mb db : Nat} {s : ByteArray} {l out : Bs} {tab : List RT} {roots : List Nat} {k x : Nat} {t : PT} (hV : MSaid k) (h : MIn w B mb db s l out tab roots) (hI : Is tab x t) (hk : t.kind = 10) (hW : WFT (k + 1) t) (hr : out.length + 8 * l.length + 600 * (k + 1) ≤ 800000000) :
    Calls Tryz.prog 106 #[.pointer (some ⟨mb, 0, none⟩), .int .i64 x] w fun e w' => EPost mb B db s out (8 * l.length + 600 * (k + 1)) w l (rText (k + 1) t l) (wMsg (k + 1)) e w' := by
  have HW := hide hW
  have HV := hide hV
  clear hW hV
  obtain ⟨ov, hb⟩ := h.ms.block
  have h0 := hb.at0
  have h4 := hb.at4
  have HI := hide h
  have HIs := hide hI
  have hlt := hb.lt
  have hs9 : s.size ≤ maxLen := by unfold maxLen; have := h.hs; omega
  have HS9 := hide hs9
  clear h hI hb hs9
  go_enter Tryz.func106, Tryz.ntmps106
  go_wp2_with fail
  refine (at_tab HI.out.df x t HIs.out HI.out.hB HI.out.tl).mono ?_
  rintro e w1 ⟨hF1, row, o, nv1, a, rfl, hrow, hRT⟩
  have HE : Hid (rText (k + 1) t l = ((rCase (rText k) t l).1.map (fun p => vParts t p.1 [p.2]), (rCase (rText k) t l).2)) := by show _ = _; simp only [rText]; rw [if_neg (by omega), if_neg (by omega), if_neg (by omega), if_neg (by omega), if_neg (by omega), if_neg (by omega), if_neg (by omega), if_neg (by omega)]
  have hs0 : 0 < t.subs.length := HW.out.2.2.2.1 (by omega)
  have hs6 : t.subs.length ≤ 6 := HW.out.2.2.2.2.2.1.1
  have hol : row.of.length = t.subs.length := hrow.len
  have hkk := hrow.kind
  rw [hkk] at hRT ⊢
  have hRT1 := hRT.keep hF1.of0
  obtain ⟨go, co, rfl, hT9⟩ := T9.new hRT1 (by omega)
  have hnl : row.names.length = t.subs.length := (hrow.nml (by omega)).trans hol
  have htn : row.names = t.names := by
    have := hrow.nms
    unfold namesR at this
    rw [if_neg (by intro h; rw [List.isEmpty_iff] at h; rw [h] at hnl; simp at hnl; omega)] at this
    exact this
  obtain ⟨gn, cn, rfl, hN9⟩ := N9.new hRT1 htn (by rw [htn] at hnl; omega)
  obtain ⟨pa, qa, rfl⟩ := hRT.2.2.2.shape
  have HROW := hide hrow
  have HF1 := hide (hF1.trans (Fr.alloc Zero w1 (.cells #[.int .i64 t.kind, .slice (some ⟨go, 0, none⟩) row.of.length co, .slice (some ⟨gn, 0, none⟩) t.names.length cn, .slice pa (ints row.ats).length qa] 293)))
  have HT9 := hide hT9
  have HN9 := hide (hN9.quiet (Fr.alloc Zero w1 (.cells #[.int .i64 t.kind, .slice (some ⟨go, 0, none⟩) row.of.length co, .slice (some ⟨gn, 0, none⟩) t.names.length cn, .slice pa (ints row.ats).length qa] 293)))
  rw [hk] at HT9 HF1 HN9
  rw [hk]
  simp only [nat10] at HT9 HF1 HN9
  have HKK := hide hk
  clear hF1 hrow hRT hRT1 hkk hT9 hN9 hol hk hs0 hs6 hnl htn
  go_wp2_with fail
  refine (mChoice_any HV.out (HI.out.quiet HF1.out) HKK.out HW.out HROW.out HT9.out.of HT9.out.lt HN9.out (by omega)).mono ?_
  intro e w2 hE
  have he := hE.end_
  subst he
  have HP := hide (EPost.pre (MFr.quiet HF1.out hlt) hE)
  clear hE
  go_wp2_with fail
  go_end0
  refine HP.out.map (by rw [HE.out]) (fun a ha => ⟨_, by rw [HE.out]; simp [ha]; rfl, ?_⟩) (fun hn => by rw [HE.out]; simp [hn]) (by omega)
  show wMsg (k + 1) ⟨t, _, _, _⟩ = _
  rw [wMsg_mk, if_neg (by rw [HKK.out]; omega), if_neg (by rw [HKK.out]; omega), if_neg (by rw [HKK.out]; omega), if_neg (by rw [HKK.out]; omega), if_neg (by rw [HKK.out]; omega), if_neg (by rw [HKK.out]; omega)]
  simp


end Go.Proofs.YtnhkalnihjkoeaaGreatDoor
