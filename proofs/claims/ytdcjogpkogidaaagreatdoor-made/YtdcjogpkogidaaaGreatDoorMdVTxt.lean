/- How several values are written as text. -/
import Derived.Test.YtdcjogpkogidaaaGreatDoorMdCheck
import Derived.Test.YtdcjogpkogidaaaGreatDoorMdVWVal
namespace Go.Proofs.YtdcjogpkogidaaaGreatDoor
open Go.RowKit

/-- What a writer of text is handed: a row of bytes, all of which is from B on, and the library's table below. -/
structure TIn (w : World) (B : Nat) (sv : Value) (acc : Bs) : Prop where
  out : BO w B sv acc
  le : B ≤ w.heap.size
  pow : PowT w
  gb : 5 < B
theorem TIn.alloc {w : World} {B : Nat} {sv : Value} {acc : Bs} (h : TIn w B sv acc) (o : Obj) : TIn (w.alloc o) B sv acc :=
  ⟨h.out.alloc o, by have := h.le; simp; omega, h.pow.keep (Fr.alloc Zero _ _) (fun h => h), h.gb⟩
theorem TIn.drew {w : World} {B : Nat} {sv : Value} {acc : Bs} (h : TIn w B sv acc) : TIn w.drew B sv acc :=
  ⟨h.out.keep (Fr.dr Zero _) (fun _ _ h => h), h.le, h.pow.keep (Fr.dr Zero _) (fun h => h), h.gb⟩
theorem TIn.next {w w' : World} {B : Nat} {sv sv' : Value} {acc acc' : Bs} (h : TIn w B sv acc) (hF : Fr (From B) w w') (hO : BO w' B sv' acc') : TIn w' B sv' acc' :=
  ⟨hO, Nat.le_trans h.le hF.size, h.pow.keep hF (fun e => by have := h.gb; unfold From at e; omega), h.gb⟩

/-- Writing of values as text. -/
def TSaid (k : Nat) : Prop :=
  ∀ (w : World) (B : Nat) (sv : Value) (acc : Bs) (c : VC) (v : PV) (t : PT), TIn w B sv acc → VR w (From B) c v → WFT k t → Valid k t v → acc.length + (wText k v).length + 1000 ≤ 140737488355328 → (∃ o n j, c.sv = .slice o n j) →
    Calls Tryz.prog 90 #[c.val, sv] w fun e w' => OutPost w B (acc ++ wText k v) e w'

def comma {α : Type} : List α → Bs
  | [] => []
  | _ :: _ => [44]
theorem wBetween_snoc (f : PV → Bs) (l : List PV) (v : PV) : wBetween f (l ++ [v]) = wBetween f l ++ comma l ++ f v := by
  induction l with
  | nil => simp [wBetween, comma]
  | cons x l ih =>
    cases l with
    | nil => simp [wBetween, comma]
    | cons y l =>
      have e : wBetween f (x :: y :: l) = f x ++ 44 :: wBetween f (y :: l) := rfl
      have e' : wBetween f (x :: y :: l ++ [v]) = f x ++ 44 :: wBetween f (y :: l ++ [v]) := rfl
      rw [e, e', ih]
      simp [comma]
theorem wBetween_append (f : PV → Bs) (l m : List PV) : (wBetween f l).length ≤ (wBetween f (l ++ m)).length := by
  induction l with
  | nil => simp [wBetween]
  | cons x l ih =>
    cases l with
    | nil => simp [wBetween]
    | cons y l =>
      have e : wBetween f (x :: y :: l) = f x ++ 44 :: wBetween f (y :: l) := rfl
      have e' : wBetween f (x :: y :: l ++ m) = f x ++ 44 :: wBetween f (y :: l ++ m) := rfl
      rw [e, e']
      simp only [List.length_append, List.length_cons] at ih ⊢
      omega

set_option maxHeartbeats 8000000 in
set_option maxRecDepth 100000 in
theorem appendBetween_any {k : Nat} (hT : TSaid k) (w : World) (B : Nat) (sv pv : Value) (acc : Bs) (b e : UInt8) (rows : List VC) (vs : List PV) (h : TIn w B sv acc) (hO : w.ownsRow 0 96 4 pv rows.length (vCells rows)) (hx : ∀ g, pv.ownBlock = some g → ¬ From B g) (hL : VL w (From B) rows vs) (hV : ∀ v ∈ vs, ∃ t, WFT k t ∧ Valid k t v) (h300 : vs.length ≤ 300) (hl : acc.length + (wBetween (wText k) vs).length + 1002 ≤ 140737488355328) :
    Calls Tryz.prog 145 #[sv, .int .u8 b.toNat, pv, .int .u8 e.toNat] w fun en w' => OutPost w B (acc ++ b :: (wBetween (wText k) vs ++ [e])) en w' := by
  have hrl : rows.length = vs.length := hL.1
  have hr300 : rows.length ≤ 300 := by omega
  have HLL := hide hL
  have HI := hide h
  have HT := hide hT
  have HO := hide hO
  have HXX := hide hx
  have HL := hide hl
  have HV := hide hV
  have hle := h.le
  obtain ⟨ea, ecap, hsv⟩ := own_slice hO
  have HRL := hide hrl
  clear hL h hT hO hx hl hrl hV
  subst hsv
  go_enter Tryz.func145, Tryz.ntmps145
  go_wp2_with (at_builtin; refine wpList_out rfl (.tmp 11) (.tmp 13) 24 rfl [b] rfl rfl (HI.out.out.alloc _) (src_one rfl) ?hb1 ?hl1 ?_)
  case hb1 => simp; omega
  case hl1 => have := HL.out; simp; omega
  intro v1 w1 hB1 hF1 _
  have HF1 := hide ((Fr.alloc (From B) w _).trans hF1)
  have HI1 := hide (HI.out.next HF1.out hB1)
  clear hB1 hF1
  go_wp2_with fail
  go_loopw [0, 17] (fun ov i wr => ∃ j : Nat, j ≤ rows.length ∧ i = .int .i64 j ∧ Hid (TIn wr B ov (acc ++ [b] ++ wBetween (wText k) (vs.take j))) ∧ Hid (Fr (From B) w wr)) (fun _ i _ => rows.length - (intOf i).toNat)
  case atStart => exact ⟨0, by omega, rfl, by simpa [wBetween] using HI1, HF1⟩
  case round =>
    obtain ⟨j, hj, rfl, HIj, HFj⟩ := hrel
    have hlej := HIj.out.le
    by_cases hlt : j < rows.length
    · obtain ⟨g, cap, hv⟩ := own_some HO.out (by omega)
      simp at hv
      obtain ⟨rfl, rfl⟩ := hv
      obtain ⟨⟨ca, cn, cb, csv⟩, hc⟩ : ∃ c, rows[j]? = some c := ⟨rows[j], by simp⟩
      obtain ⟨v, hv⟩ : ∃ v, vs[j]? = some v := ⟨vs[j]'(by have := HRL.out; omega), by simp⟩
      have hgl : g < w.heap.size := (HO.out.lt g rfl).2
      have hgn : ¬ From B g := HXX.out g rfl
      obtain ⟨c0, c1, c2, c3⟩ := vCell HO.out rfl hc
      have d0 := (HFj.out.cell (a := ⟨g, j * 4, none⟩) hgl hgn).trans c0
      have d1 := (HFj.out.cell (a := ⟨g, j * 4 + 1, none⟩) hgl hgn).trans c1
      have d2 := (HFj.out.cell (a := ⟨g, j * 4 + 2, none⟩) hgl hgn).trans c2
      have d3 := (HFj.out.cell (a := ⟨g, j * 4 + 3, none⟩) hgl hgn).trans c3
      have hvr := HLL.out.2 j _ v hc hv
      obtain ⟨o, n, m, hs⟩ := hvr.sliced
      simp only at hs
      subst hs
      have HVR := hide (hvr.keep HFj)
      obtain ⟨t, hWF, hVal⟩ := HV.out v (List.mem_of_getElem? hv)
      have HWF := hide hWF
      have HVal := hide hVal
      have HTK : Hid (wBetween (wText k) (vs.take (j + 1)) = wBetween (wText k) (vs.take j) ++ comma (vs.take j) ++ wText k v) := by
        show _ = _
        obtain ⟨hq, he⟩ := List.getElem?_eq_some_iff.1 hv
        rw [List.take_succ_eq_append_getElem hq, he, wBetween_snoc]
      have hLen : (acc ++ [b] ++ wBetween (wText k) (vs.take j) ++ comma (vs.take j)).length + (wText k v).length + 1000 ≤ 140737488355328 := by
        have h1 := HL.out
        have h2 := wBetween_append (wText k) (vs.take (j + 1)) (vs.drop (j + 1))
        rw [List.take_append_drop, HTK.out] at h2
        simp only [List.length_append, List.length_cons, List.length_nil] at h1 h2 ⊢
        omega
      have HLen := hide hLen
      have hI : (j : Int) < (rows.length : Int) := by omega
      clear c0 c1 c2 c3 hvr hVal hv hgn hWF
      rcases Nat.eq_zero_or_pos j with h0 | h0
      · have HC : Hid (comma (vs.take j) = []) := by show _ = _; rw [h0]; rfl
        have hI0 : ¬ (0 : Int) < (j : Int) := by omega
        have HIa : Hid (TIn (wr.alloc (.cells #[.pointer (some ca), .int .i64 cn, .string (ba cb), .slice o n m] 96)) B u0 (acc ++ [b] ++ wBetween (wText k) (vs.take j) ++ comma (vs.take j))) := by
          show TIn _ _ _ _
          rw [HC.out, List.append_nil]
          exact HIj.out.alloc _
        clear hc h0
        go_wp2_with fail
        refine Calls.mono (R := fun en w' => OutPost wr B (acc ++ [b] ++ wBetween (wText k) (vs.take (j + 1))) en w') ?_ ?_
        · refine (HT.out _ B _ (acc ++ [b] ++ wBetween (wText k) (vs.take j) ++ comma (vs.take j)) ⟨ca, cn, cb, .slice o n m⟩ v t HIa (HVR.out.keep (Fr.alloc _ _ _)) HWF HVal HLen ⟨_, _, _, rfl⟩).mono ?_
          rintro en w2 ⟨hF2, ov2, rfl, hB2⟩
          refine ⟨(Fr.alloc _ _ _).trans hF2, ov2, rfl, ?_⟩
          rw [HTK.out]
          simpa using hB2
        rintro en w2 ⟨hF2, ov2, rfl, hB2⟩
        have HF2 := hide (HFj.out.trans hF2)
        have HI2 := hide (HIj.out.next hF2 hB2)
        clear hF2 hB2
        go_wp2_with fail
        exact ⟨⟨j + 1, by omega, by go_num, HI2, HF2⟩, by simp [intOf]; omega⟩
      · have HC : Hid (comma (vs.take j) = [44]) := by
          show _ = _
          have : (vs.take j).length = j := by rw [List.length_take]; have := HRL.out; omega
          cases hq : vs.take j with
          | nil => rw [hq] at this; simp at this; omega
          | cons => rfl
        have hI0 : (0 : Int) < (j : Int) := by omega
        clear hc h0
        go_wp2_with (at_builtin; refine wpList_out rfl (.tmp 24) (.tmp 25) 24 rfl [44] rfl rfl ((HIj.out.out.alloc _).alloc _) (by exact src_at (b := 44) (t := 5) (heap_new_at (by simp) _)) ?hb4 ?hl4 ?_)
        case hb4 => first | omega | (simp; omega)
        case hl4 => have := HLen.out; rw [HC.out] at this; simp at this ⊢; omega
        intro v4 w4 hB4 hF4 hG4
        have hne : ¬ Owned u0 wr.heap.size := fun e => by have := (HIj.out.out.own.lt _ e).2; omega
        have p0 : w4.cell? ⟨wr.heap.size, 0, none⟩ = some (.pointer (some ca)) := by rw [hG4.cell (a := ⟨wr.heap.size, 0, none⟩) (by simp; omega) hne]; simp
        have p1 : w4.cell? ⟨wr.heap.size, 1, none⟩ = some (.int .i64 cn) := by rw [hG4.cell (a := ⟨wr.heap.size, 1, none⟩) (by simp; omega) hne]; simp
        have p2 : w4.cell? ⟨wr.heap.size, 2, none⟩ = some (.string (ba cb)) := by rw [hG4.cell (a := ⟨wr.heap.size, 2, none⟩) (by simp; omega) hne]; simp
        have p3 : w4.cell? ⟨wr.heap.size, 3, none⟩ = some (.slice o n m) := by rw [hG4.cell (a := ⟨wr.heap.size, 3, none⟩) (by simp; omega) hne]; simp
        have HF4 := hide (((Fr.alloc (From B) wr _).trans (Fr.alloc _ _ _)).trans hF4)
        have HI4 : Hid (TIn w4 B v4 (acc ++ [b] ++ wBetween (wText k) (vs.take j) ++ comma (vs.take j))) := by
          show TIn _ _ _ _
          rw [HC.out]
          exact HIj.out.next HF4.out (by simpa using hB4)
        clear hB4 hF4 hG4 hne
        go_wp2_with fail
        refine Calls.mono (R := fun en w' => OutPost wr B (acc ++ [b] ++ wBetween (wText k) (vs.take (j + 1))) en w') ?_ ?_
        · refine (HT.out _ B _ (acc ++ [b] ++ wBetween (wText k) (vs.take j) ++ comma (vs.take j)) ⟨ca, cn, cb, .slice o n m⟩ v t HI4 (HVR.out.keep HF4) HWF HVal HLen ⟨_, _, _, rfl⟩).mono ?_
          rintro en w2 ⟨hF2, ov2, rfl, hB2⟩
          refine ⟨HF4.out.trans hF2, ov2, rfl, ?_⟩
          rw [HTK.out]
          simpa using hB2
        rintro en w2 ⟨hF2, ov2, rfl, hB2⟩
        have HF2 := hide (HFj.out.trans hF2)
        have HI2 := hide (HIj.out.next hF2 hB2)
        clear hF2 hB2
        go_wp2_with fail
        exact ⟨⟨j + 1, by omega, by go_num, HI2, HF2⟩, by simp [intOf]; omega⟩
    · have hjl : j = rows.length := by omega
      subst hjl
      have hI : ¬ (rows.length : Int) < (rows.length : Int) := by omega
      have HIe : Hid (TIn wr B u0 (acc ++ [b] ++ wBetween (wText k) vs)) := by
        have h' := HIj.out
        rw [List.take_of_length_le (by have := HRL.out; omega)] at h'
        exact h'
      go_wp2_with (at_builtin; refine wpList_out rfl (.tmp 31) (.tmp 33) 24 rfl [e] rfl rfl (HIe.out.out.alloc _) (src_one rfl) ?hb5 ?hl5 ?_)
      case hb5 => first | omega | (simp; omega)
      case hl5 => have := HL.out; first | omega | (simp; omega)
      intro v5 w5 hB5 hF5 _
      have HB5 := hide hB5
      have HF5 := hide ((HFj.out.trans (Fr.alloc (From B) _ _)).trans hF5)
      clear hB5 hF5
      go_wp2_with fail
      go_ret
      exact ⟨HF5, v5, rfl, by simpa using HB5.out⟩

end Go.Proofs.YtdcjogpkogidaaaGreatDoor

namespace Go.Proofs.YtdcjogpkogidaaaGreatDoor
open Go.RowKit

set_option maxHeartbeats 8000000 in
set_option maxRecDepth 100000 in
theorem atext_0 {k : Nat} {t : PT} (w : World) (B : Nat) (sv : Value) (acc : Bs) (c : VC) (v : PV) (h : TIn w B sv acc) (hV : VR w (From B) c v) (_hW : WFT (k + 1) t) (hVal : Valid (k + 1) t v) (hk : t.kind = 0) (hl : acc.length + (wText (k + 1) v).length + 1000 ≤ 140737488355328) (hc : ∃ o n j, c.sv = .slice o n j) :
    Calls Tryz.prog 90 #[c.val, sv] w fun e w' => OutPost w B (acc ++ wText (k + 1) v) e w' := by
  have hle := h.le
  have HI := hide h
  obtain ⟨ca, cn, cb, csv⟩ := c
  obtain ⟨o, n, j, hc⟩ := hc
  simp only at hc
  subst hc
  obtain ⟨htr, hn, hb, rows, hO, hx, hL⟩ := hV.open
  simp only at htr hn hb hO hx
  subst hn hb
  obtain ⟨tb, tsv, trows, rfl, htb, htx, hTO, hTx, hTn, hTl, hTs⟩ := htr.open
  obtain ⟨hof, hV'⟩ := hVal
  have htl := lt_of_heap htb
  have k0 : w.cell? ⟨tb, 0, none⟩ = some (.int .i64 0) := by rw [cell_of_heap htb, hof, hk]; rfl
  simp only [hk] at hV'
  obtain ⟨hb0, hp0, hn0, hn1⟩ := hV'
  have hm : mostOf 0 ≤ 4294967295 := by decide
  have q0 : -9223372036854775808 ≤ v.num := by omega
  have q1 : v.num ≤ 9223372036854775807 := by omega
  have HE : Hid (wText (k + 1) v = decI v.num) := by
    show _ = _
    simp only [wText, hof, hk]
    rfl
  have HLI := hide hl
  clear h hV _hW htr htb htx hof hl hk hTO hTx hTn hTl hTs hO hx hL hb0 hp0 hn0 hn1 hm
  simp only [VC.val]
  have HI0 : Hid (TIn (w.alloc (.cells #[.pointer (some ⟨tb, 0, none⟩), .int .i64 v.num, .string (ba v.bytes), .slice o n j] 96)) B sv acc) := HI.out.alloc _
  have HA : Hid (Fr (From B) w (w.alloc (.cells #[.pointer (some ⟨tb, 0, none⟩), .int .i64 v.num, .string (ba v.bytes), .slice o n j] 96))) := Fr.alloc _ _ _
  go_enter Tryz.func90, Tryz.ntmps90
  go_wp2_with fail
  refine (appendInt_any _ B sv acc v.num q0 q1 HI0.out.out HI0.out.le HI0.out.pow HI0.out.gb (by have := HLI.out; omega)).mono ?_
  rintro e w2 ⟨hF2, sv2, rfl, hB2⟩
  have HF2 := hide (HA.out.trans hF2)
  have HB2 := hide hB2
  clear hF2 hB2
  go_wp2_with fail
  go_ret
  rw [HE.out]
  exact ⟨HF2, sv2, rfl, HB2⟩

set_option maxHeartbeats 8000000 in
set_option maxRecDepth 100000 in
theorem atext_1 {k : Nat} {t : PT} (w : World) (B : Nat) (sv : Value) (acc : Bs) (c : VC) (v : PV) (h : TIn w B sv acc) (hV : VR w (From B) c v) (_hW : WFT (k + 1) t) (hVal : Valid (k + 1) t v) (hk : t.kind = 1) (hl : acc.length + (wText (k + 1) v).length + 1000 ≤ 140737488355328) (hc : ∃ o n j, c.sv = .slice o n j) :
    Calls Tryz.prog 90 #[c.val, sv] w fun e w' => OutPost w B (acc ++ wText (k + 1) v) e w' := by
  have hle := h.le
  have HI := hide h
  obtain ⟨ca, cn, cb, csv⟩ := c
  obtain ⟨o, n, j, hc⟩ := hc
  simp only at hc
  subst hc
  obtain ⟨htr, hn, hb, rows, hO, hx, hL⟩ := hV.open
  simp only at htr hn hb hO hx
  subst hn hb
  obtain ⟨tb, tsv, trows, rfl, htb, htx, hTO, hTx, hTn, hTl, hTs⟩ := htr.open
  obtain ⟨hof, hV'⟩ := hVal
  have htl := lt_of_heap htb
  have k0 : w.cell? ⟨tb, 0, none⟩ = some (.int .i64 1) := by rw [cell_of_heap htb, hof, hk]; rfl
  simp only [hk] at hV'
  obtain ⟨hb0, hp0, hn0, hn1⟩ := hV'
  have hm : mostOf 1 ≤ 4294967295 := by decide
  have q0 : -9223372036854775808 ≤ v.num := by omega
  have q1 : v.num ≤ 9223372036854775807 := by omega
  have HE : Hid (wText (k + 1) v = decI v.num) := by
    show _ = _
    simp only [wText, hof, hk]
    rfl
  have HLI := hide hl
  clear h hV _hW htr htb htx hof hl hk hTO hTx hTn hTl hTs hO hx hL hb0 hp0 hn0 hn1 hm
  simp only [VC.val]
  have HI0 : Hid (TIn (w.alloc (.cells #[.pointer (some ⟨tb, 0, none⟩), .int .i64 v.num, .string (ba v.bytes), .slice o n j] 96)) B sv acc) := HI.out.alloc _
  have HA : Hid (Fr (From B) w (w.alloc (.cells #[.pointer (some ⟨tb, 0, none⟩), .int .i64 v.num, .string (ba v.bytes), .slice o n j] 96))) := Fr.alloc _ _ _
  go_enter Tryz.func90, Tryz.ntmps90
  go_wp2_with fail
  refine (appendInt_any _ B sv acc v.num q0 q1 HI0.out.out HI0.out.le HI0.out.pow HI0.out.gb (by have := HLI.out; omega)).mono ?_
  rintro e w2 ⟨hF2, sv2, rfl, hB2⟩
  have HF2 := hide (HA.out.trans hF2)
  have HB2 := hide hB2
  clear hF2 hB2
  go_wp2_with fail
  go_ret
  rw [HE.out]
  exact ⟨HF2, sv2, rfl, HB2⟩

set_option maxHeartbeats 8000000 in
set_option maxRecDepth 100000 in
theorem atext_2 {k : Nat} {t : PT} (w : World) (B : Nat) (sv : Value) (acc : Bs) (c : VC) (v : PV) (h : TIn w B sv acc) (hV : VR w (From B) c v) (_hW : WFT (k + 1) t) (hVal : Valid (k + 1) t v) (hk : t.kind = 2) (hl : acc.length + (wText (k + 1) v).length + 1000 ≤ 140737488355328) (hc : ∃ o n j, c.sv = .slice o n j) :
    Calls Tryz.prog 90 #[c.val, sv] w fun e w' => OutPost w B (acc ++ wText (k + 1) v) e w' := by
  have hle := h.le
  have HI := hide h
  obtain ⟨ca, cn, cb, csv⟩ := c
  obtain ⟨o, n, j, hc⟩ := hc
  simp only at hc
  subst hc
  obtain ⟨htr, hn, hb, rows, hO, hx, hL⟩ := hV.open
  simp only at htr hn hb hO hx
  subst hn hb
  obtain ⟨tb, tsv, trows, rfl, htb, htx, hTO, hTx, hTn, hTl, hTs⟩ := htr.open
  obtain ⟨hof, hV'⟩ := hVal
  have htl := lt_of_heap htb
  have k0 : w.cell? ⟨tb, 0, none⟩ = some (.int .i64 2) := by rw [cell_of_heap htb, hof, hk]; rfl
  simp only [hk] at hV'
  obtain ⟨hb0, hp0, hn0, hn1⟩ := hV'
  have hm : mostOf 2 ≤ 4294967295 := by decide
  have q0 : -9223372036854775808 ≤ v.num := by omega
  have q1 : v.num ≤ 9223372036854775807 := by omega
  have HE : Hid (wText (k + 1) v = decI v.num) := by
    show _ = _
    simp only [wText, hof, hk]
    rfl
  have HLI := hide hl
  clear h hV _hW htr htb htx hof hl hk hTO hTx hTn hTl hTs hO hx hL hb0 hp0 hn0 hn1 hm
  simp only [VC.val]
  have HI0 : Hid (TIn (w.alloc (.cells #[.pointer (some ⟨tb, 0, none⟩), .int .i64 v.num, .string (ba v.bytes), .slice o n j] 96)) B sv acc) := HI.out.alloc _
  have HA : Hid (Fr (From B) w (w.alloc (.cells #[.pointer (some ⟨tb, 0, none⟩), .int .i64 v.num, .string (ba v.bytes), .slice o n j] 96))) := Fr.alloc _ _ _
  go_enter Tryz.func90, Tryz.ntmps90
  go_wp2_with fail
  refine (appendInt_any _ B sv acc v.num q0 q1 HI0.out.out HI0.out.le HI0.out.pow HI0.out.gb (by have := HLI.out; omega)).mono ?_
  rintro e w2 ⟨hF2, sv2, rfl, hB2⟩
  have HF2 := hide (HA.out.trans hF2)
  have HB2 := hide hB2
  clear hF2 hB2
  go_wp2_with fail
  go_ret
  rw [HE.out]
  exact ⟨HF2, sv2, rfl, HB2⟩

set_option maxHeartbeats 8000000 in
set_option maxRecDepth 100000 in
theorem atext_3 {k : Nat} {t : PT} (w : World) (B : Nat) (sv : Value) (acc : Bs) (c : VC) (v : PV) (h : TIn w B sv acc) (hV : VR w (From B) c v) (_hW : WFT (k + 1) t) (hVal : Valid (k + 1) t v) (hk : t.kind = 3) (hl : acc.length + (wText (k + 1) v).length + 1000 ≤ 140737488355328) (hc : ∃ o n j, c.sv = .slice o n j) :
    Calls Tryz.prog 90 #[c.val, sv] w fun e w' => OutPost w B (acc ++ wText (k + 1) v) e w' := by
  have hle := h.le
  have HI := hide h
  obtain ⟨ca, cn, cb, csv⟩ := c
  obtain ⟨o, n, j, hc⟩ := hc
  simp only at hc
  subst hc
  obtain ⟨htr, hn, hb, rows, hO, hx, hL⟩ := hV.open
  simp only at htr hn hb hO hx
  subst hn hb
  obtain ⟨tb, tsv, trows, rfl, htb, htx, hTO, hTx, hTn, hTl, hTs⟩ := htr.open
  obtain ⟨hof, hV'⟩ := hVal
  have htl := lt_of_heap htb
  have k0 : w.cell? ⟨tb, 0, none⟩ = some (.int .i64 3) := by rw [cell_of_heap htb, hof, hk]; rfl
  simp only [hk] at hV'
  obtain ⟨hb0, hp0, q0, q1⟩ := hV'
  have HE : Hid (wText (k + 1) v = decI v.num) := by
    show _ = _
    simp only [wText, hof, hk]
    rfl
  have HLI := hide hl
  clear h hV _hW htr htb htx hof hl hk hTO hTx hTn hTl hTs hO hx hL hb0 hp0
  simp only [VC.val]
  have HI0 : Hid (TIn (w.alloc (.cells #[.pointer (some ⟨tb, 0, none⟩), .int .i64 v.num, .string (ba v.bytes), .slice o n j] 96)) B sv acc) := HI.out.alloc _
  have HA : Hid (Fr (From B) w (w.alloc (.cells #[.pointer (some ⟨tb, 0, none⟩), .int .i64 v.num, .string (ba v.bytes), .slice o n j] 96))) := Fr.alloc _ _ _
  go_enter Tryz.func90, Tryz.ntmps90
  go_wp2_with fail
  refine (appendInt_any _ B sv acc v.num q0 q1 HI0.out.out HI0.out.le HI0.out.pow HI0.out.gb (by have := HLI.out; omega)).mono ?_
  rintro e w2 ⟨hF2, sv2, rfl, hB2⟩
  have HF2 := hide (HA.out.trans hF2)
  have HB2 := hide hB2
  clear hF2 hB2
  go_wp2_with fail
  go_ret
  rw [HE.out]
  exact ⟨HF2, sv2, rfl, HB2⟩

set_option maxHeartbeats 8000000 in
set_option maxRecDepth 100000 in
theorem atext_4 {k : Nat} {t : PT} (w : World) (B : Nat) (sv : Value) (acc : Bs) (c : VC) (v : PV) (h : TIn w B sv acc) (hV : VR w (From B) c v) (_hW : WFT (k + 1) t) (hVal : Valid (k + 1) t v) (hk : t.kind = 4) (hl : acc.length + (wText (k + 1) v).length + 1000 ≤ 140737488355328) (hc : ∃ o n j, c.sv = .slice o n j) :
    Calls Tryz.prog 90 #[c.val, sv] w fun e w' => OutPost w B (acc ++ wText (k + 1) v) e w' := by
  have hle := h.le
  have HI := hide h
  obtain ⟨ca, cn, cb, csv⟩ := c
  obtain ⟨o, n, j, hc⟩ := hc
  simp only at hc
  subst hc
  obtain ⟨htr, hn, hb, rows, hO, hx, hL⟩ := hV.open
  simp only at htr hn hb hO hx
  subst hn hb
  obtain ⟨tb, tsv, trows, rfl, htb, htx, hTO, hTx, hTn, hTl, hTs⟩ := htr.open
  obtain ⟨hof, hV'⟩ := hVal
  have htl := lt_of_heap htb
  have k0 : w.cell? ⟨tb, 0, none⟩ = some (.int .i64 4) := by rw [cell_of_heap htb, hof, hk]; rfl
  simp only [hk] at hV'
  obtain ⟨hb0, hp0, hn0⟩ := hV'
  rcases hn0 with hn0 | hn0
  · have HE : Hid (wText (k + 1) v = wNo) := by
      show _ = _
      simp only [wText, hof, hk, hn0]
      rfl
    have hq : (v.num == 0) = true := by rw [hn0]; rfl
    have HLI := hide hl
    clear h hV _hW htr htb htx hof hl hk hTO hTx hTn hTl hTs hO hx hL hb0 hp0 hn0
    simp only [VC.val]
    have HI0 : Hid (TIn (w.alloc (.cells #[.pointer (some ⟨tb, 0, none⟩), .int .i64 v.num, .string (ba v.bytes), .slice o n j] 96)) B sv acc) := HI.out.alloc _
    have HA : Hid (Fr (From B) w (w.alloc (.cells #[.pointer (some ⟨tb, 0, none⟩), .int .i64 v.num, .string (ba v.bytes), .slice o n j] 96))) := Fr.alloc _ _ _
    go_enter Tryz.func90, Tryz.ntmps90
    go_wp2_with (at_builtin; refine wpList_out rfl (.tmp 24) _ 9 rfl wNo rfl rfl HI0.out.out (by exact src_str _ wNo) ?hb1 ?hl1 ?_)
    case hb1 => exact HI0.out.le
    case hl1 => have := HLI.out; rw [HE.out] at this; omega
    intro v1 w1 hB1 hF1 _
    have HF1 := hide (HA.out.trans hF1)
    have HB1 := hide hB1
    clear hB1 hF1
    go_wp2_with fail
    go_ret
    rw [HE.out]
    exact ⟨HF1, v1, rfl, HB1⟩
  · have HE : Hid (wText (k + 1) v = wYes) := by
      show _ = _
      simp only [wText, hof, hk, hn0]
      rfl
    have hq : (v.num == 0) = false := by rw [hn0]; rfl
    have HLI := hide hl
    clear h hV _hW htr htb htx hof hl hk hTO hTx hTn hTl hTs hO hx hL hb0 hp0 hn0
    simp only [VC.val]
    have HI0 : Hid (TIn (w.alloc (.cells #[.pointer (some ⟨tb, 0, none⟩), .int .i64 v.num, .string (ba v.bytes), .slice o n j] 96)) B sv acc) := HI.out.alloc _
    have HA : Hid (Fr (From B) w (w.alloc (.cells #[.pointer (some ⟨tb, 0, none⟩), .int .i64 v.num, .string (ba v.bytes), .slice o n j] 96))) := Fr.alloc _ _ _
    go_enter Tryz.func90, Tryz.ntmps90
    go_wp2_with (at_builtin; refine wpList_out rfl (.tmp 26) _ 9 rfl wYes rfl rfl HI0.out.out (by exact src_str _ wYes) ?hb1 ?hl1 ?_)
    case hb1 => exact HI0.out.le
    case hl1 => have := HLI.out; rw [HE.out] at this; omega
    intro v1 w1 hB1 hF1 _
    have HF1 := hide (HA.out.trans hF1)
    have HB1 := hide hB1
    clear hB1 hF1
    go_wp2_with fail
    go_ret
    rw [HE.out]
    exact ⟨HF1, v1, rfl, HB1⟩

set_option maxHeartbeats 8000000 in
set_option maxRecDepth 100000 in
theorem atext_5 {k : Nat} {t : PT} (w : World) (B : Nat) (sv : Value) (acc : Bs) (c : VC) (v : PV) (h : TIn w B sv acc) (hV : VR w (From B) c v) (_hW : WFT (k + 1) t) (hVal : Valid (k + 1) t v) (hk : t.kind = 5) (hl : acc.length + (wText (k + 1) v).length + 1000 ≤ 140737488355328) (hc : ∃ o n j, c.sv = .slice o n j) :
    Calls Tryz.prog 90 #[c.val, sv] w fun e w' => OutPost w B (acc ++ wText (k + 1) v) e w' := by
  have hle := h.le
  have HI := hide h
  obtain ⟨ca, cn, cb, csv⟩ := c
  obtain ⟨o, n, j, hc⟩ := hc
  simp only at hc
  subst hc
  obtain ⟨htr, hn, hb, rows, hO, hx, hL⟩ := hV.open
  simp only at htr hn hb hO hx
  subst hn hb
  obtain ⟨tb, tsv, trows, rfl, htb, htx, hTO, hTx, hTn, hTl, hTs⟩ := htr.open
  obtain ⟨hof, hV'⟩ := hVal
  have htl := lt_of_heap htb
  have k0 : w.cell? ⟨tb, 0, none⟩ = some (.int .i64 5) := by rw [cell_of_heap htb, hof, hk]; rfl
  simp only [hk] at hV'
  obtain ⟨hn0, hp0, hb0, hb1⟩ := hV'
  have HE : Hid (wText (k + 1) v = 34 :: (wQuo v.bytes ++ [34])) := by
    show _ = _
    simp only [wText, hof, hk]
    rfl
  have HLI := hide hl
  clear h hV _hW htr htb htx hof hl hk hTO hTx hTn hTl hTs hO hx hL hp0 hn0 hb1
  simp only [VC.val]
  have HI0 : Hid (TIn (w.alloc (.cells #[.pointer (some ⟨tb, 0, none⟩), .int .i64 v.num, .string (ba v.bytes), .slice o n j] 96)) B sv acc) := HI.out.alloc _
  have HA : Hid (Fr (From B) w (w.alloc (.cells #[.pointer (some ⟨tb, 0, none⟩), .int .i64 v.num, .string (ba v.bytes), .slice o n j] 96))) := Fr.alloc _ _ _
  go_enter Tryz.func90, Tryz.ntmps90
  go_wp2_with fail
  refine (appendQuoted_any _ B sv acc v.bytes HI0.out.out HI0.out.le (by have := HLI.out; omega)).mono ?_
  rintro e w2 ⟨hF2, sv2, rfl, hB2⟩
  have HF2 := hide (HA.out.trans hF2)
  have HB2 := hide hB2
  clear hF2 hB2
  go_wp2_with fail
  go_ret
  rw [HE.out]
  exact ⟨HF2, sv2, rfl, HB2⟩

set_option maxHeartbeats 8000000 in
set_option maxRecDepth 100000 in
theorem atext_6 {k : Nat} {t : PT} (w : World) (B : Nat) (sv : Value) (acc : Bs) (c : VC) (v : PV) (h : TIn w B sv acc) (hV : VR w (From B) c v) (_hW : WFT (k + 1) t) (hVal : Valid (k + 1) t v) (hk : t.kind = 6) (hl : acc.length + (wText (k + 1) v).length + 1000 ≤ 140737488355328) (hc : ∃ o n j, c.sv = .slice o n j) :
    Calls Tryz.prog 90 #[c.val, sv] w fun e w' => OutPost w B (acc ++ wText (k + 1) v) e w' := by
  have hle := h.le
  have HI := hide h
  obtain ⟨ca, cn, cb, csv⟩ := c
  obtain ⟨o, n, j, hc⟩ := hc
  simp only at hc
  subst hc
  obtain ⟨htr, hn, hb, rows, hO, hx, hL⟩ := hV.open
  simp only at htr hn hb hO hx
  subst hn hb
  obtain ⟨tb, tsv, trows, rfl, htb, htx, hTO, hTx, hTn, hTl, hTs⟩ := htr.open
  obtain ⟨hof, hV'⟩ := hVal
  have htl := lt_of_heap htb
  have k0 : w.cell? ⟨tb, 0, none⟩ = some (.int .i64 6) := by rw [cell_of_heap htb, hof, hk]; rfl
  simp only [hk] at hV'
  obtain ⟨hn0, hp0, hb0⟩ := hV'
  have HE : Hid (wText (k + 1) v = 120 :: wHex v.bytes) := by
    show _ = _
    simp only [wText, hof, hk]
    rfl
  have HLI := hide hl
  clear h hV _hW htr htb htx hof hl hk hTO hTx hTn hTl hTs hO hx hL hp0 hn0
  simp only [VC.val]
  have HI0 : Hid (TIn (w.alloc (.cells #[.pointer (some ⟨tb, 0, none⟩), .int .i64 v.num, .string (ba v.bytes), .slice o n j] 96)) B sv acc) := HI.out.alloc _
  have HA : Hid (Fr (From B) w (w.alloc (.cells #[.pointer (some ⟨tb, 0, none⟩), .int .i64 v.num, .string (ba v.bytes), .slice o n j] 96))) := Fr.alloc _ _ _
  go_enter Tryz.func90, Tryz.ntmps90
  go_wp2_with fail
  refine (appendHexadecimal_any _ B sv acc v.bytes HI0.out.out HI0.out.le (by have := HLI.out; omega)).mono ?_
  rintro e w2 ⟨hF2, sv2, rfl, hB2⟩
  have HF2 := hide (HA.out.trans hF2)
  have HB2 := hide hB2
  clear hF2 hB2
  go_wp2_with fail
  go_ret
  rw [HE.out]
  exact ⟨HF2, sv2, rfl, HB2⟩

set_option maxHeartbeats 8000000 in
set_option maxRecDepth 100000 in
theorem atext_7 {k : Nat} {t : PT} (hT : TSaid k) (w : World) (B : Nat) (sv : Value) (acc : Bs) (c : VC) (v : PV) (h : TIn w B sv acc) (hV : VR w (From B) c v) (hW : WFT (k + 1) t) (hVal : Valid (k + 1) t v) (hk : t.kind = 7) (hl : acc.length + (wText (k + 1) v).length + 1000 ≤ 140737488355328) (hc : ∃ o n j, c.sv = .slice o n j) :
    Calls Tryz.prog 90 #[c.val, sv] w fun e w' => OutPost w B (acc ++ wText (k + 1) v) e w' := by
  have hle := h.le
  have HI := hide h
  obtain ⟨ca, cn, cb, csv⟩ := c
  obtain ⟨o, n, j, hc⟩ := hc
  simp only at hc
  subst hc
  obtain ⟨htr, hn, hb, rows, hO, hx, hL⟩ := hV.open
  simp only at htr hn hb hO hx
  subst hn hb
  obtain ⟨tb, tsv, trows, rfl, htb, htx, hTO, hTx, hTn, hTl, hTs⟩ := htr.open
  obtain ⟨hof, hV'⟩ := hVal
  have htl := lt_of_heap htb
  have k0 : w.cell? ⟨tb, 0, none⟩ = some (.int .i64 7) := by rw [cell_of_heap htb, hof, hk]; rfl
  simp only [hk] at hV'
  have HT := hide hT
  clear hT
  obtain ⟨hn0, hb0, hp0, hp1⟩ := hV'
  have HP : Hid (∀ x ∈ v.parts, ∃ u, WFT k u ∧ Valid k u x) := fun x hx => ⟨_, hW.sub (hW.2.2.2.1 (by omega)), hp1 x hx⟩
  have HE : Hid (wText (k + 1) v = 91 :: (wBetween (wText k) v.parts ++ [93])) := by
    show _ = _
    simp only [wText, hof, hk]
    rfl
  have HO := hide hO
  have HX := hide hx
  have HLL := hide hL
  have HLI := hide hl
  clear h hV hW htr htb htx hof hl hk hTO hTx hTn hTl hTs hO hx hL hn0 hb0 hp1
  simp only [VC.val]
  have HI0 : Hid (TIn (w.alloc (.cells #[.pointer (some ⟨tb, 0, none⟩), .int .i64 v.num, .string (ba v.bytes), .slice o n j] 96)) B sv acc) := HI.out.alloc _
  have HA : Hid (Fr (From B) w (w.alloc (.cells #[.pointer (some ⟨tb, 0, none⟩), .int .i64 v.num, .string (ba v.bytes), .slice o n j] 96))) := Fr.alloc _ _ _
  go_enter Tryz.func90, Tryz.ntmps90
  go_wp2_with fail
  refine (appendBetween_any HT.out _ B sv (.slice o n j) acc 91 93 rows v.parts HI0 (by exact HO.out.alloc _) HX (HLL.out.keep (Fr.alloc _ _ _)) HP (by omega) (by have := HLI.out; rw [HE.out] at this; simp at this; omega)).mono ?_
  rintro e w2 ⟨hF2, sv2, rfl, hB2⟩
  have HF2 := hide (HA.out.trans hF2)
  have HB2 := hide hB2
  clear hF2 hB2
  go_wp2_with fail
  go_ret
  rw [HE.out]
  exact ⟨HF2, sv2, rfl, HB2⟩

set_option maxHeartbeats 8000000 in
set_option maxRecDepth 100000 in
theorem atext_9 {k : Nat} {t : PT} (hT : TSaid k) (w : World) (B : Nat) (sv : Value) (acc : Bs) (c : VC) (v : PV) (h : TIn w B sv acc) (hV : VR w (From B) c v) (hW : WFT (k + 1) t) (hVal : Valid (k + 1) t v) (hk : t.kind = 9) (hl : acc.length + (wText (k + 1) v).length + 1000 ≤ 140737488355328) (hc : ∃ o n j, c.sv = .slice o n j) :
    Calls Tryz.prog 90 #[c.val, sv] w fun e w' => OutPost w B (acc ++ wText (k + 1) v) e w' := by
  have hle := h.le
  have HI := hide h
  obtain ⟨ca, cn, cb, csv⟩ := c
  obtain ⟨o, n, j, hc⟩ := hc
  simp only at hc
  subst hc
  obtain ⟨htr, hn, hb, rows, hO, hx, hL⟩ := hV.open
  simp only at htr hn hb hO hx
  subst hn hb
  obtain ⟨tb, tsv, trows, rfl, htb, htx, hTO, hTx, hTn, hTl, hTs⟩ := htr.open
  obtain ⟨hof, hV'⟩ := hVal
  have htl := lt_of_heap htb
  have k0 : w.cell? ⟨tb, 0, none⟩ = some (.int .i64 9) := by rw [cell_of_heap htb, hof, hk]; rfl
  simp only [hk] at hV'
  have HT := hide hT
  clear hT
  obtain ⟨hn0, hb0, hp2, hp1⟩ := hV'
  have HP : Hid (∀ x ∈ v.parts, ∃ u, WFT k u ∧ Valid k u x) := fun x hx => by
    obtain ⟨i, hi⟩ := List.getElem?_of_mem hx
    exact ⟨_, hW.sub (by rw [← hp2]; exact (List.getElem?_eq_some_iff.1 hi).1), hp1 i x hi⟩
  have hs6 := hW.2.2.2.2.2.1.1
  have hp0 : v.parts.length ≤ 300 := by rw [hp2]; omega
  have HE : Hid (wText (k + 1) v = 123 :: (wBetween (wText k) v.parts ++ [125])) := by
    show _ = _
    simp only [wText, hof, hk]
    rfl
  have HO := hide hO
  have HX := hide hx
  have HLL := hide hL
  have HLI := hide hl
  clear h hV hW htr htb htx hof hl hk hTO hTx hTn hTl hTs hO hx hL hn0 hb0 hp1 hp2 hs6
  simp only [VC.val]
  have HI0 : Hid (TIn (w.alloc (.cells #[.pointer (some ⟨tb, 0, none⟩), .int .i64 v.num, .string (ba v.bytes), .slice o n j] 96)) B sv acc) := HI.out.alloc _
  have HA : Hid (Fr (From B) w (w.alloc (.cells #[.pointer (some ⟨tb, 0, none⟩), .int .i64 v.num, .string (ba v.bytes), .slice o n j] 96))) := Fr.alloc _ _ _
  go_enter Tryz.func90, Tryz.ntmps90
  go_wp2_with fail
  refine (appendBetween_any HT.out _ B sv (.slice o n j) acc 123 125 rows v.parts HI0 (by exact HO.out.alloc _) HX (HLL.out.keep (Fr.alloc _ _ _)) HP (by omega) (by have := HLI.out; rw [HE.out] at this; simp at this; omega)).mono ?_
  rintro e w2 ⟨hF2, sv2, rfl, hB2⟩
  have HF2 := hide (HA.out.trans hF2)
  have HB2 := hide hB2
  clear hF2 hB2
  go_wp2_with fail
  go_ret
  rw [HE.out]
  exact ⟨HF2, sv2, rfl, HB2⟩

end Go.Proofs.YtdcjogpkogidaaaGreatDoor

namespace Go.Proofs.YtdcjogpkogidaaaGreatDoor
open Go.RowKit

set_option maxRecDepth 100000 in
/-- A call of a Go function, as one step of a region that draws. -/
theorem step_call {ops : Array Oper} {o : Oper} {a : Act} {w : World} {K : Act → World → Prop} {Q : Exit → Act → World → Prop} {E : Prop}
    (hg : o.guard = none) (f : FuncId) (args : Array Operand) (ats : Array TypeId) (hop : o.op = Op.call { callee := Callee.value (Operand.func f), args := args, argTypes := ats })
    (hen : ∀ (vs : Array Value) (w : World), (callFunc f vs).run Tryz.prog w = .ok (.enter f vs) w) (vals : Array Value) (hv : args.map a.eval = vals) {R : Ending → World → Prop} (hc : Calls Tryz.prog f vals w R) (hR : ∀ e w', R e w' → ∃ v, e = .returned v)
    (hK : ∀ v w', R (.returned v) w' → K (a.put o.dst v) w') :
    if Region.wanted o (yielded ops a.tmps) = true then Oper.wp Tryz.prog o a w K Q else E := by
  have hw : Region.wanted o (yielded ops a.tmps) = true := by simp [Region.wanted, hg]
  rw [if_pos hw]
  unfold Oper.wp
  have hrun : (execOp a.eval o).run Tryz.prog w = .ok (.enter f vals) w := by
    simp [execOp, hop, resolve, invoke, Deferred.ofValue, hv, hen, Act.eval]
  rw [hrun]
  refine hc.mono ?_
  intro e w' h
  obtain ⟨v, rfl⟩ := hR e w' h
  exact hK v w' h

theorem BO.nown {w : World} {B : Nat} {sv : Value} {acc : Bs} (h : BO w B sv acc) {n : Nat} {cs : Array Value} {t : TypeId} {f : Nat × Nat} (hb : w.heap[n]? = some (.cells cs t f)) (ht : t ≠ 5) : ¬ Owned sv n := by
  intro e
  unfold Owned at e
  rcases h.own.2 with ⟨rfl, _⟩ | ⟨g, cap, cur, rfl, _, hg, _⟩
  · simp [Value.ownBlock] at e
  · simp [Value.ownBlock] at e
    subst e
    rw [hb] at hg
    simp at hg
    exact ht hg.2.1

set_option maxHeartbeats 8000000 in
set_option maxRecDepth 100000 in
theorem atext_8 {k : Nat} {t : PT} (hT : TSaid k) (w : World) (B : Nat) (sv : Value) (acc : Bs) (c : VC) (v : PV) (h : TIn w B sv acc) (hV : VR w (From B) c v) (hW : WFT (k + 1) t) (hVal : Valid (k + 1) t v) (hk : t.kind = 8) (hl : acc.length + (wText (k + 1) v).length + 1000 ≤ 140737488355328) (hc : ∃ o n j, c.sv = .slice o n j) :
    Calls Tryz.prog 90 #[c.val, sv] w fun e w' => OutPost w B (acc ++ wText (k + 1) v) e w' := by
  have hle := h.le
  have HI := hide h
  obtain ⟨ca, cn, cb, csv⟩ := c
  obtain ⟨o, n, j, hc⟩ := hc
  simp only at hc
  subst hc
  obtain ⟨htr, hn, hb, rows, hO, hx, hL⟩ := hV.open
  simp only at htr hn hb hO hx
  subst hn hb
  obtain ⟨tb, tsv, trows, rfl, htb, htx, hTO, hTx, hTn, hTl, hTs⟩ := htr.open
  obtain ⟨hof, hV'⟩ := hVal
  have htl := lt_of_heap htb
  have k0 : w.cell? ⟨tb, 0, none⟩ = some (.int .i64 8) := by rw [cell_of_heap htb, hof, hk]; rfl
  simp only [hk] at hV'
  have HT := hide hT
  clear hT
  obtain ⟨hn0, hb0, hp0, hp1⟩ := hV'
  obtain ⟨ea, ecap, hsl⟩ := own_slice hO
  simp only [Value.slice.injEq] at hsl
  obtain ⟨rfl, rfl, rfl⟩ := hsl
  have hrl := hL.1
  rcases hpp : v.parts with _ | ⟨x, ps⟩
  · have HE : Hid (wText (k + 1) v = [45]) := by
      show _ = _
      simp only [wText, hof, hk, hpp]
      rfl
    have hr0 : rows.length = 0 := by rw [hrl, hpp]; rfl
    have hrI : ((rows.length : Int) == 0) = true := by rw [hr0]; rfl
    have HLI := hide hl
    clear h hV hW htr htb htx hof hl hk hTO hTx hTn hTl hTs hO hx hL hn0 hb0 hp0 hp1 hpp hrl hr0
    simp only [VC.val]
    have HI0 : Hid (TIn (w.alloc (.cells #[.pointer (some ⟨tb, 0, none⟩), .int .i64 v.num, .string (ba v.bytes), .slice o rows.length j] 96)) B sv acc) := HI.out.alloc _
    have HA : Hid (Fr (From B) w (w.alloc (.cells #[.pointer (some ⟨tb, 0, none⟩), .int .i64 v.num, .string (ba v.bytes), .slice o rows.length j] 96))) := Fr.alloc _ _ _
    go_enter Tryz.func90, Tryz.ntmps90
    go_wp2_with (at_builtin; refine wpList_out rfl (.tmp 52) (.tmp 53) 24 rfl [45] rfl rfl (HI0.out.out.alloc _) (by exact src_at (b := 45) (t := 5) (heap_new_at (by simp) _)) ?hb1 ?hl1 ?_)
    case hb1 => have := HI0.out.le; simp at this ⊢; omega
    case hl1 => have := HLI.out; rw [HE.out] at this; simp at this ⊢; omega
    intro v1 w1 hB1 hF1 _
    have HF1 := hide ((HA.out.trans (Fr.alloc _ _ _)).trans hF1)
    have HB1 := hide hB1
    clear hB1 hF1
    go_wp2_with fail
    go_ret
    rw [HE.out]
    exact ⟨HF1, v1, rfl, HB1⟩
  · have hps : ps = [] := by
      rw [hpp] at hp0
      simp at hp0
      exact hp0
    subst hps
    have HE : Hid (wText (k + 1) v = 43 :: wText k x) := by
      show _ = _
      simp only [wText, hof, hk, hpp]
      rfl
    have hr1 : rows.length = 1 := by rw [hrl, hpp]; rfl
    obtain ⟨⟨ca, cn, cb, csv⟩, hc0⟩ : ∃ c, rows[0]? = some c := ⟨rows[0]'(by omega), by simp⟩
    have hvr := hL.2 0 _ x hc0 (by rw [hpp]; rfl)
    obtain ⟨o2, n2, j2, hs2⟩ := hvr.sliced
    simp only at hs2
    subst hs2
    have HVR := hide hvr
    have HWx : Hid (WFT k (t.sub 0)) := hW.sub (hW.2.2.2.1 (by omega))
    have HVx : Hid (Valid k (t.sub 0) x) := hp1 x (by rw [hpp]; simp)
    obtain ⟨g, cap, hv⟩ := own_some hO (by omega)
    simp at hv
    obtain ⟨rfl, rfl⟩ := hv
    have hgl : g < w.heap.size := (hO.lt g rfl).2
    have hgn : ¬ From B g := hx g rfl
    obtain ⟨c0, c1, c2, c3⟩ := vCell hO rfl hc0
    simp only [Nat.zero_mul, Nat.zero_add] at c0 c1 c2 c3
    have hrI : ((rows.length : Int) == 0) = false := by rw [hr1]; rfl
    have hrJ : (0 : Int) < (rows.length : Int) := by omega
    have hrK : 0 < rows.length := by omega
    have HX := hide hgn
    have HR1 := hide hr1
    have HLI := hide hl
    clear h hV hW htr htb htx hof hl hk hTO hTx hTn hTl hTs hO hx hL hn0 hb0 hp0 hp1 hpp hrl hr1 hvr hgn hc0
    simp only [VC.val]
    have HI0 : Hid (TIn (w.alloc (.cells #[.pointer (some ⟨tb, 0, none⟩), .int .i64 v.num, .string (ba v.bytes), .slice (some ⟨g, 0, none⟩) rows.length j] 96)) B sv acc) := HI.out.alloc _
    have HA : Hid (Fr (From B) w (w.alloc (.cells #[.pointer (some ⟨tb, 0, none⟩), .int .i64 v.num, .string (ba v.bytes), .slice (some ⟨g, 0, none⟩) rows.length j] 96))) := Fr.alloc _ _ _
    go_enter Tryz.func90, Tryz.ntmps90
    have m1 : Hid (B ≤ ((w.alloc (.cells #[.pointer (some ⟨tb, 0, none⟩), .int .i64 v.num, .string (ba v.bytes), .slice (some ⟨g, 0, none⟩) rows.length j] 96)).drew.alloc (.cells #[.int .u8 43] 5)).heap.size) := by have := HI0.out.le; show _ ≤ _; simp at this ⊢; omega
    have m2 : Hid (acc.length + [43].length ≤ 140737488355328) := by have := HLI.out; rw [HE.out] at this; show _ ≤ _; simp at this ⊢; omega
    have m3 : Hid ((acc ++ [43]).length + (wText k x).length + 1000 ≤ 140737488355328) := by have := HLI.out; rw [HE.out] at this; show _ ≤ _; simp at this ⊢; omega
    have hnb : ¬ Owned sv w.heap.size := fun e => by have := (HI.out.out.own.lt _ e).2; omega
    have HNB := hide hnb
    clear hnb
    go_wp2_with fail
    go_region_law (first
      | (refine step_out (sv := sv) (xv := .slice (some ⟨w.heap.size + 1, 0, none⟩) 1 1) rfl (.tmp 59) (.tmp 60) 24 rfl [43] (by simp [Act.eval, Act.put]) (by simp [Act.eval, Act.put]) (by exact HI0.out.drew.out.alloc _) (by exact src_at (b := 43) (t := 5) (heap_new_at (by simp) _)) m1.out m2.out ?_
         intro v2 w2 hB2 hF2 hG2
         have HF2 := hide (((HA.out.trans (Fr.dr (From B) _)).trans (Fr.alloc _ _ _)).trans hF2)
         have HI2 := hide (HI.out.next HF2.out hB2)
         have e3 : w2.cell? ⟨w.heap.size, 3, none⟩ = some (.slice (some ⟨g, 0, none⟩) rows.length j) := by rw [hG2.cell (a := ⟨w.heap.size, 3, none⟩) (by simp; omega) HNB.out]; simp
         have f0 : w2.cell? ⟨g, 0, none⟩ = some (.pointer (some ca)) := (HF2.out.cell (a := ⟨g, 0, none⟩) hgl HX.out).trans c0
         have f1 : w2.cell? ⟨g, 1, none⟩ = some (.int .i64 cn) := (HF2.out.cell (a := ⟨g, 1, none⟩) hgl HX.out).trans c1
         have f2 : w2.cell? ⟨g, 2, none⟩ = some (.string (ba cb)) := (HF2.out.cell (a := ⟨g, 2, none⟩) hgl HX.out).trans c2
         have f3 : w2.cell? ⟨g, 3, none⟩ = some (.slice o2 n2 j2) := (HF2.out.cell (a := ⟨g, 3, none⟩) hgl HX.out).trans c3
         clear hB2 hF2 hG2)
      | (refine step_call rfl 90 _ _ rfl (enters_of Tryz.func90 (by kernel_rfl) rfl) #[VC.val ⟨ca, cn, cb, .slice o2 n2 j2⟩, v2] (by simp [Act.eval, VC.val]) (HT.out w2 B v2 (acc ++ [43]) ⟨ca, cn, cb, .slice o2 n2 j2⟩ x (t.sub 0) HI2 (HVR.out.keep HF2) HWx HVx m3 ⟨_, _, _, rfl⟩) (fun e w' h => ⟨_, h.2.choose_spec.1⟩) ?_
         rintro v3 w3 ⟨hF3, sv3, hs3, hB3⟩
         have HF3 := hide (HF2.out.trans hF3)
         have HB3 := hide hB3
         have HS3 := hide hs3
         clear hF3 hB3 hs3))
    all_goals
      go_wp2_with fail
      go_ret
      rw [HE.out]
      obtain rfl := (Ending.returned.inj HS3.out)
      exact ⟨HF3, v3, rfl, by simpa using HB3.out⟩

set_option maxHeartbeats 8000000 in
set_option maxRecDepth 100000 in
theorem atext_10 {k : Nat} {t : PT} (hT : TSaid k) (w : World) (B : Nat) (sv : Value) (acc : Bs) (c : VC) (v : PV) (h : TIn w B sv acc) (hV : VR w (From B) c v) (hW : WFT (k + 1) t) (hVal : Valid (k + 1) t v) (hk : t.kind = 10) (hl : acc.length + (wText (k + 1) v).length + 1000 ≤ 140737488355328) (hc : ∃ o n j, c.sv = .slice o n j) :
    Calls Tryz.prog 90 #[c.val, sv] w fun e w' => OutPost w B (acc ++ wText (k + 1) v) e w' := by
  have hle := h.le
  have HI := hide h
  obtain ⟨ca, cn, cb, csv⟩ := c
  obtain ⟨o, n, j, hc⟩ := hc
  simp only at hc
  subst hc
  obtain ⟨htr, hn, hb, rows, hO, hx, hL⟩ := hV.open
  simp only at htr hn hb hO hx
  subst hn hb
  obtain ⟨tb, tsv, trows, rfl, htb, htx, hTO, hTx, hTn, hTl, hTs⟩ := htr.open
  obtain ⟨hof, hV'⟩ := hVal
  have htl := lt_of_heap htb
  have k0 : w.cell? ⟨tb, 0, none⟩ = some (.int .i64 10) := by rw [cell_of_heap htb, hof, hk]; rfl
  simp only [hk] at hV'
  have HT := hide hT
  clear hT
  obtain ⟨hb0, i, x, hnum, hi, hpp, hp1⟩ := hV'
  have hrl := hL.1
  have hr1 : rows.length = 1 := by rw [hrl, hpp]; rfl
  obtain ⟨ea, ecap, hsl⟩ := own_slice hO
  simp only [Value.slice.injEq] at hsl
  obtain ⟨rfl, rfl, rfl⟩ := hsl
  obtain ⟨⟨ca, cn, cb, csv⟩, hc0⟩ : ∃ c, rows[0]? = some c := ⟨rows[0]'(by omega), by simp⟩
  have hvr := hL.2 0 _ x hc0 (by rw [hpp]; rfl)
  obtain ⟨o2, n2, j2, hs2⟩ := hvr.sliced
  simp only at hs2
  subst hs2
  have HVR := hide hvr
  have HWx : Hid (WFT k (t.sub i)) := hW.sub hi
  have HVx := hide hp1
  obtain ⟨g, cap, hv⟩ := own_some hO (by omega)
  simp at hv
  obtain ⟨rfl, rfl⟩ := hv
  have hgl : g < w.heap.size := (hO.lt g rfl).2
  have hgn : ¬ From B g := hx g rfl
  obtain ⟨c0, c1, c2, c3⟩ := vCell hO rfl hc0
  simp only [Nat.zero_mul, Nat.zero_add] at c0 c1 c2 c3
  have hrJ : (0 : Int) < (rows.length : Int) := by omega
  have hrK : 0 < rows.length := by omega
  -- the case's name
  have hit : i < trows.length := by rw [hTl, hof]; exact hi
  obtain ⟨p, hp⟩ : ∃ p, trows[i]? = some p := ⟨trows[i], by simp⟩
  obtain ⟨pg, tcap, htsv⟩ := own_some hTO (by omega)
  subst htsv
  have hpl : pg < w.heap.size := (hTO.lt pg rfl).2
  obtain ⟨nl, hnl⟩ : ∃ nl, nl = p.1.data.toList := ⟨_, rfl⟩
  have hba : p.1 = ba nl := by rw [hnl, ba_data]
  have n0 : w.cell? ⟨pg, i * 2, none⟩ = some (.string (ba nl)) := by rw [hTO.cellAt (i * 2) (by omega), (rowCells_get trows i p hp).1, hba]
  have t1 : w.cell? ⟨tb, 1, none⟩ = some (.slice (some ⟨pg, 0, none⟩) trows.length tcap) := by rw [cell_of_heap htb]; rfl
  have hname : t.name i = nl := by
    have h1 := congrArg (fun l => l[i]?) hTn
    simp only [List.getElem?_map, hp, Option.map_some, hof] at h1
    unfold PT.name
    rw [← h1, hnl]
    rfl
  have HE : Hid (wText (k + 1) v = nl ++ 58 :: wText k x) := by
    show _ = _
    simp only [wText, hof, hk, hpp, hnum]
    simp only [Int.toNat_natCast, hname]
    rfl
  have hitI : (i : Int) < (trows.length : Int) := by omega
  have HX := hide hgn
  have HR1 := hide hr1
  have HLI := hide hl
  clear h hV hW htr htb htx hof hl hk hTO hTx hTn hTl hTs hO hx hL hb0 hpp hp1 hrl hr1 hvr hgn hc0 hp hnl hba hname hi
  simp only [VC.val, hnum]
  clear hnum
  have HI0 : Hid (TIn (w.alloc (.cells #[.pointer (some ⟨tb, 0, none⟩), .int .i64 (i : Int), .string (ba v.bytes), .slice (some ⟨g, 0, none⟩) rows.length j] 96)) B sv acc) := HI.out.alloc _
  have HA : Hid (Fr (From B) w (w.alloc (.cells #[.pointer (some ⟨tb, 0, none⟩), .int .i64 (i : Int), .string (ba v.bytes), .slice (some ⟨g, 0, none⟩) rows.length j] 96))) := Fr.alloc _ _ _
  have m1 : Hid (B ≤ ((w.alloc (.cells #[.pointer (some ⟨tb, 0, none⟩), .int .i64 (i : Int), .string (ba v.bytes), .slice (some ⟨g, 0, none⟩) rows.length j] 96))).drew.heap.size) := by have := HI0.out.le; show _ ≤ _; simp at this ⊢; omega
  have m2 : Hid (acc.length + nl.length ≤ 140737488355328) := by have := HLI.out; rw [HE.out] at this; show _ ≤ _; simp at this ⊢; omega
  have m4 : Hid ((acc ++ nl).length + [58].length ≤ 140737488355328) := by have := HLI.out; rw [HE.out] at this; show _ ≤ _; simp at this ⊢; omega
  have m3 : Hid ((acc ++ nl ++ [58]).length + (wText k x).length + 1000 ≤ 140737488355328) := by have := HLI.out; rw [HE.out] at this; show _ ≤ _; simp at this ⊢; omega
  have hnb : ¬ Owned sv w.heap.size := fun e => by have := (HI.out.out.own.lt _ e).2; omega
  have HNB := hide hnb
  clear hnb
  go_enter Tryz.func90, Tryz.ntmps90
  go_wp2_with fail
  go_region_law (refine step_out (sv := sv) (xv := .string (ba nl)) rfl (.tmp 71) (.tmp 81) 9 rfl nl (by simp [Act.eval]) (by simp [Act.eval]) (by exact HI0.out.drew.out) (by exact src_str _ nl) m1.out m2.out ?_
                 intro v1 w1 hB1 hF1 hG1
                 have HF1 := hide ((HA.out.trans (Fr.dr (From B) _)).trans hF1)
                 have HI1 := hide (HI.out.next HF1.out hB1)
                 have e3 : w1.cell? ⟨w.heap.size, 3, none⟩ = some (.slice (some ⟨g, 0, none⟩) rows.length j) := by rw [hG1.cell (a := ⟨w.heap.size, 3, none⟩) (by simp) HNB.out]; simp
                 have hz1 : w.heap.size < w1.heap.size := by have := hG1.size; simp at this; omega
                 have HNB1 : Hid (¬ Owned v1 w.heap.size) := hB1.nown (hG1.keep (heap_new_at rfl _) HNB.out) (by decide)
                 have d0 : w1.cell? ⟨g, 0, none⟩ = some (.pointer (some ca)) := (HF1.out.cell (a := ⟨g, 0, none⟩) hgl HX.out).trans c0
                 have d1 : w1.cell? ⟨g, 1, none⟩ = some (.int .i64 cn) := (HF1.out.cell (a := ⟨g, 1, none⟩) hgl HX.out).trans c1
                 have d2 : w1.cell? ⟨g, 2, none⟩ = some (.string (ba cb)) := (HF1.out.cell (a := ⟨g, 2, none⟩) hgl HX.out).trans c2
                 have d3 : w1.cell? ⟨g, 3, none⟩ = some (.slice o2 n2 j2) := (HF1.out.cell (a := ⟨g, 3, none⟩) hgl HX.out).trans c3
                 clear hB1 hF1 hG1)
  all_goals
    have hgl1 : g < w1.heap.size := by omega
    have p1 : Hid (B ≤ (w1.drew.alloc (.cells #[.int .u8 58] 5)).heap.size) := by have := HI1.out.le; show _ ≤ _; simp at this ⊢; omega
    go_wp2_with fail
    go_region_law (first
      | (refine step_out (sv := v1) (xv := .slice (some ⟨w1.heap.size, 0, none⟩) 1 1) rfl (.tmp 87) (.tmp 88) 24 rfl [58] (by simp [Act.eval, Act.put]) (by simp [Act.eval, Act.put]) (by exact HI1.out.drew.out.alloc _) (by exact src_at (b := 58) (t := 5) (heap_new_at (by simp) _)) p1.out m4.out ?_
         intro v2 w2 hB2 hF2 hG2
         have HF2 := hide (((HF1.out.trans (Fr.dr (From B) _)).trans (Fr.alloc _ _ _)).trans hF2)
         have HI2 := hide (HI.out.next HF2.out hB2)
         have e4 : w2.cell? ⟨w.heap.size, 3, none⟩ = some (.slice (some ⟨g, 0, none⟩) rows.length j) := by rw [hG2.cell (a := ⟨w.heap.size, 3, none⟩) (by simp; omega) HNB1.out]; simp [World.cell?_alloc_lt, hz1, e3]
         have f0 : w2.cell? ⟨g, 0, none⟩ = some (.pointer (some ca)) := (HF2.out.cell (a := ⟨g, 0, none⟩) hgl HX.out).trans c0
         have f1 : w2.cell? ⟨g, 1, none⟩ = some (.int .i64 cn) := (HF2.out.cell (a := ⟨g, 1, none⟩) hgl HX.out).trans c1
         have f2 : w2.cell? ⟨g, 2, none⟩ = some (.string (ba cb)) := (HF2.out.cell (a := ⟨g, 2, none⟩) hgl HX.out).trans c2
         have f3 : w2.cell? ⟨g, 3, none⟩ = some (.slice o2 n2 j2) := (HF2.out.cell (a := ⟨g, 3, none⟩) hgl HX.out).trans c3
         clear hB2 hF2 hG2)
      | (refine step_call rfl 90 _ _ rfl (enters_of Tryz.func90 (by kernel_rfl) rfl) #[VC.val ⟨ca, cn, cb, .slice o2 n2 j2⟩, v2] (by simp [Act.eval, VC.val]) (HT.out w2 B v2 (acc ++ nl ++ [58]) ⟨ca, cn, cb, .slice o2 n2 j2⟩ x (t.sub i) HI2 (HVR.out.keep HF2) HWx HVx m3 ⟨_, _, _, rfl⟩) (fun e w' h => ⟨_, h.2.choose_spec.1⟩) ?_
         rintro v3 w3 ⟨hF3, sv3, hs3, hB3⟩
         have HF3 := hide (HF2.out.trans hF3)
         have HB3 := hide hB3
         have HS3 := hide hs3
         clear hF3 hB3 hs3))
    all_goals
      go_wp2_with fail
      go_ret
      rw [HE.out]
      obtain rfl := (Ending.returned.inj HS3.out)
      exact ⟨HF3, v3, rfl, by simpa using HB3.out⟩

theorem appendText_all : ∀ k, TSaid k := by
  intro k
  induction k with
  | zero => intro w B sv acc c v t _ _ hW; exact hW.elim
  | succ k ih =>
    intro w B sv acc c v t hI hV hW hVal hl hc
    have hk := hW.1
    obtain h | h | h | h | h | h | h | h | h | h | h : t.kind = 0 ∨ t.kind = 1 ∨ t.kind = 2 ∨ t.kind = 3 ∨ t.kind = 4 ∨ t.kind = 5 ∨ t.kind = 6 ∨ t.kind = 7 ∨ t.kind = 8 ∨ t.kind = 9 ∨ t.kind = 10 := by omega
    · exact atext_0 w B sv acc c v hI hV hW hVal h hl hc
    · exact atext_1 w B sv acc c v hI hV hW hVal h hl hc
    · exact atext_2 w B sv acc c v hI hV hW hVal h hl hc
    · exact atext_3 w B sv acc c v hI hV hW hVal h hl hc
    · exact atext_4 w B sv acc c v hI hV hW hVal h hl hc
    · exact atext_5 w B sv acc c v hI hV hW hVal h hl hc
    · exact atext_6 w B sv acc c v hI hV hW hVal h hl hc
    · exact atext_7 ih w B sv acc c v hI hV hW hVal h hl hc
    · exact atext_8 ih w B sv acc c v hI hV hW hVal h hl hc
    · exact atext_9 ih w B sv acc c v hI hV hW hVal h hl hc
    · exact atext_10 ih w B sv acc c v hI hV hW hVal h hl hc

/-- The text of a value. -/
theorem text_any {k : Nat} {t : PT} (w : World) (c : VC) (v : PV) (hP : PowT w) (hV : VR w Zero c v) (hW : WFT k t) (hVal : Valid k t v) (hl : (wText k v).length + 1000 ≤ 140737488355328) (hc : ∃ o n j, c.sv = .slice o n j) :
    Calls Tryz.prog 43 #[c.val] w fun e w' => Fr Zero w w' ∧ e = .returned (.string (ba (wText k v))) := by
  have HP := hide hP
  have hgl := hP.lt
  have HV := hide hV
  have HW := hide hW
  have HVal := hide hVal
  obtain ⟨ca, cn, cb, csv⟩ := c
  obtain ⟨o, n, j, hc⟩ := hc
  simp only at hc
  subst hc
  have HLen : Hid (([] : Bs).length + (wText k v).length + 1000 ≤ 140737488355328) := by show _ ≤ _; simp; omega
  clear hP hV hW hVal hl
  simp only [VC.val]
  have HI0 : Hid (TIn (w.alloc (.cells #[.pointer (some ca), .int .i64 cn, .string (ba cb), .slice o n j] 96)) w.heap.size (.slice none 0 0) []) :=
    ⟨BO.nil _ _, by simp, HP.out.keep (Fr.alloc Zero _ _) (fun h => h), hgl⟩
  have HV0 : Hid (VR (w.alloc (.cells #[.pointer (some ca), .int .i64 cn, .string (ba cb), .slice o n j] 96)) (From w.heap.size) ⟨ca, cn, cb, .slice o n j⟩ v) :=
    (HV.out.avoid (fun b hb e => by unfold From at e; omega)).keep (Fr.alloc _ _ _)
  go_enter Tryz.func43, Tryz.ntmps43
  go_wp2_with fail
  refine (appendText_all k _ w.heap.size (.slice none 0 0) [] ⟨ca, cn, cb, .slice o n j⟩ v t HI0 HV0 HW HVal HLen ⟨_, _, _, rfl⟩).mono ?_
  rintro e w2 ⟨hF2, sv2, rfl, hB2⟩
  have HF2 : Hid (Fr Zero w w2) := (Fr.alloc _ _ _).past hF2
  have hcv := hB2.conv
  rw [List.nil_append] at hcv
  clear hB2 hF2
  go_wp2_with fail
  go_ret
  exact ⟨HF2, rfl⟩

end Go.Proofs.YtdcjogpkogidaaaGreatDoor
