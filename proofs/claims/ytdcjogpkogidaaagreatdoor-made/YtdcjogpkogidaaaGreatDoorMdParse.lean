/- What description does. What Parse tells of a text. -/
import Derived.Test.YtdcjogpkogidaaaGreatDoorMdParts
namespace Go.Proofs.YtdcjogpkogidaaaGreatDoor
open Go.RowKit

structure DRes where
  ok : Bool
  n : Nat
  lines : List (ByteArray × PT)
  bad : Option Nat
  deep : Option Nat

def pDesc (s : ByteArray) : Nat → List (ByteArray × PT) → Nat → Option Nat → Option Nat → DRes
  | 0, lines, n, bad, deep => ⟨false, n, lines, bad, deep⟩
  | k + 1, lines, n, bad, deep =>
    let r := lineR s lines n bad
    if r.ok = false then ⟨false, r.n, lines, r.bad, deep⟩ else
    if r.n = s.size then ⟨true, r.n, lines ++ [(nameAt s n, r.t)], r.bad, lineDeep r n deep⟩ else
    if lines.length + 1 = 10 ∨ byteAt s r.n ≠ 10 then ⟨false, r.n, lines, r.bad, deep⟩ else
    pDesc s k (lines ++ [(nameAt s n, r.t)]) (r.n + 1) r.bad (lineDeep r n deep)

theorem pPart_depth (rd : Nat → Option Nat → Res) (D : Nat) (hrd : ∀ n bad, (rd n bad).t.depth ≤ D) (s : ByteArray) (others : List ByteArray) (sign n : Nat) (bad : Option Nat) : (pPart rd s others sign n bad).t.depth ≤ D := by
  unfold pPart
  split
  · exact Nat.zero_le _
  · split
    · exact hrd _ _
    · exact Nat.zero_le _
theorem pPart_ge2 (rd : Nat → Option Nat → Res) (hrd : ∀ n bad, n ≤ (rd n bad).n) (s : ByteArray) (others : List ByteArray) (sign n : Nat) (bad : Option Nat) : n ≤ (pPart rd s others sign n bad).n := by
  have hge := lettersTo_ge s 6 n
  unfold pPart
  split
  · exact hge
  · split
    · exact Nat.le_trans (Nat.le_trans hge (Nat.le_succ _)) (hrd _ _)
    · exact hge
theorem lineR_depth (s : ByteArray) (lines : List (ByteArray × PT)) (n : Nat) (bad : Option Nat) (D : Nat) (hD : ∀ q ∈ lines, q.2.depth ≤ D) : (lineR s lines n bad).t.depth ≤ D + 1 + (s.size + 1) :=
  pPart_depth (pTyp s lines (s.size + 1)) _ (pTyp_depth s lines D hD (s.size + 1)) s _ 61 n bad
theorem lineR_ge (s : ByteArray) (lines : List (ByteArray × PT)) (n : Nat) (bad : Option Nat) : n ≤ (lineR s lines n bad).n :=
  pPart_ge2 (pTyp s lines (s.size + 1)) (pTyp_ge s lines (s.size + 1)) s _ 61 n bad

/-- Where a parser stands. -/
def placeOf (pb : Nat) (w : World) : Nat := match w.cell? ⟨pb, 0, none⟩ with
  | some (.int _ q) => q.toNat
  | _ => 0
theorem PS.place {w : World} {X : Nat → Prop} {pb : Nat} {s : ByteArray} {n : Nat} {lv : Value} {lines : List (ByteArray × PT)} {bad deep : Option Nat} (h : PS w X pb s n lv lines bad deep) : placeOf pb w = n := by
  unfold placeOf; rw [h.at0]; simp

def DescPost (w : World) (B pb : Nat) (s : ByteArray) (d : DRes) (e : Ending) (w' : World) : Prop :=
  Fr (fun k => B ≤ k) w w' ∧ e = .returned (.bool d.ok) ∧ d.n ≤ s.size ∧ (d.ok = false → ∃ lv X lines bad deep, PS w' X pb s d.n lv lines bad deep) ∧
    (d.ok = true → ∃ lv, PS w' (XO (One pb) lv) pb s d.n lv d.lines d.bad d.deep ∧ d.lines ≠ [])

set_option maxHeartbeats 8000000 in
theorem description_any {w : World} {B pb : Nat} {s : ByteArray} {lv : Value} (h : PS w (XO (One pb) lv) pb s 0 lv [] none none) (hB1 : 4 < B) (hpb : B ≤ pb) (hlv : ∀ g, lv.ownBlock = some g → B ≤ g ∧ g ≠ pb) (hw : Words w) (hs : s.size ≤ 400) :
    Calls Tryz.prog 70 #[.pointer (some ⟨pb, 0, none⟩)] w fun e w' => DescPost w B pb s (pDesc s 10 [] 0 none none) e w' := by
  have hsm : s.size ≤ maxLen := by unfold maxLen; omega
  have HS := hide h
  have HW := hide hw
  have HLV := hide hlv
  clear h hw hlv
  go_enter Tryz.func70, Tryz.ntmps70
  go_wp2_with fail
  go_loopw [2] (fun v wr => v = .bool false ∧ ∃ (k n : Nat) (lines : List (ByteArray × PT)) (bad deep : Option Nat) (lv : Value), k + 1 + lines.length = 10 ∧ n ≤ s.size ∧ Hid (pDesc s 10 [] 0 none none = pDesc s (k + 1) lines n bad deep) ∧ Hid (PS wr (XO (One pb) lv) pb s n lv lines bad deep) ∧
      Hid (∀ g, lv.ownBlock = some g → B ≤ g ∧ g ≠ pb) ∧ Hid (Fr (fun k => B ≤ k) w wr) ∧ Hid (∀ q ∈ lines, q.2.depth ≤ 1000 * lines.length)) (fun _ wr => s.size + 1 - placeOf pb wr)
  case atStart => exact ⟨rfl, 9, 0, [], none, none, lv, rfl, Nat.zero_le _, rfl, HS, HLV, Fr.refl _ _, fun q hq => by simp at hq⟩
  case round =>
    obtain ⟨rfl, k, n, lines, bad, deep, lv', hk, hn, HP, HSr, HLr, HF, HD⟩ := hrel
    have HWr := hide (HW.out.keep HF.out (by omega))
    have HPL := hide HSr.out.place
    go_wp2_with fail
    refine (line_any HSr hpb HLr HWr hs hn (fun q hq => by have := HD.out q hq; omega) (by omega)).mono ?_
    have hrg := lineR_ge s lines n bad
    have HRD := hide (lineR_depth s lines n bad _ HD)
    have HST : Hid (pDesc s (k + 1) lines n bad deep = 
        if (lineR s lines n bad).ok = false then ⟨false, (lineR s lines n bad).n, lines, (lineR s lines n bad).bad, deep⟩ else
        if (lineR s lines n bad).n = s.size then ⟨true, (lineR s lines n bad).n, lines ++ [(nameAt s n, (lineR s lines n bad).t)], (lineR s lines n bad).bad, lineDeep (lineR s lines n bad) n deep⟩ else
        if lines.length + 1 = 10 ∨ byteAt s (lineR s lines n bad).n ≠ 10 then ⟨false, (lineR s lines n bad).n, lines, (lineR s lines n bad).bad, deep⟩ else
        pDesc s k (lines ++ [(nameAt s n, (lineR s lines n bad).t)]) ((lineR s lines n bad).n + 1) (lineR s lines n bad).bad (lineDeep (lineR s lines n bad) n deep)) := rfl
    generalize lineR s lines n bad = r at *
    rintro e w1 ⟨hF1, hrs, rfl, hno, hyes⟩
    have HF1 := hide (HF.out.trans hF1)
    clear hF1
    rcases hr : r.ok with _ | _
    · have HR : Hid (pDesc s 10 [] 0 none none = ⟨false, r.n, lines, r.bad, deep⟩) := HP.out.trans (by rw [HST.out, hr]; rfl)
      obtain ⟨lv1, X1, b1, d1, hS1⟩ := hno hr
      have HS1 := hide hS1
      clear hno hyes hr HST HP hS1
      go_wp2_with fail
      go_ret
      rw [HR.out]
      exact ⟨HF1, rfl, hrs, fun _ => ⟨lv1, X1, lines, b1, d1, HS1⟩, fun h => by cases h⟩
    · obtain ⟨lv1, hS1, hlv1⟩ := hyes hr
      have HST2 : Hid (pDesc s 10 [] 0 none none = 
          if r.n = s.size then ⟨true, r.n, lines ++ [(nameAt s n, r.t)], r.bad, lineDeep r n deep⟩ else
          if lines.length + 1 = 10 ∨ byteAt s r.n ≠ 10 then ⟨false, r.n, lines, r.bad, deep⟩ else
          pDesc s k (lines ++ [(nameAt s n, r.t)]) (r.n + 1) r.bad (lineDeep r n deep)) := HP.out.trans (by rw [HST.out, hr]; rfl)
      have HS1 := hide hS1
      have HL1 := hide hlv1
      have hX1 : XO (One pb) lv1 pb := .inl rfl
      have HD1 : Hid (∀ q ∈ lines ++ [(nameAt s n, r.t)], q.2.depth ≤ 1000 * (lines ++ [(nameAt s n, r.t)]).length) := fun q hq => by
        rw [List.length_append]
        rcases List.mem_append.1 hq with h | h
        · have := HD.out q h
          simp
          omega
        · simp at h
          subst h
          have := HRD.out
          simp
          omega
      clear hno hyes hr HST HP hS1 hlv1
      go_wp2_with fail
      refine (psEnded hX1 HS1 hsm hrs).mono ?_
      rintro e w2 ⟨rfl, hF2, hS2⟩
      have HF2 := hide (HF1.out.trans (hF2.mono (fun k _ e => by have e' : k = pb := e; omega)))
      have HS2 := hide hS2
      clear hF2 hS2
      by_cases hend : r.n = s.size
      · have HR : Hid (pDesc s 10 [] 0 none none = ⟨true, r.n, lines ++ [(nameAt s n, r.t)], r.bad, lineDeep r n deep⟩) := HST2.out.trans (by rw [if_pos hend])
        have hde : decide (r.n = s.size) = true := decide_eq_true hend
        rw [hde]
        clear hend hde HST2
        go_wp2_with fail
        go_ret
        rw [HR.out]
        exact ⟨HF2, rfl, hrs, (fun h => by cases h), fun _ => ⟨lv1, HS2, by simp⟩⟩
      · have HST3 : Hid (pDesc s 10 [] 0 none none = 
            if lines.length + 1 = 10 ∨ byteAt s r.n ≠ 10 then ⟨false, r.n, lines, r.bad, deep⟩ else
            pDesc s k (lines ++ [(nameAt s n, r.t)]) (r.n + 1) r.bad (lineDeep r n deep)) := HST2.out.trans (by rw [if_neg hend])
        have hde : decide (r.n = s.size) = false := decide_eq_false hend
        rw [hde]
        clear hend hde HST2
        obtain ⟨b2, t2, rows2, hP2, hO2, _, hL2, _, _⟩ := HS2.out
        have k2 := hP2.at2
        have hrl : rows2.length = lines.length + 1 := by rw [hL2.length, List.length_append]; rfl
        rcases hO2.2 with ⟨_, hz⟩ | ⟨g2, cap2, cur2, hv2, _⟩
        · omega
        · rw [hv2] at k2
          have HRL := hide hrl
          clear hP2 hO2 hL2 hrl
          by_cases h10 : lines.length + 1 = 10
          · have HR : Hid (pDesc s 10 [] 0 none none = ⟨false, r.n, lines, r.bad, deep⟩) := HST3.out.trans (by rw [if_pos (.inl h10)])
            have hq : ((rows2.length : Int) == 10) = true := beq_iff_eq.2 (by have := HRL.out; omega)
            have HV2 := hide hv2
            clear hv2 HST3 h10
            go_wp2_with fail
            go_ret
            rw [HR.out]
            exact ⟨HF2, rfl, hrs, (fun _ => ⟨lv1, _, _, _, _, HS2⟩), fun h => by cases h⟩
          · have hq : ((rows2.length : Int) == 10) = false := beq_eq_false_iff_ne.2 (by have := HRL.out; omega)
            have HV2 := hide hv2
            clear hv2
            by_cases hb : byteAt s r.n = 10
            · have HR : Hid (pDesc s 10 [] 0 none none = pDesc s k (lines ++ [(nameAt s n, r.t)]) (r.n + 1) r.bad (lineDeep r n deep)) := HST3.out.trans (by rw [if_neg (by omega)])
              have hbI : Hid ((byteAt s r.n : Int) = 10) := by show (byteAt s r.n : Int) = 10; omega
              have hr1 : r.n + 1 ≤ s.size := byteAt_in (by omega)
              have HK := hide h10
              clear hb HST3 h10
              go_wp2_with fail
              refine (psAccept_yes hX1 HS2 hsm 10 hbI (by omega)).mono ?_
              rintro e w3 ⟨rfl, hF3, hS3⟩
              have HF3 := hide (HF2.out.trans (hF3.mono (fun k _ e => by have e' : k = pb := e; omega)))
              have HS3 := hide hS3
              clear hF3 hS3
              go_wp2_with fail
              go_roundw
              case rel =>
                have := HK.out
                refine ⟨rfl, k - 1, r.n + 1, lines ++ [(nameAt s n, r.t)], r.bad, lineDeep r n deep, lv1, by rw [List.length_append]; simp; omega, hr1, ?_, HS3, HL1, HF3, HD1⟩
                rw [show k - 1 + 1 = k by omega]
                exact HR
              case measure =>
                rw [HPL.out, HS3.out.place]
                omega
            · have HR : Hid (pDesc s 10 [] 0 none none = ⟨false, r.n, lines, r.bad, deep⟩) := HST3.out.trans (by rw [if_pos (.inr hb)])
              have hbI : Hid ((byteAt s r.n : Int) ≠ 10) := fun e => hb (by omega)
              clear hb HST3 h10
              go_wp2_with fail
              refine (psAccept_no hX1 HS2 hsm hrs 10 hbI).mono ?_
              rintro e w3 ⟨rfl, hF3, hS3⟩
              have HF3 := hide (HF2.out.trans (hF3.mono (fun k _ e => by have e' : k = pb := e; omega)))
              have HS3 := hide hS3
              clear hF3 hS3
              go_wp2_with fail
              go_ret
              rw [HR.out]
              exact ⟨HF3, rfl, hrs, (fun _ => ⟨lv1, _, _, _, _, HS3⟩), fun h => by cases h⟩

end Go.Proofs.YtdcjogpkogidaaaGreatDoor

namespace Go.Proofs.YtdcjogpkogidaaaGreatDoor
open Go.RowKit

theorem newReader_any (s : ByteArray) (w : World) :
    Calls Tryz.prog 69 #[.string s] w fun e w' => e = .returned (.agg #[.int .i64 0, .string s]) ∧ Fr Zero w w' := by
  go_enter Tryz.func69, Tryz.ntmps69
  go_wp2_with fail
  exact bodyPost_ret (v := .agg #[.int .i64 0, .string s]) (by simp [results, Tryz.results69, go_sem]) rfl ⟨rfl, Fr.alloc _ _ _⟩

theorem pDesc_lines (s : ByteArray) : ∀ (k : Nat) (lines : List (ByteArray × PT)) (n : Nat) (bad deep : Option Nat), (pDesc s k lines n bad deep).lines.length ≤ lines.length + k := by
  intro k
  induction k with
  | zero => intro lines n bad deep; exact Nat.le_refl _
  | succ k ih =>
    intro lines n bad deep
    simp only [pDesc]
    split
    · show lines.length ≤ _; omega
    · split
      · show (lines ++ [_]).length ≤ _
        rw [List.length_append]; simp only [List.length_cons, List.length_nil]; omega
      · split
        · show lines.length ≤ _; omega
        · refine Nat.le_trans (ih _ _ _ _) ?_
          rw [List.length_append]; simp only [List.length_cons, List.length_nil]; omega

/-- What a text is: 0, or an error and its place; its type. -/
def checkP (s : ByteArray) : Nat × Nat :=
  if 400 < s.size then (1, 0) else
  if (pDesc s 10 [] 0 none none).ok = false then (2, (pDesc s 10 [] 0 none none).n) else
  match (pDesc s 10 [] 0 none none).bad with
  | some m => (3, m)
  | none => match (pDesc s 10 [] 0 none none).deep with
    | some m => (4, m)
    | none => (0, 0)
def typeP (s : ByteArray) : PT := (((pDesc s 10 [] 0 none none).lines.getLast?).map (·.2)).getD PT.dummy

def ParsePost (w : World) (s : ByteArray) (e : Ending) (w' : World) : Prop :=
  Fr Zero w w' ∧ (checkP s = (0, 0) → ∃ a, e = .returned (.tuple #[.pointer (some a), .nilIface]) ∧ TR w' Zero a (typeP s)) ∧
    (∀ errno at', checkP s = (errno, at') → errno ≠ 0 → ∃ b, e = .returned (.tuple #[.pointer none, .iface 89 (.pointer (some ⟨b, 0, none⟩))]) ∧ w'.heap[b]? = some (.cells #[.int .i64 errno, .int .i64 at'] 93 (0, 0)))

theorem PS.start (w : World) (s : ByteArray) : PS (w.alloc (.cells #[.int .i64 0, .string s, .slice none 0 0, .pointer none, .pointer none] 144)) (XO (One w.heap.size) (.slice none 0 0)) w.heap.size s 0 (.slice none 0 0) [] none none :=
  ⟨.pointer none, .pointer none, [], heap_new_at rfl _, World.ownsRow_nil _ _ _ _, fun g hg => by simp [Value.ownBlock] at hg, ⟨rfl, fun j p q hp => by simp at hp⟩, rfl, rfl⟩

theorem Words.one {w : World} (h : Words w) : 4 < w.heap.size := (World.block_lt_of_cell? w _ (h 0 (by omega)) : 4 < w.heap.size)

theorem parse_long (s : ByteArray) (w : World) (hl : 400 < s.size) (hs : s.size ≤ maxLen) :
    Calls Tryz.prog 30 #[.string s] w fun e w' => ParsePost w s e w' := by
  unfold maxLen at hs
  have hC : Hid (checkP s = (1, 0)) := by show checkP s = _; unfold checkP; rw [if_pos hl]
  go_enter Tryz.func30, Tryz.ntmps30
  go_wp2_with fail
  go_ret2
  refine ⟨Fr.alloc _ _ _, fun h => ?_, fun errno at' h _ => ?_⟩
  · rw [hC.out] at h; cases h
  · rw [hC.out] at h
    cases h
    exact ⟨w.heap.size, rfl, heap_new_at rfl _⟩

set_option maxHeartbeats 8000000 in
theorem parse_short (s : ByteArray) (w : World) (hl : s.size ≤ 400) (hw : Words w) :
    Calls Tryz.prog 30 #[.string s] w fun e w' => ParsePost w s e w' := by
  have h1 := hw.one
  have hni : ¬ ((400 : Int) < (s.size : Int)) := by omega
  have HW := hide hw
  clear hw
  go_enter Tryz.func30, Tryz.ntmps30
  go_wp2_with fail
  refine (newReader_any s _).mono ?_
  rintro e w1 ⟨rfl, hF1⟩
  have HF1 := hide hF1
  clear hF1
  go_wp2_with fail
  refine (description_any (B := w.heap.size) (PS.start w1 s) h1 HF1.out.size (fun g hg => by simp [Value.ownBlock] at hg) (HW.out.keep (HF1.out.trans (Fr.alloc _ _ _)) (fun h => h)) hl).mono ?_
  have HC : Hid (checkP s = if (pDesc s 10 [] 0 none none).ok = false then (2, (pDesc s 10 [] 0 none none).n) else
      match (pDesc s 10 [] 0 none none).bad with
      | some m => (3, m)
      | none => match (pDesc s 10 [] 0 none none).deep with
        | some m => (4, m)
        | none => (0, 0)) := by show checkP s = _; unfold checkP; rw [if_neg (by omega)]
  have hl10 := pDesc_lines s 10 [] 0 none none
  simp only [List.length_nil, Nat.zero_add] at hl10
  have HTy : Hid (typeP s = (((pDesc s 10 [] 0 none none).lines.getLast?).map (·.2)).getD PT.dummy) := rfl
  generalize pDesc s 10 [] 0 none none = d at *
  rintro e w2 ⟨hF2, rfl, hdn, hno, hyes⟩
  have HF2 : Hid (Fr Zero w w2) := (HF1.out.trans (Fr.alloc _ _ _)).past hF2
  clear hF2
  rcases hr : d.ok with _ | _
  · obtain ⟨lv, X, lines, bad, deep, hS⟩ := hno hr
    have c0 := hS.at0
    have HR : Hid (checkP s = (2, d.n)) := HC.out.trans (by rw [hr]; rfl)
    clear hno hyes hr HC hS
    go_wp2_with fail
    refine (at_any w1.heap.size d.n _ c0).mono ?_
    rintro e w3 ⟨rfl, e3⟩
    obtain rfl := e3.symm
    go_wp2_with fail
    go_ret2
    refine ⟨HF2.out.trans (Fr.alloc _ _ _), fun h => ?_, fun errno at' h _ => ?_⟩
    · rw [HR.out] at h; cases h
    · rw [HR.out] at h
      cases h
      exact ⟨w2.heap.size, rfl, heap_new_at rfl _⟩
  · obtain ⟨lv, ⟨bn, td, rows, hP, hO, hlx, hL, hb, hd⟩, hne⟩ := hyes hr
    have HC2 : Hid (checkP s = match d.bad with
        | some m => (3, m)
        | none => match d.deep with
          | some m => (4, m)
          | none => (0, 0)) := HC.out.trans (by rw [hr]; rfl)
    have k2 := hP.at2
    have k3 := hP.at3
    have k4 := hP.at4
    clear hno hyes hr HC hP hlx
    rcases hbd : d.bad with _ | m
    · rw [hbd] at hb
      have e1 : bn = .pointer none := hb
      subst e1
      rcases hdp : d.deep with _ | m
      · rw [hdp] at hd
        have e2 : td = .pointer none := hd
        subst e2
        have HR : Hid (checkP s = (0, 0)) := HC2.out.trans (by rw [hbd, hdp])
        clear hb hd hbd hdp HC2
        have hlen := hL.length
        have hlpos : 0 < d.lines.length := List.length_pos_iff.2 hne
        obtain ⟨m, hm⟩ : ∃ m, rows.length = m + 1 := ⟨rows.length - 1, by omega⟩
        obtain ⟨p, hp⟩ : ∃ p, rows[m]? = some p := ⟨rows[m]'(by omega), by simp⟩
        obtain ⟨q, hq⟩ : ∃ q, d.lines[m]? = some q := ⟨d.lines[m]'(by omega), by simp⟩
        have ht := hL.2 m p q hp hq
        have HTT : Hid (typeP s = q.2) := by
          show typeP s = q.2
          rw [HTy.out, List.getLast?_eq_getElem?, show d.lines.length - 1 = m by omega, hq]
          rfl
        have HTR := hide (ht.avoid (Y := Zero) (fun b _ h => h.elim))
        rcases hO.2 with ⟨_, hz⟩ | ⟨g, cap, cur, hv, _⟩
        · omega
        · subst hv
          rw [hm] at hO k2
          have hc : w2.cell? ⟨g, m * 2 + 1, none⟩ = some (.pointer (some p.2)) := by
            rw [hO.cellAt (m * 2 + 1) (by omega)]
            exact (rowCells_get rows m p hp).2
          have hmI : (m : Int) < 10 := by omega
          clear hO hL hne hlen hlpos hm hp hq ht HTy
          go_wp2_with fail
          go_ret2
          refine ⟨HF2, fun _ => ⟨p.2, rfl, by rw [HTT.out]; exact HTR⟩, fun errno at' h h0 => ?_⟩
          rw [HR.out] at h
          cases h
          exact absurd rfl h0
      · rw [hdp] at hd
        obtain ⟨b, rfl, hbk⟩ := hd
        have HR : Hid (checkP s = (4, m)) := HC2.out.trans (by rw [hbd, hdp])
        have HB := hide hbk
        clear hb hbk hbd hdp HC2
        go_wp2_with fail
        go_quiet (fail)
        go_wp2_with fail
        go_ret2
        refine ⟨HF2.out.trans (Fr.drewN _ _ _), fun h => ?_, fun errno at' h _ => ?_⟩
        · rw [HR.out] at h; cases h
        · rw [HR.out] at h
          cases h
          exact ⟨b, rfl, HB⟩
    · rw [hbd] at hb
      obtain ⟨b, rfl, hbk⟩ := hb
      have HR : Hid (checkP s = (3, m)) := HC2.out.trans (by rw [hbd])
      have HB := hide hbk
      clear hd hbk hbd HC2
      go_wp2_with fail
      go_quiet (fail)
      go_wp2_with fail
      go_ret2
      refine ⟨HF2.out.trans (Fr.drewN _ _ _), fun h => ?_, fun errno at' h _ => ?_⟩
      · rw [HR.out] at h; cases h
      · rw [HR.out] at h
        cases h
        exact ⟨b, rfl, HB⟩

end Go.Proofs.YtdcjogpkogidaaaGreatDoor
