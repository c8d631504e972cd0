/- What Parse tells of a text. -/
import Derived.Test.YtapblkmlhoalgaaGreatDoorDescr
namespace Go.Proofs.YtapblkmlhoalgaaGreatDoor
open Go.RowKit

theorem newReader_any (s : ByteArray) (w : World) :
    Calls Tryz.prog 52 #[.string s] w fun e w' => e = .returned (.agg #[.int .i64 0, .string s]) ∧ Fr Zero w w' := by
  go_enter Tryz.func52, Tryz.ntmps52
  go_wp2_with fail
  exact bodyPost_ret (v := .agg #[.int .i64 0, .string s]) (by simp [results, Tryz.results52, go_sem]) rfl ⟨rfl, Fr.alloc _ _ _⟩

theorem pDesc_lines (s : ByteArray) : ∀ (k : Nat) (lines : List (ByteArray × PT)) (n : Nat) (bad deep : Option Nat), (pDesc s k lines n bad deep).lines.length ≤ lines.length + k := by
  intro k
  induction k with
  | zero => intro lines n bad deep; exact Nat.le_refl _
  | succ k ih =>
    intro lines n bad deep
    simp only [pDesc]
    split
    · show lines.length ≤ _; omega
    · split
      · show (lines ++ [_]).length ≤ _
        rw [List.length_append]; simp only [List.length_cons, List.length_nil]; omega
      · split
        · show lines.length ≤ _; omega
        · refine Nat.le_trans (ih _ _ _ _) ?_
          rw [List.length_append]; simp only [List.length_cons, List.length_nil]; omega

/-- What a text is: 0, or an error and its place; its type. -/
def checkP (s : ByteArray) : Nat × Nat :=
  if 400 < s.size then (1, 0) else
  if (pDesc s 10 [] 0 none none).ok = false then (2, (pDesc s 10 [] 0 none none).n) else
  match (pDesc s 10 [] 0 none none).bad with
  | some m => (3, m)
  | none => match (pDesc s 10 [] 0 none none).deep with
    | some m => (4, m)
    | none => (0, 0)
def typeP (s : ByteArray) : PT := (((pDesc s 10 [] 0 none none).lines.getLast?).map (·.2)).getD PT.dummy

def ParsePost (w : World) (s : ByteArray) (e : Ending) (w' : World) : Prop :=
  Fr Zero w w' ∧ (checkP s = (0, 0) → ∃ a, e = .returned (.tuple #[.pointer (some a), .nilIface]) ∧ TR w' Zero a (typeP s)) ∧
    (∀ errno at', checkP s = (errno, at') → errno ≠ 0 → ∃ b, e = .returned (.tuple #[.pointer none, .iface 110 (.pointer (some ⟨b, 0, none⟩))]) ∧ w'.heap[b]? = some (.cells #[.int .i64 errno, .int .i64 at'] 114 (0, 0)))

theorem PS.start (w : World) (s : ByteArray) : PS (w.alloc (.cells #[.int .i64 0, .string s, .slice none 0 0, .pointer none, .pointer none] 178)) (XO (One w.heap.size) (.slice none 0 0)) w.heap.size s 0 (.slice none 0 0) [] none none :=
  ⟨.pointer none, .pointer none, [], heap_new_at rfl _, World.ownsRow_nil _ _ _ _, fun g hg => by simp [Value.ownBlock] at hg, ⟨rfl, fun j p q hp => by simp at hp⟩, rfl, rfl⟩

theorem Fr.toZero {w w1 w2 : World} (h : Fr Zero w w1) (k : Fr (fun b => w.heap.size ≤ b) w1 w2) : Fr Zero w w2 := h.past k

theorem Words.one {w : World} (h : Words w) : 5 < w.heap.size := (World.block_lt_of_cell? w _ (h 0 (by omega)) : 5 < w.heap.size)

theorem parse_long (s : ByteArray) (w : World) (hl : 400 < s.size) (hs : s.size ≤ maxLen) :
    Calls Tryz.prog 50 #[.string s] w fun e w' => ParsePost w s e w' := by
  unfold maxLen at hs
  have hC : Hid (checkP s = (1, 0)) := by show checkP s = _; unfold checkP; rw [if_pos hl]
  go_enter Tryz.func50, Tryz.ntmps50
  go_wp2_with fail
  go_ret2
  refine ⟨Fr.alloc _ _ _, fun h => ?_, fun errno at' h _ => ?_⟩
  · rw [hC.out] at h; cases h
  · rw [hC.out] at h
    cases h
    exact ⟨w.heap.size, rfl, heap_new_at rfl _⟩

set_option maxHeartbeats 8000000 in
theorem parse_short (s : ByteArray) (w : World) (hl : s.size ≤ 400) (hw : Words w) :
    Calls Tryz.prog 50 #[.string s] w fun e w' => ParsePost w s e w' := by
  have h1 := hw.one
  have hni : ¬ ((400 : Int) < (s.size : Int)) := by omega
  have HW := hide hw
  clear hw
  go_enter Tryz.func50, Tryz.ntmps50
  go_wp2_with fail
  refine (newReader_any s _).mono ?_
  rintro e w1 ⟨rfl, hF1⟩
  have HF1 := hide hF1
  clear hF1
  go_wp2_with fail
  refine (description_any (B := w.heap.size) (PS.start w1 s) h1 HF1.out.size (fun g hg => by simp [Value.ownBlock] at hg) (HW.out.keep (HF1.out.trans (Fr.alloc _ _ _)) (fun h => h)) hl).mono ?_
  have HC : Hid (checkP s = if (pDesc s 10 [] 0 none none).ok = false then (2, (pDesc s 10 [] 0 none none).n) else
      match (pDesc s 10 [] 0 none none).bad with
      | some m => (3, m)
      | none => match (pDesc s 10 [] 0 none none).deep with
        | some m => (4, m)
        | none => (0, 0)) := by show checkP s = _; unfold checkP; rw [if_neg (by omega)]
  have hl10 := pDesc_lines s 10 [] 0 none none
  simp only [List.length_nil, Nat.zero_add] at hl10
  have HTy : Hid (typeP s = (((pDesc s 10 [] 0 none none).lines.getLast?).map (·.2)).getD PT.dummy) := rfl
  generalize pDesc s 10 [] 0 none none = d at *
  rintro e w2 ⟨hF2, rfl, hdn, hno, hyes⟩
  have HF2 : Hid (Fr Zero w w2) := (HF1.out.trans (Fr.alloc _ _ _)).past hF2
  clear hF2
  rcases hr : d.ok with _ | _
  · obtain ⟨lv, X, lines, bad, deep, hS⟩ := hno hr
    have c0 := hS.at0
    have HR : Hid (checkP s = (2, d.n)) := HC.out.trans (by rw [hr]; rfl)
    clear hno hyes hr HC hS
    go_wp2_with fail
    refine (at_any w1.heap.size d.n _ c0).mono ?_
    rintro e w3 ⟨rfl, e3⟩
    obtain rfl := e3.symm
    go_wp2_with fail
    go_ret2
    refine ⟨HF2.out.trans (Fr.alloc _ _ _), fun h => ?_, fun errno at' h _ => ?_⟩
    · rw [HR.out] at h; cases h
    · rw [HR.out] at h
      cases h
      exact ⟨w2.heap.size, rfl, heap_new_at rfl _⟩
  · obtain ⟨lv, ⟨bn, td, rows, hP, hO, hlx, hL, hb, hd⟩, hne⟩ := hyes hr
    have HC2 : Hid (checkP s = match d.bad with
        | some m => (3, m)
        | none => match d.deep with
          | some m => (4, m)
          | none => (0, 0)) := HC.out.trans (by rw [hr]; rfl)
    have k2 := hP.at2
    have k3 := hP.at3
    have k4 := hP.at4
    clear hno hyes hr HC hP hlx
    rcases hbd : d.bad with _ | m
    · rw [hbd] at hb
      have e1 : bn = .pointer none := hb
      subst e1
      rcases hdp : d.deep with _ | m
      · rw [hdp] at hd
        have e2 : td = .pointer none := hd
        subst e2
        have HR : Hid (checkP s = (0, 0)) := HC2.out.trans (by rw [hbd, hdp])
        clear hb hd hbd hdp HC2
        have hlen := hL.length
        have hlpos : 0 < d.lines.length := List.length_pos_iff.2 hne
        obtain ⟨m, hm⟩ : ∃ m, rows.length = m + 1 := ⟨rows.length - 1, by omega⟩
        obtain ⟨p, hp⟩ : ∃ p, rows[m]? = some p := ⟨rows[m]'(by omega), by simp⟩
        obtain ⟨q, hq⟩ : ∃ q, d.lines[m]? = some q := ⟨d.lines[m]'(by omega), by simp⟩
        have ht := hL.2 m p q hp hq
        have HTT : Hid (typeP s = q.2) := by
          show typeP s = q.2
          rw [HTy.out, List.getLast?_eq_getElem?, show d.lines.length - 1 = m by omega, hq]
          rfl
        have HTR := hide (ht.avoid (Y := Zero) (fun b _ h => h.elim))
        rcases hO.2 with ⟨_, hz⟩ | ⟨g, cap, cur, hv, _⟩
        · omega
        · subst hv
          rw [hm] at hO k2
          have hc : w2.cell? ⟨g, m * 2 + 1, none⟩ = some (.pointer (some p.2)) := by
            rw [hO.cellAt (m * 2 + 1) (by omega)]
            exact (rowCells_get rows m p hp).2
          have hmI : (m : Int) < 10 := by omega
          clear hO hL hne hlen hlpos hm hp hq ht HTy
          go_wp2_with fail
          go_ret2
          refine ⟨HF2, fun _ => ⟨p.2, rfl, by rw [HTT.out]; exact HTR⟩, fun errno at' h h0 => ?_⟩
          rw [HR.out] at h
          cases h
          exact absurd rfl h0
      · rw [hdp] at hd
        obtain ⟨b, rfl, hbk⟩ := hd
        have HR : Hid (checkP s = (4, m)) := HC2.out.trans (by rw [hbd, hdp])
        have HB := hide hbk
        clear hb hbk hbd hdp HC2
        go_wp2_with fail
        go_quiet (fail)
        go_wp2_with fail
        go_ret2
        refine ⟨HF2.out.trans (Fr.drewN _ _ _), fun h => ?_, fun errno at' h _ => ?_⟩
        · rw [HR.out] at h; cases h
        · rw [HR.out] at h
          cases h
          exact ⟨b, rfl, HB⟩
    · rw [hbd] at hb
      obtain ⟨b, rfl, hbk⟩ := hb
      have HR : Hid (checkP s = (3, m)) := HC2.out.trans (by rw [hbd])
      have HB := hide hbk
      clear hd hbk hbd HC2
      go_wp2_with fail
      go_quiet (fail)
      go_wp2_with fail
      go_ret2
      refine ⟨HF2.out.trans (Fr.drewN _ _ _), fun h => ?_, fun errno at' h _ => ?_⟩
      · rw [HR.out] at h; cases h
      · rw [HR.out] at h
        cases h
        exact ⟨b, rfl, HB⟩

end Go.Proofs.YtapblkmlhoalgaaGreatDoor
