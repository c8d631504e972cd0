/- The two readers' pure functions, held against each other: names and parts. -/
import Derived.Test.YtapblkmlhoalgaaDoorPure
namespace Go.Proofs.YtapblkmlhoalgaaDoor

theorem dupFrom_iff (l : List ByteArray) (k : Nat) : ∀ m j, dupFrom l k m j = true ↔ ∃ i, j ≤ i ∧ i < j + m ∧ textAt l i = textAt l k := by
  intro m
  induction m with
  | zero => intro j; simp [dupFrom]; intro i h1 h2; omega
  | succ m ih =>
    intro j
    simp only [dupFrom, Bool.or_eq_true, decide_eq_true_eq, ih]
    constructor
    · rintro (h | ⟨i, h1, h2, h3⟩)
      · exact ⟨j, Nat.le_refl _, by omega, h⟩
      · exact ⟨i, by omega, by omega, h3⟩
    · rintro ⟨i, h1, h2, h3⟩
      by_cases e : i = j
      · subst e; exact .inl h3
      · exact .inr ⟨i, by omega, by omega, h3⟩
theorem textAt_app {l : List ByteArray} {nm : ByteArray} {i : Nat} (h : i < l.length) : textAt (l ++ [nm]) i = textAt l i := by unfold textAt; rw [List.getElem?_append_left h]
theorem textAt_last (l : List ByteArray) (nm : ByteArray) : textAt (l ++ [nm]) l.length = nm := by unfold textAt; simp
theorem numAt_app {l : List Nat} {a : Nat} {i : Nat} (h : i < l.length) : numAt (l ++ [a]) i = numAt l i := by unfold numAt; rw [List.getElem?_append_left h]
theorem numAt_last (l : List Nat) (a : Nat) : numAt (l ++ [a]) l.length = a := by unfold numAt; simp
theorem dup_last (l : List ByteArray) (nm : ByteArray) : dup (l ++ [nm]) l.length = l.any (fun x => decide (x = nm)) := by
  rw [Bool.eq_iff_iff]
  unfold dup
  have he : (l ++ [nm]).isEmpty = false := by cases l <;> rfl
  rw [he]
  simp only [Bool.not_false, Bool.true_and, dupFrom_iff, textAt_last, List.any_eq_true, decide_eq_true_eq]
  constructor
  · rintro ⟨i, _, h2, h3⟩
    have hi : i < l.length := by omega
    rw [textAt_app hi] at h3
    exact ⟨textAt l i, by unfold textAt; simp [hi], h3⟩
  · rintro ⟨x, hx, rfl⟩
    obtain ⟨i, hi⟩ := List.getElem?_of_mem hx
    have hil := (List.getElem?_eq_some_iff.1 hi).1
    exact ⟨i, Nat.zero_le _, by omega, by rw [textAt_app hil]; unfold textAt; rw [hi]; rfl⟩
theorem dup_app {l : List ByteArray} {nm : ByteArray} {k : Nat} (h : k < l.length) : dup (l ++ [nm]) k = dup l k := by
  rw [Bool.eq_iff_iff]
  unfold dup
  have he : (l ++ [nm]).isEmpty = false := by cases l <;> rfl
  have he2 : l.isEmpty = false := by cases l with | nil => simp at h | cons _ _ => rfl
  rw [he, he2]
  simp only [Bool.not_false, Bool.true_and, dupFrom_iff]
  constructor
  · rintro ⟨i, h1, h2, h3⟩
    rw [textAt_app (by omega), textAt_app h] at h3
    exact ⟨i, h1, h2, h3⟩
  · rintro ⟨i, h1, h2, h3⟩
    exact ⟨i, h1, h2, by rw [textAt_app (by omega), textAt_app h]; exact h3⟩

theorem wLoop_snoc {vs vs' : List (Nat × Option Nat)} {t : RT} {x a : Nat} {nm : ByteArray} (hn : t.names.length = t.of.length) (ha : t.ats.length = t.of.length) (hv : ∀ y ∈ t.of, vAt vs' y = vAt vs y) :
    ∀ m k, k + m = t.of.length → wLoop vs' ⟨t.kind, t.of ++ [x], t.names ++ [nm], t.ats ++ [a]⟩ (m + 1) k = orO (wLoop vs t m k) (if t.names.any (fun z => decide (z = nm)) = true then some a else (vAt vs' x).2) := by
  intro m
  induction m with
  | zero =>
    intro k hk
    have hkl : k = t.of.length := by omega
    subst hkl
    have e1 : dup (t.names ++ [nm]) t.of.length = t.names.any (fun z => decide (z = nm)) := by rw [← hn]; exact dup_last _ _
    have e2 : numAt (t.ats ++ [a]) t.of.length = a := by rw [← ha]; exact numAt_last _ _
    simp only [wLoop, e1, e2, numAt_last, orO]
    split
    · rfl
    · cases (vAt vs' x).2 <;> rfl
  | succ m ih =>
    intro k hk
    have hkl : k < t.of.length := by omega
    have e1 : dup (t.names ++ [nm]) k = dup t.names k := dup_app (by omega)
    have e2 : numAt (t.ats ++ [a]) k = numAt t.ats k := numAt_app (by omega)
    have e3 : numAt (t.of ++ [x]) k = numAt t.of k := numAt_app hkl
    have e4 : vAt vs' (numAt t.of k) = vAt vs (numAt t.of k) := hv _ (by unfold numAt; simp [hkl])
    have hi := ih (k + 1) (by omega)
    rw [wLoop]
    simp only [e1, e2, e3, e4]
    rw [show wLoop vs t (m + 1) k = (if dup t.names k = true then some (numAt t.ats k) else match (vAt vs (numAt t.of k)).2 with | some a => some a | none => wLoop vs t m (k + 1)) from rfl]
    split
    · rfl
    · cases (vAt vs (numAt t.of k)).2 with
      | some b => rfl
      | none => exact hi

def TypJ (s : ByteArray) (lines : List (ByteArray × PT)) (f g : Nat) : Prop := ∀ (n : Nat) (bad : Option Nat) (tab : List RT) (lo : Nat), lo ≤ tab.length → RowsOK lo tab → n ≤ s.size → s.size < n + f → s.size < n + g → J s lines tab lo bad (pTyp s lines f n bad) (rTyp s g ⟨n, false, tab⟩)

theorem part_joint {s : ByteArray} {lines : List (ByteArray × PT)} {f g : Nat} (hT : TypJ s lines f g) (n : Nat) (bad : Option Nat) (tab : List RT) (lo : Nat) (others : List ByteArray) (sign : Nat) (hsg : sign < 97) (hlo : lo ≤ tab.length) (hok : RowsOK lo tab) (hn : n ≤ s.size) (hf : s.size < n + 1 + f) (hg : s.size < n + 1 + g) :
    (pPart (pTyp s lines f) s others sign n bad).n = (rTyp s g (rMust s sign ⟨wordN s n false, nameB s n false, tab⟩)).1.n ∧ (pPart (pTyp s lines f) s others sign n bad).n ≤ s.size ∧
    (((pPart (pTyp s lines f) s others sign n bad).ok = true ∧ (rTyp s g (rMust s sign ⟨wordN s n false, nameB s n false, tab⟩)).1.bad = false ∧ wordS s n false = nameAt s n ∧ Good lines tab lo (nameBad s others n bad) (pPart (pTyp s lines f) s others sign n bad) (rTyp s g (rMust s sign ⟨wordN s n false, nameB s n false, tab⟩))) ∨
     ((rTyp s g (rMust s sign ⟨wordN s n false, nameB s n false, tab⟩)).1.bad = true ∧ ((pPart (pTyp s lines f) s others sign n bad).ok = false ∨ isLetter s (pPart (pTyp s lines f) s others sign n bad).n = true))) := by
  have hge := lettersTo_ge s 6 n
  have hle := lettersTo_le s 6 n hn
  have eN : wordN s n false = lettersTo s n 6 := rfl
  rw [eN]
  by_cases htm : tooMany s n = true
  · have hN : nameB s n false = true := by simp [nameB, wordB, htm]
    rw [hN, rMust_bad, rTyp_bad]
    have h6 : lettersTo s n 6 = n + 6 ∧ isLetter s (n + 6) = true := by unfold tooMany at htm; simpa using htm
    have hno : nameOk s n = true := by
      unfold nameOk
      rw [name6 h6.1 (by omega)]
      simp
      omega
    have hp : pPart (pTyp s lines f) s others sign n bad = noRes (lettersTo s n 6) (nameBad s others n bad) := by
      unfold pPart
      rw [if_neg (by rw [hno]; simp), if_neg (by rw [h6.1]; exact letter_ne h6.2 (.inl hsg))]
    rw [hp]
    exact ⟨rfl, hle, .inr ⟨rfl, .inl rfl⟩⟩
  · have htm' : tooMany s n = false := by simpa using htm
    have hws : wordS s n false = nameAt s n := by simp [wordS, htm']
    have hnb : nameB s n false = !(nameOk s n) := by
      unfold nameB wordB nameOk
      rw [hws, htm']
      cases h : wordIdx (nameAt s n) <;> simp
    rcases hno : nameOk s n with _ | _
    · rw [hnb, hno]
      simp only [Bool.not_false]
      rw [rMust_bad, rTyp_bad]
      have hp : pPart (pTyp s lines f) s others sign n bad = noRes (lettersTo s n 6) bad := by unfold pPart; rw [if_pos hno]
      rw [hp]
      exact ⟨rfl, hle, .inr ⟨rfl, .inl rfl⟩⟩
    · rw [hnb, hno]
      simp only [Bool.not_true]
      by_cases hc : byteAt s (lettersTo s n 6) = sign
      · rw [rMust_yes tab hc]
        have hp : pPart (pTyp s lines f) s others sign n bad = pTyp s lines f (lettersTo s n 6 + 1) (nameBad s others n bad) := by
          unfold pPart
          rw [if_neg (by rw [hno]; simp), if_pos hc]
        rw [hp]
        have hm1 : lettersTo s n 6 + 1 ≤ s.size := byteAt_in (by omega)
        obtain ⟨h1, h2, h3⟩ := hT (lettersTo s n 6 + 1) (nameBad s others n bad) tab lo hlo hok hm1 (by omega) (by omega)
        refine ⟨h1, h2, ?_⟩
        rcases h3 with ⟨h4, h5, h6⟩ | h3
        · exact .inl ⟨h4, h5, hws, h6⟩
        · exact .inr h3
      · rw [rMust_no tab hc, rTyp_bad]
        have hp : pPart (pTyp s lines f) s others sign n bad = noRes (lettersTo s n 6) (nameBad s others n bad) := by
          unfold pPart
          rw [if_neg (by rw [hno]; simp), if_neg hc]
        rw [hp]
        exact ⟨rfl, hle, .inr ⟨rfl, .inl rfl⟩⟩

end Go.Proofs.YtapblkmlhoalgaaDoor
