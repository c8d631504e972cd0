/- The two readers' pure functions, held against each other: descriptions. -/
import Derived.Test.YtapblkmlhoalgaaDoorPure4
namespace Go.Proofs.YtapblkmlhoalgaaDoor

theorem Inv.root {d : RD} {lines : List (ByteArray × PT)} {bad deep : Option Nat} (h : Inv d lines bad deep) : ∀ j, j < lines.length → numAt d.roots j < d.tab.length := fun j hj => by
  obtain ⟨lo, _, h2, _⟩ := h.seg j hj
  exact h2

theorem letter_end (s : ByteArray) (h : isLetter s s.size = true) : False := by
  unfold isLetter byteAt at h
  simp at h

theorem feed_yes {s : ByteArray} {d : RD} (hb : d.bad = false) (h : byteAt s d.n = 10) : rFeed s d = ⟨d.n + 1, false, d.tab, d.lines, d.ats, d.roots⟩ := by
  simp [rFeed, mustN, mustB, rIs, h, hb]
theorem feed_no {s : ByteArray} {d : RD} (hb : d.bad = false) (h : ¬ byteAt s d.n = 10) : rFeed s d = ⟨d.n, true, d.tab, d.lines, d.ats, d.roots⟩ := by
  simp [rFeed, mustN, mustB, rIs, h, hb]

theorem desc_joint (s : ByteArray) : ∀ (k : Nat) (d : RD) (lines : List (ByteArray × PT)) (bad deep : Option Nat), k + lines.length = 10 → 0 < k → d.bad = false → d.n ≤ s.size → Inv d lines bad deep →
    (pDesc s k lines d.n bad deep).n = (rDesc s k d).n ∧ (((pDesc s k lines d.n bad deep).ok = true ∧ (rDesc s k d).bad = false ∧ Inv (rDesc s k d) (pDesc s k lines d.n bad deep).lines (pDesc s k lines d.n bad deep).bad (pDesc s k lines d.n bad deep).deep ∧ 0 < (pDesc s k lines d.n bad deep).lines.length) ∨ ((pDesc s k lines d.n bad deep).ok = false ∧ (rDesc s k d).bad = true)) := by
  intro k
  induction k with
  | zero => intro d lines bad deep _ h; omega
  | succ k ih =>
    intro d lines bad deep hk _ hb hn hI
    have hP := part_joint (typ_joint s lines (s.size + 1) (s.size + 2)) d.n bad d.tab d.tab.length (lines.map (·.1)) 61 (by omega) (Nat.le_refl _) (RowsOK.nil _) hn (by omega) (by omega)
    rw [show pPart (pTyp s lines (s.size + 1)) s (lines.map (·.1)) 61 d.n bad = lineR s lines d.n bad from rfl] at hP
    rw [show rTyp s (s.size + 2) (rMust s 61 ⟨wordN s d.n false, nameB s d.n false, d.tab⟩) = rLineR s d from rfl] at hP
    rw [show pDesc s (k + 1) lines d.n bad deep = 
        if (lineR s lines d.n bad).ok = false then ⟨false, (lineR s lines d.n bad).n, lines, (lineR s lines d.n bad).bad, deep⟩ else
        if (lineR s lines d.n bad).n = s.size then ⟨true, (lineR s lines d.n bad).n, lines ++ [(nameAt s d.n, (lineR s lines d.n bad).t)], (lineR s lines d.n bad).bad, lineDeep (lineR s lines d.n bad) d.n deep⟩ else
        if lines.length + 1 = 10 ∨ byteAt s (lineR s lines d.n bad).n ≠ 10 then ⟨false, (lineR s lines d.n bad).n, lines, (lineR s lines d.n bad).bad, deep⟩ else
        pDesc s k (lines ++ [(nameAt s d.n, (lineR s lines d.n bad).t)]) ((lineR s lines d.n bad).n + 1) (lineR s lines d.n bad).bad (lineDeep (lineR s lines d.n bad) d.n deep) from rfl]
    rw [show rDesc s (k + 1) d = 
      if (rLineD s d).bad = true ∨ (rLineD s d).n = s.size then rLineD s d else
      if (rLineD s d).lines.length = 10 then rMark (rLineD s d) else
      if (rFeed s (rLineD s d)).bad = true then rFeed s (rLineD s d) else rDesc s k (rFeed s (rLineD s d)) from rfl]
    have hR : rLineD s d = ⟨(rLineR s d).1.n, (rLineR s d).1.bad, (rLineR s d).1.tab, d.lines ++ [wordS s d.n false], d.ats ++ [d.n], d.roots ++ [(rLineR s d).2]⟩ := rfl
    generalize lineR s lines d.n bad = p at *
    generalize rLineR s d = r at *
    obtain ⟨⟨rn, rb, rt⟩, x⟩ := r
    simp only at hP hR
    obtain ⟨e1, e2, h | h⟩ := hP
    · obtain ⟨hok, hrb, hws, hg⟩ := h
      subst hrb
      obtain ⟨new, hnew⟩ := hg.1
      simp only at hnew
      subst hnew
      have hI' := line_inv hI hI.root hg
      rw [← hws] at hI'
      rw [← hR] at hI'
      rw [hws] at hI'
      have dn : (rLineD s d).n = p.n := by rw [hR]; exact e1.symm
      have db : (rLineD s d).bad = false := by rw [hR]
      have dl : (rLineD s d).lines.length = lines.length + 1 := by rw [hI'.nms]; simp
      generalize rLineD s d = d' at *
      rw [if_neg (by rw [hok]; simp)]
      by_cases hend : p.n = s.size
      · rw [if_pos hend, if_pos (.inr (dn.trans hend))]
        exact ⟨dn.symm, .inl ⟨rfl, db, hI', by simp⟩⟩
      · have c1 : ¬ (d'.bad = true ∨ d'.n = s.size) := by rw [db, dn]; simp [hend]
        rw [if_neg hend, if_neg c1]
        by_cases h10 : lines.length + 1 = 10
        · have c2 : lines.length + 1 = 10 ∨ byteAt s p.n ≠ 10 := .inl h10
          rw [if_pos c2, if_pos (dl.trans h10)]
          exact ⟨dn.symm, .inr ⟨rfl, rfl⟩⟩
        · rw [dl, if_neg h10]
          by_cases hb10 : byteAt s p.n = 10
          · have c2 : ¬ (lines.length + 1 = 10 ∨ byteAt s p.n ≠ 10) := by simp [h10, hb10]
            have c3 : ¬ (false = true) := by simp
            rw [if_neg c2, feed_yes db (by rw [dn]; exact hb10), if_neg c3]
            have := ih ⟨d'.n + 1, false, d'.tab, d'.lines, d'.ats, d'.roots⟩ (lines ++ [(nameAt s d.n, p.t)]) p.bad (lineDeep p d.n deep) (by simp; omega) (by omega) rfl (by show d'.n + 1 ≤ _; omega) ⟨hI'.nms, hI'.la, hI'.lr, hI'.seg, hI'.bad, hI'.deep, hI'.wf, hI'.em⟩
            simp only [dn] at this ⊢
            exact this
          · have c2 : lines.length + 1 = 10 ∨ byteAt s p.n ≠ 10 := .inr hb10
            rw [if_pos c2, feed_no db (by rw [dn]; exact hb10), if_pos rfl]
            exact ⟨dn.symm, .inr ⟨rfl, rfl⟩⟩
    · obtain ⟨hrb, h⟩ := h
      subst hrb
      have db : (rLineD s d).bad = true := by rw [hR]
      have dn : (rLineD s d).n = p.n := by rw [hR]; exact e1.symm
      have c1 : (rLineD s d).bad = true ∨ (rLineD s d).n = s.size := .inl db
      rw [if_pos c1]
      have hno : p.ok = false ∨ (¬ p.n = s.size ∧ byteAt s p.n ≠ 10) := by
        rcases h with h | h
        · exact .inl h
        · exact .inr ⟨fun e => by rw [e] at h; exact letter_end s h, letter_ne h (.inl (by omega))⟩
      by_cases hok : p.ok = false
      · rw [if_pos hok]
        exact ⟨dn.symm, .inr ⟨rfl, db⟩⟩
      · rcases hno with h' | ⟨h1, h2⟩
        · exact absurd h' hok
        · have c2 : lines.length + 1 = 10 ∨ byteAt s p.n ≠ 10 := .inr h2
          rw [if_neg hok, if_neg h1, if_pos c2]
          exact ⟨dn.symm, .inr ⟨rfl, db⟩⟩

theorem Inv.nil (n : Nat) (b : Bool) : Inv ⟨n, b, [], [], [], []⟩ [] none none := by
  refine ⟨rfl, rfl, rfl, fun i hi => by simp at hi, rfl, rfl, fun x t h => by simp at h, fun x _ => rfl⟩

end Go.Proofs.YtapblkmlhoalgaaDoor
