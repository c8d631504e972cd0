/- Both readers tell the same of every text. -/
import Derived.Test.YtapblkmlhoalgaaDoorPure6
import Derived.Test.YtapblkmlhoalgaaDoorLaw
namespace Go.Proofs.YtapblkmlhoalgaaDoor

def firstFrom (c : Nat → Option Nat) : Nat → Nat → Option Nat
  | 0, _ => none
  | m + 1, i => orO (c i) (firstFrom c m (i + 1))
theorem orO_assoc (a b c : Option Nat) : orO (orO a b) c = orO a (orO b c) := by cases a <;> rfl
theorem firstFrom_of (c : Nat → Option Nat) : ∀ m i, firstOf c (i + m) = orO (firstOf c i) (firstFrom c m i) := by
  intro m
  induction m with
  | zero => intro i; simp only [firstFrom, Nat.add_zero]; cases firstOf c i <;> rfl
  | succ m ih =>
    intro i
    rw [show i + (m + 1) = (i + 1) + m by omega, ih (i + 1)]
    simp only [firstFrom, firstOf]
    exact orO_assoc _ _ _
theorem firstOf_from (c : Nat → Option Nat) (m : Nat) : firstOf c m = firstFrom c m 0 := by
  have := firstFrom_of c m 0
  rw [Nat.zero_add] at this
  rw [this]; rfl

theorem names_joint {d : RD} {lines : List (ByteArray × PT)} {bad deep : Option Nat} (hI : Inv d lines bad deep) : ∀ (m i : Nat) (tb : List RT), i + m = lines.length → Ext d.tab tb → (∀ y, (∀ j, j < i → numAt d.roots j < y) → rowAt tb y = rowAt d.tab y) → (∀ j q, j < i → lines[j]? = some q → Dn q.2.depth tb (numAt d.roots j)) → W2 tb →
    (rNames d d.tab.length m i tb).1 = firstFrom (cAt d.tab lines d.roots d.ats) m i ∧ (rNames d d.tab.length m i tb).2.length = d.tab.length ∧ W2 (rNames d d.tab.length m i tb).2 ∧
    ((rNames d d.tab.length m i tb).1 = none → ∀ j q, j < lines.length → lines[j]? = some q → Dn q.2.depth (rNames d d.tab.length m i tb).2 (numAt d.roots j)) := by
  intro m
  induction m with
  | zero => intro i tb hm h1 h2 h3 h4; exact ⟨rfl, h1.len, h4, fun _ j q hj hq => h3 j q (by omega) hq⟩
  | succ m ih =>
    intro i tb hm h1 h2 h3 h4
    have hil : i < lines.length := by omega
    obtain ⟨lo, s1, s2, s3, s4, q, s5, s6⟩ := hI.seg i hil
    have htk : ∀ x, x ≤ numAt d.roots i → rowAt (d.tab.take (numAt d.roots i + 1)) x = rowAt d.tab x := fun x hx => by
      unfold rowAt; rw [List.getElem?_take_of_lt (by omega)]
    have hro : ∀ x, lo ≤ x → x ≤ numAt d.roots i → (rowAt d.tab x).kind ≠ 11 → ∀ y ∈ (rowAt d.tab x).of, lo ≤ y ∧ y < x := fun x g1 g2 g3 => by
      have := (s3 x g1 (by rw [List.length_take]; omega)).1
      rw [htk x g2] at this
      exact (this g3).1
    have hW : WR d.tab lines d.roots i lo (numAt d.roots i) tb := by
      refine ⟨h1, fun y g1 g2 g3 => ?_, h3, h4⟩
      have e := h2 y (fun j hj => by have := s4 j hj; omega)
      rw [e] at g3 ⊢
      exact .inl (hI.em y g3)
    obtain ⟨r1, r2, r3, r4, r5⟩ := wrong_joint hro s2 s4 (by omega) hI.lr d.tab.length tb (numAt d.roots i) s1 (Nat.le_refl _) s2 hW
    have hnb := named_both (textAt (lines.map (·.1)) i) lines d.roots i hI.lr (by omega)
    simp only [rNames, firstFrom]
    rw [hI.nms]
    generalize rWrong (lines.map (·.1)) d.roots i d.tab.length tb (numAt d.roots i) = r at *
    obtain ⟨ro, rt⟩ := r
    simp only at r1 r2 r3 r4 r5 ⊢
    unfold cAt
    rw [← r1]
    rcases hnb with ⟨e1, _, e3⟩ | ⟨j, q', _, e1, _, _, e3⟩
    · rw [e1, e3]
      simp only [Option.isSome_none, Bool.false_eq_true, if_false]
      cases ro with
      | some a => exact ⟨rfl, r3.len.trans h1.len, r2.w2, fun h => by simp at h⟩
      | none =>
        refine ih (i + 1) rt (by omega) r2.ext (fun y hy => ?_) (fun j q' hj hq => ?_) r2.w2
        · rw [r4 y (.inr (hy i (by omega)))]
          exact h2 y (fun j hj => hy j (by omega))
        · by_cases e : j < i
          · exact (h3 j q' e hq).keep r3
          · have : j = i := by omega
            subst this
            rw [s5] at hq
            simp at hq
            subst hq
            rw [s6]
            exact r5 rfl
    · rw [e1, e3]
      simp only [Option.isSome_some, if_true]
      exact ⟨rfl, h1.len, h4, fun h => by simp at h⟩

theorem deep_joint {d : RD} {lines : List (ByteArray × PT)} {bad deep : Option Nat} (hI : Inv d lines bad deep) {tb : List RT} (hd : ∀ j q, j < lines.length → lines[j]? = some q → Dn q.2.depth tb (numAt d.roots j)) : ∀ (m i : Nat), i + m = lines.length →
    rDeep d (rDepths tb d.tab.length) m i = firstFrom (eAt d.tab lines d.roots d.ats) m i := by
  intro m
  induction m with
  | zero => intro i _; rfl
  | succ m ih =>
    intro i hm
    obtain ⟨lo, s1, s2, s3, s4, q, s5, s6⟩ := hI.seg i (by omega)
    simp only [rDeep, firstFrom]
    rw [numAt_depths tb _ _ s2, hd i q (by omega) s5 tb (Ext.refl _), s6, ih (i + 1) (by omega)]
    unfold eAt
    split <;> rfl

theorem agree : Agree := by
  intro s hs
  have hJ := desc_joint s 10 ⟨0, false, [], [], [], []⟩ [] none none rfl (by omega) rfl (Nat.zero_le _) (Inv.nil 0 false)
  simp only at hJ
  rw [show rDesc s 10 ⟨0, false, [], [], [], []⟩ = rAll s from rfl] at hJ
  unfold checkP checkR
  have hs' : ¬ 400 < s.size := by omega
  rw [if_neg hs', if_neg hs']
  generalize pDesc s 10 [] 0 none none = P at *
  generalize rAll s = d at *
  obtain ⟨hn, ⟨h1, h2, hI, hp⟩ | ⟨h1, h2⟩⟩ := hJ
  · have hW2 : W2 d.tab := fun x hx y hy => by
      by_cases h11 : (rowAt d.tab x).kind = 11
      · rw [hI.em x h11] at hy; simp at hy
      · exact ((hI.wf x (rowAt d.tab x) (by unfold rowAt; simp [hx])).1 h11).1 y hy
    have hl : d.lines.length = P.lines.length := by rw [hI.nms]; simp
    obtain ⟨n1, n2, n3, n4⟩ := names_joint hI P.lines.length 0 d.tab (by omega) (Ext.refl _) (fun _ _ => rfl) (fun j q h => by omega) hW2
    rw [← hl] at n1 n2 n3 n4
    rw [show rNames d d.tab.length d.lines.length 0 d.tab = rNamesAll d from rfl] at n1 n2 n3 n4
    refine ⟨fun _ => ⟨hI.wf, fun y hy => ?_, by omega, fun _ => n3⟩, ?_⟩
    · obtain ⟨j, hj, e⟩ := mem_at hy
      rw [← e]
      exact hI.root j (by rw [← hI.lr]; exact hj)
    · unfold checkD
      have c1 : ¬ P.ok = false := by rw [h1]; simp
      have c2 : ¬ d.bad = true := by rw [h2]; simp
      rw [if_neg c1, if_neg c2]
      rw [hI.bad, hI.deep, firstOf_from, firstOf_from, ← hl, ← n1]
      cases hr : (rNamesAll d).1 with
      | some a => rfl
      | none =>
        simp only
        have n4 := n4 hr
        rw [deep_joint hI (fun j q hj => n4 j q (by omega)) d.lines.length 0 (by omega)]
        cases firstFrom (eAt d.tab P.lines d.roots d.ats) d.lines.length 0 <;> rfl
  · refine ⟨fun h => by rw [h2] at h; simp at h, ?_⟩
    unfold checkD
    rw [if_pos h1, if_pos h2, hn]

end Go.Proofs.YtapblkmlhoalgaaDoor
