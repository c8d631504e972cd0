/- A message is not much longer than the text of its value. -/
import Derived.Test.YtcmkjdpmlmmjcaaGreatDoorPsVal
namespace Go.Proofs.YtcmkjdpmlmmjcaaGreatDoor

theorem decI_pos (n : Int) : 0 < (decI n).length := by
  unfold decI
  split
  · simp
  · show 0 < ((if n.natAbs < 10 then [] else decN 19 (n.natAbs / 10)) ++ [_]).length
    simp
theorem wQuo_len : ∀ (l : Bs), l.length ≤ (wQuo l).length := by
  intro l
  induction l with
  | nil => simp [wQuo]
  | cons b l ih =>
    simp only [wQuo]
    split <;> simp only [List.length_cons] <;> omega
theorem wCount_len (n : Nat) : (wCount n).length ≤ 2 := by unfold wCount; split <;> simp
theorem flat_between {f g : PV → Bs} : ∀ (vs : List PV), (∀ x ∈ vs, (f x).length ≤ 8 * (g x).length) → (vs.flatMap f).length ≤ 8 * (wBetween g vs).length := by
  intro vs
  induction vs with
  | nil => intro _; simp
  | cons v d ih =>
    intro h
    have h1 := h v (by simp)
    have h2 := ih (fun x hx => h x (by simp [hx]))
    rw [List.flatMap_cons, List.length_append]
    by_cases hd : d = []
    · subst hd; rw [wBetween_one]; simpa using h1
    · rw [wBetween_cons hd, List.length_append, List.length_cons]; omega

theorem msg_len : ∀ (k : Nat) (t : PT) (v : PV), WFT k t → Valid k t v → (wMsg k v).length ≤ 8 * (wText k v).length := by
  intro k
  induction k with
  | zero => intro t v h; exact h.elim
  | succ k ih =>
    intro t v hW hV
    obtain ⟨vt, vn, vb, vp⟩ := v
    obtain ⟨e, hV⟩ := hV
    simp only at e
    subst e
    have hsub : ∀ i, i < vt.subs.length → ∀ x, Valid k (vt.sub i) x → (wMsg k x).length ≤ 8 * (wText k x).length := fun i hi x hx => ih (vt.sub i) x (hW.sub hi) hx
    rw [wMsg_mk, wText_mk]
    simp only at hV
    split at hV
    · rename_i hk
      rw [if_pos hk, if_pos (by omega), leBytes_length]
      have := decI_pos vn
      have : widthOf vt.kind ≤ 4 := by unfold widthOf; split <;> (try split) <;> omega
      omega
    · rename_i hk2
      rw [if_neg hk2]
      split at hV
      · rename_i hk
        rw [if_pos hk, if_pos (by omega)]
        have := decI_pos vn
        simp only [beBytes, List.length_reverse, leBytes_length]
        omega
      · rename_i hk3
        rw [if_neg hk3, if_neg (show ¬ vt.kind ≤ 3 by omega)]
        split at hV
        · rename_i hk
          rw [if_pos hk, if_pos hk]
          split <;> simp [wNo, wYes]
        · rename_i hk4
          rw [if_neg hk4, if_neg hk4]
          split at hV
          · rename_i hk
            rw [if_pos (by omega), if_pos hk]
            have h1 := wCount_len vb.length
            have h2 := wQuo_len vb
            simp only [List.length_append, List.length_cons, List.length_nil]
            omega
          · rename_i hk5
            rw [if_neg hk5]
            split at hV
            · rename_i hk
              rw [if_pos (by omega), if_pos hk]
              have h1 := wCount_len vb.length
              have h2 : ∀ l : Bs, (wHex l).length = 2 * l.length := by
                intro l
                induction l with
                | nil => rfl
                | cons b l ih => simp only [wHex, List.length_cons, ih]; omega
              simp only [List.length_append, List.length_cons, h2]
              omega
            · rename_i hk6
              rw [if_neg (show ¬ vt.kind ≤ 6 by omega), if_neg hk6]
              split at hV
              · rename_i hk
                have h1s : vt.subs.length = 1 := hW.2.2.2.2.1 (by omega)
                rw [if_pos (by omega), if_pos hk]
                have h1 := wCount_len vp.length
                have h2 := flat_between (f := wMsg k) (g := wText k) vp (fun x hx => hsub 0 (by omega) x (hV.2.2.2 x hx))
                simp only [List.length_append, List.length_cons, List.length_nil]
                omega
              · rename_i hk7
                rw [if_neg hk7]
                split at hV
                · rename_i hk
                  have h1s : vt.subs.length = 1 := hW.2.2.2.2.1 (by omega)
                  rw [if_pos (by omega), if_pos hk]
                  match vp, hV with
                  | [], _ => simp [wCount, wOpt]
                  | [x], hV =>
                    have := hsub 0 (by omega) x (hV.2.2.2 x (by simp))
                    simp [wCount, wOpt]
                    omega
                  | _ :: _ :: _, hV => have := hV.2.2.1; simp at this
                · rename_i hk8
                  rw [if_neg (show ¬ vt.kind ≤ 8 by omega), if_neg hk8]
                  split at hV
                  · rename_i hk
                    rw [if_pos hk, if_pos hk]
                    have h2 := flat_between (f := wMsg k) (g := wText k) vp (fun x hx => by
                      obtain ⟨i, hi, he⟩ := List.getElem_of_mem hx
                      exact hsub i (by have := hV.2.2.1; omega) x (hV.2.2.2 i x (by rw [List.getElem?_eq_getElem hi, he])))
                    simp only [List.length_append, List.length_cons, List.length_nil]
                    omega
                  · rename_i hk9
                    rw [if_neg hk9, if_neg hk9]
                    obtain ⟨_, i, x, _, hi, rfl, hx⟩ := hV
                    have := hsub i hi x hx
                    simp [wFirst]
                    omega

end Go.Proofs.YtcmkjdpmlmmjcaaGreatDoor

namespace Go.Proofs.YtcmkjdpmlmmjcaaGreatDoor

theorem decN_len : ∀ (f n : Nat), (decN f n).length ≤ f := by
  intro f
  induction f with
  | zero => intro n; simp [decN]
  | succ f ih =>
    intro n
    simp only [decN, List.length_append, List.length_cons, List.length_nil]
    split
    · simp
    · have := ih (n / 10); omega
theorem decI_len (n : Int) : (decI n).length ≤ 21 := by
  unfold decI
  have := decN_len 20 n.natAbs
  split
  · simp only [List.length_cons]; omega
  · omega
theorem wCount_pos (n : Nat) : 0 < (wCount n).length := by unfold wCount; split <;> simp
theorem wQuo_le : ∀ (l : Bs), (wQuo l).length ≤ 2 * l.length := by
  intro l
  induction l with
  | nil => simp [wQuo]
  | cons b l ih =>
    simp only [wQuo]
    split <;> simp only [List.length_cons] <;> omega
theorem between_flat {c : Nat} {f g : PV → Bs} : ∀ (vs : List PV), (∀ x ∈ vs, 0 < (f x).length ∧ (g x).length ≤ c * (f x).length) → (wBetween g vs).length ≤ c * (vs.flatMap f).length + (vs.flatMap f).length := by
  intro vs
  induction vs with
  | nil => intro _; simp [wBetween]
  | cons v d ih =>
    intro h
    have h1 := h v (by simp)
    have h2 := ih (fun x hx => h x (by simp [hx]))
    rw [List.flatMap_cons, List.length_append]
    by_cases hd : d = []
    · subst hd; rw [wBetween_one]; simp; omega
    · rw [wBetween_cons hd, List.length_append, List.length_cons, Nat.mul_add]; omega
theorem flat_pos {f : PV → Bs} {vs : List PV} (h : 0 < vs.length) (hf : ∀ x ∈ vs, 0 < (f x).length) : 0 < (vs.flatMap f).length := by
  cases vs with
  | nil => simp at h
  | cons v d => have := hf v (by simp); rw [List.flatMap_cons, List.length_append]; omega

theorem text_len : ∀ (k : Nat) (t : PT) (v : PV), WFT k t → Valid k t v → 0 < (wMsg k v).length ∧ (wText k v).length ≤ 500 * k * (wMsg k v).length := by
  intro k
  induction k with
  | zero => intro t v h; exact h.elim
  | succ k ih =>
    intro t v hW hV
    obtain ⟨vt, vn, vb, vp⟩ := v
    obtain ⟨e, hV⟩ := hV
    simp only at e
    subst e
    have hsub : ∀ i, i < vt.subs.length → ∀ x, Valid k (vt.sub i) x → 0 < (wMsg k x).length ∧ (wText k x).length ≤ 500 * k * (wMsg k x).length := fun i hi x hx => ih (vt.sub i) x (hW.sub hi) hx
    have hmul : ∀ m, 500 * (k + 1) * m = 500 * k * m + 500 * m := fun m => by rw [Nat.mul_add, Nat.add_mul]
    rw [hmul]
    have hone : ∀ m, 0 ≤ 500 * k * m := fun m => Nat.zero_le _
    rw [wMsg_mk, wText_mk]
    simp only at hV
    split at hV
    · rename_i hk
      rw [if_pos hk, if_pos (by omega), leBytes_length]
      have := decI_len vn
      have : 1 ≤ widthOf vt.kind := by unfold widthOf; split <;> (try split) <;> omega
      omega
    · rename_i hk2
      rw [if_neg hk2]
      split at hV
      · rename_i hk
        rw [if_pos hk, if_pos (by omega)]
        have := decI_len vn
        simp only [beBytes, List.length_reverse, leBytes_length]
        omega
      · rename_i hk3
        rw [if_neg hk3, if_neg (show ¬ vt.kind ≤ 3 by omega)]
        split at hV
        · rename_i hk
          rw [if_pos hk, if_pos hk]
          split <;> simp [wNo, wYes] <;> omega
        · rename_i hk4
          rw [if_neg hk4, if_neg hk4]
          split at hV
          · rename_i hk
            rw [if_pos (by omega), if_pos hk]
            have h1 := wCount_pos vb.length
            have h2 := wQuo_le vb
            simp only [List.length_append, List.length_cons, List.length_nil]
            omega
          · rename_i hk5
            rw [if_neg hk5]
            split at hV
            · rename_i hk
              rw [if_pos (by omega), if_pos hk]
              have h1 := wCount_pos vb.length
              have h2 : ∀ l : Bs, (wHex l).length = 2 * l.length := by
                intro l
                induction l with
                | nil => rfl
                | cons b l ih => simp only [wHex, List.length_cons, ih]; omega
              simp only [List.length_append, List.length_cons, h2]
              omega
            · rename_i hk6
              rw [if_neg (show ¬ vt.kind ≤ 6 by omega), if_neg hk6]
              split at hV
              · rename_i hk
                have h1s : vt.subs.length = 1 := hW.2.2.2.2.1 (by omega)
                rw [if_pos (by omega), if_pos hk]
                have h1 := wCount_pos vp.length
                have h2 := between_flat (c := 500 * k) (f := wMsg k) (g := wText k) vp (fun x hx => hsub 0 (by omega) x (hV.2.2.2 x hx))
                simp only [List.length_append, List.length_cons, List.length_nil, Nat.mul_add]
                omega
              · rename_i hk7
                rw [if_neg hk7]
                split at hV
                · rename_i hk
                  have h1s : vt.subs.length = 1 := hW.2.2.2.2.1 (by omega)
                  rw [if_pos (by omega), if_pos hk]
                  match vp, hV with
                  | [], _ => simp [wCount, wOpt]
                  | [x], hV =>
                    have := hsub 0 (by omega) x (hV.2.2.2 x (by simp))
                    simp [wCount, wOpt, Nat.mul_add]
                    omega
                  | _ :: _ :: _, hV => have := hV.2.2.1; simp at this
                · rename_i hk8
                  rw [if_neg (show ¬ vt.kind ≤ 8 by omega), if_neg hk8]
                  split at hV
                  · rename_i hk
                    rw [if_pos hk, if_pos hk]
                    have hall : ∀ x ∈ vp, 0 < (wMsg k x).length ∧ (wText k x).length ≤ 500 * k * (wMsg k x).length := fun x hx => by
                      obtain ⟨i, hi, he⟩ := List.getElem_of_mem hx
                      exact hsub i (by have := hV.2.2.1; omega) x (hV.2.2.2 i x (by rw [List.getElem?_eq_getElem hi, he]))
                    have h2 := between_flat (c := 500 * k) (f := wMsg k) (g := wText k) vp hall
                    have h3 := flat_pos (f := wMsg k) (vs := vp) (by have := hV.2.2.1; have := hW.2.2.2.1 (by omega); omega) (fun x hx => (hall x hx).1)
                    simp only [List.length_append, List.length_cons, List.length_nil]
                    omega
                  · rename_i hk9
                    rw [if_neg hk9, if_neg hk9]
                    obtain ⟨_, i, x, hvn, hi, rfl, hx⟩ := hV
                    have := hsub i hi x hx
                    subst hvn
                    have hn : (vt.name (i : Int).toNat).length ≤ 400 := by
                      unfold PT.name
                      rw [Int.toNat_natCast]
                      have hin : i < vt.names.length := by rw [hW.2.1]; exact hi
                      rw [List.getElem?_eq_getElem hin]
                      have := hW.2.2.2.2.2.1.2 _ (List.getElem_mem hin)
                      rw [Option.getD_some, Array.length_toList]
                      exact this
                    simp only [wFirst, List.length_append, List.length_cons, List.flatMap_cons, List.flatMap_nil, List.append_nil, Nat.mul_add]
                    omega

end Go.Proofs.YtcmkjdpmlmmjcaaGreatDoor
