/- A value's text is read as the value, and its bytes are; what is read of text and of bytes is a value that is written so. -/
import Derived.Test.YtapblkmlhoalgaaGreatDoorVPure
namespace Go.Proofs.YtapblkmlhoalgaaGreatDoor

theorem PT.sub_some {t : PT} {i : Nat} (h : i < t.subs.length) : t.subs[i]? = some (t.sub i) := by
  simp [PT.sub, List.getElem?_eq_getElem h]
theorem WFT.sub {k : Nat} {t : PT} {i : Nat} (h : WFT (k + 1) t) (hi : i < t.subs.length) : WFT k (t.sub i) :=
  h.2.2.1 _ (List.mem_of_getElem? (PT.sub_some hi))

def Stop (r : Bs) : Prop := ∀ b l, r = b :: l → b.toNat = 44 ∨ b.toNat = 93 ∨ b.toNat = 125
theorem Stop.digit {r : Bs} (h : Stop r) : StopD r := fun b l e => by have := h b l e; omega
theorem Stop.hex {r : Bs} (h : Stop r) : StopH r := by
  unfold StopH
  cases r with
  | nil => rfl
  | cons b l =>
    have := h b l rfl
    simp only [hexD]
    rw [if_neg (by omega), if_neg (by omega)]
theorem Stop.of (c : UInt8) (r : Bs) (h : c.toNat = 44 ∨ c.toNat = 93 ∨ c.toNat = 125) : Stop (c :: r) := by
  intro b l e
  simp at e
  obtain ⟨rfl, _⟩ := e
  exact h
theorem Stop.nil : Stop [] := fun b l e => by simp at e

section
variable {rd : Bs → Option PV × Bs} {f : PV → Bs} {P : PV → Prop}

theorem wBetween_cons {v : PV} {d : List PV} (h : d ≠ []) : wBetween f (v :: d) = f v ++ 44 :: wBetween f d := by
  cases d with
  | nil => exact absurd rfl h
  | cons x d => rfl
theorem wBetween_one {v : PV} : wBetween f [v] = f v := by simp [wBetween]

theorem rElems_sound (hrd : ∀ l v r, rd l = (some v, r) → P v ∧ l = f v ++ r) : ∀ (k : Nat) (acc : List PV) (l : Bs) (vs : List PV) (r : Bs), rElems rd k acc l = (some vs, r) → ∃ d, vs = acc ++ d ∧ d ≠ [] ∧ d.length ≤ k ∧ (∀ x ∈ d, P x) ∧ l = wBetween f d ++ 93 :: r := by
  intro k
  induction k with
  | zero => intro acc l vs r h; simp [rElems] at h
  | succ k ih =>
    intro acc l vs r h
    simp only [rElems] at h
    split at h
    · simp at h
    · rename_i v l1 e
      obtain ⟨hP, rfl⟩ := hrd _ _ _ e
      split at h
      · rename_i l2 e2
        simp at h; obtain ⟨rfl, rfl⟩ := h
        obtain ⟨b, rfl, hb⟩ := rAcc_some e2
        refine ⟨[v], rfl, by simp, by simp, by simpa using hP, ?_⟩
        rw [wBetween_one, u8_of hb]; rfl
      · split at h
        · simp at h
        · split at h
          · rename_i l2 e2
            obtain ⟨b, rfl, hb⟩ := rAcc_some e2
            obtain ⟨d, rfl, h2, h3, h4, rfl⟩ := ih _ _ _ _ h
            refine ⟨v :: d, by simp, by simp, by simp; omega, ?_, ?_⟩
            · intro x hx
              rcases List.mem_cons.1 hx with rfl | hx
              · exact hP
              · exact h4 x hx
            · rw [wBetween_cons h2, u8_of hb]; simp
          · simp at h
theorem rElems_whole (hrd : ∀ v r, P v → Stop r → rd (f v ++ r) = (some v, r)) : ∀ (d : List PV) (k : Nat) (acc : List PV) (r : Bs), d ≠ [] → d.length ≤ k → acc.length + k = 300 → (∀ x ∈ d, P x) → rElems rd k acc (wBetween f d ++ 93 :: r) = (some (acc ++ d), r) := by
  intro d
  induction d with
  | nil => intro k acc r h; exact absurd rfl h
  | cons v d ih =>
    intro k acc r _ hk ha hP
    obtain ⟨k, rfl⟩ : ∃ m, k = m + 1 := ⟨k - 1, by simp at hk; omega⟩
    by_cases hd : d = []
    · subst hd
      rw [wBetween_one]
      simp only [rElems]
      rw [hrd v _ (hP v (by simp)) (Stop.of 93 r (by decide))]
      simp only
      rw [rAcc_cons (b := 93) (c := 93) rfl]
    · rw [wBetween_cons hd, List.append_assoc, List.cons_append]
      simp only [rElems]
      rw [hrd v _ (hP v (by simp)) (Stop.of 44 _ (by decide))]
      simp only
      have hdl : 0 < d.length := List.length_pos_iff.2 hd
      simp only [List.length_cons] at hk
      rw [rAcc_ne (b := 44) (c := 93) (by decide), rAcc_cons (b := 44) (c := 44) rfl]
      simp only
      rw [if_neg (by omega), ih k (acc ++ [v]) r hd (by omega) (by simp; omega) (fun x hx => hP x (by simp [hx]))]
      simp
theorem rList_sound (hrd : ∀ l v r, rd l = (some v, r) → P v ∧ l = f v ++ r) {l : Bs} {vs : List PV} {r : Bs} (h : rList rd l = (some vs, r)) : vs.length ≤ 300 ∧ (∀ x ∈ vs, P x) ∧ l = 91 :: (wBetween f vs ++ [93]) ++ r := by
  unfold rList at h
  split at h
  · simp at h
  · rename_i l1 e
    obtain ⟨b, rfl, hb⟩ := rAcc_some e
    split at h
    · rename_i l2 e2
      obtain ⟨b2, rfl, hb2⟩ := rAcc_some e2
      simp at h; obtain ⟨rfl, rfl⟩ := h
      refine ⟨by simp, by simp, ?_⟩
      rw [u8_of hb, u8_of hb2]; rfl
    · obtain ⟨d, rfl, h2, h3, h4, rfl⟩ := rElems_sound hrd _ _ _ _ _ h
      refine ⟨by simpa using h3, by simpa using h4, ?_⟩
      rw [u8_of hb]; simp
theorem rList_whole (hrd : ∀ v r, P v → Stop r → rd (f v ++ r) = (some v, r)) (hf : ∀ v, P v → ∃ b l, f v = b :: l ∧ b.toNat ≠ 93) {vs : List PV} (r : Bs) (h1 : vs.length ≤ 300) (h2 : ∀ x ∈ vs, P x) : rList rd (91 :: (wBetween f vs ++ [93]) ++ r) = (some vs, r) := by
  unfold rList
  rw [List.cons_append, rAcc_cons (b := 91) (c := 91) rfl]
  simp only
  cases vs with
  | nil => rfl
  | cons v d =>
    obtain ⟨b, l, e, hb⟩ := hf v (h2 v (by simp))
    have : ∃ l', wBetween f (v :: d) = b :: l' := by
      unfold wBetween
      rw [e]
      exact ⟨_, rfl⟩
    obtain ⟨l', e'⟩ := this
    have hn : rAcc 93 (wBetween f (v :: d) ++ [93] ++ r) = none := by rw [e']; exact rAcc_ne hb
    rw [hn]
    simp only
    have := rElems_whole hrd (v :: d) 300 [] r (by simp) h1 rfl h2
    simp at this ⊢
    exact this
theorem rOpt_sound (hrd : ∀ l v r, rd l = (some v, r) → P v ∧ l = f v ++ r) {l : Bs} {vs : List PV} {r : Bs} (h : rOpt rd l = (some vs, r)) : vs.length ≤ 1 ∧ (∀ x ∈ vs, P x) ∧ l = wOpt f vs ++ r := by
  unfold rOpt at h
  split at h
  · rename_i l1 e
    obtain ⟨b, rfl, hb⟩ := rAcc_some e
    simp at h; obtain ⟨rfl, rfl⟩ := h
    exact ⟨by simp, by simp, by rw [u8_of hb]; rfl⟩
  · split at h
    · simp at h
    · rename_i l1 e
      obtain ⟨b, rfl, hb⟩ := rAcc_some e
      simp only [Prod.mk.injEq, Option.map_eq_some_iff] at h
      obtain ⟨⟨v, h1, rfl⟩, h2⟩ := h
      obtain ⟨hP, rfl⟩ := hrd _ _ _ (Prod.ext h1 h2)
      exact ⟨by simp, by simpa using hP, by rw [u8_of hb]; rfl⟩
theorem rOpt_whole (hrd : ∀ v r, P v → Stop r → rd (f v ++ r) = (some v, r)) {vs : List PV} (r : Bs) (hr : Stop r) (h1 : vs.length ≤ 1) (h2 : ∀ x ∈ vs, P x) : rOpt rd (wOpt f vs ++ r) = (some vs, r) := by
  unfold rOpt
  match vs, h1, h2 with
  | [], _, _ => rfl
  | [v], _, h2 =>
    simp only [wOpt, List.cons_append]
    rw [rAcc_ne (b := 43) (c := 45) (by decide), rAcc_cons (b := 43) (c := 43) rfl]
    simp only
    rw [hrd v r (h2 v (by simp)) hr]
    rfl
  | _ :: _ :: _, h1, _ => simp at h1
end

def wAhead (f : PV → Bs) : UInt8 → List PV → Bs
  | _, [] => []
  | a, v :: l => a :: (f v ++ wAhead f 44 l)
theorem wAhead_between {f : PV → Bs} : ∀ (d : List PV) (v : PV) (a : UInt8), wAhead f a (v :: d) = a :: wBetween f (v :: d) := by
  intro d
  induction d with
  | nil => intro v a; simp [wAhead, wBetween]
  | cons x d ih =>
    intro v a
    rw [wAhead, ih x 44, wBetween_cons (v := v) (d := x :: d) (by simp)]

section
variable {rd : PT → Bs → Option PV × Bs} {f : PV → Bs} {P : PT → PV → Prop}
theorem rFields_sound : ∀ (ts : List PT) (_ : ∀ t ∈ ts, ∀ l v r, rd t l = (some v, r) → P t v ∧ l = f v ++ r) (a : UInt8) (acc : List PV) (l : Bs) (vs : List PV) (r : Bs), rFields rd ts a.toNat acc l = (some vs, r) → ∃ d, vs = acc ++ d ∧ d.length = ts.length ∧ (∀ (i : Nat) (x : PV) (t : PT), d[i]? = some x → ts[i]? = some t → P t x) ∧ l = wAhead f a d ++ 125 :: r := by
  intro ts
  induction ts with
  | nil =>
    intro _ a acc l vs r h
    simp only [rFields] at h
    split at h
    · rename_i l1 e
      obtain ⟨b, rfl, hb⟩ := rAcc_some e
      simp at h; obtain ⟨rfl, rfl⟩ := h
      exact ⟨[], by simp, rfl, by simp, by rw [u8_of hb]; rfl⟩
    · simp at h
  | cons t ts ih =>
    intro hrd a acc l vs r h
    simp only [rFields] at h
    split at h
    · simp at h
    · rename_i l1 e
      obtain ⟨b, rfl, hb⟩ := rAcc_some e
      split at h
      · simp at h
      · rename_i v l2 e2
        obtain ⟨hP, rfl⟩ := hrd t (by simp) _ _ _ e2
        obtain ⟨d, rfl, h2, h3, rfl⟩ := ih (fun t' ht => hrd t' (by simp [ht])) 44 _ _ _ _ h
        refine ⟨v :: d, by simp, by simp [h2], ?_, ?_⟩
        · intro i x t' hx ht
          cases i with
          | zero => simp at hx ht; subst hx ht; exact hP
          | succ i => exact h3 i x t' (by simpa using hx) (by simpa using ht)
        · have : b = a := UInt8.toNat_inj.1 hb
          subst this
          simp [wAhead]
theorem rFields_whole : ∀ (ts : List PT) (_ : ∀ t ∈ ts, ∀ v r, P t v → Stop r → rd t (f v ++ r) = (some v, r)) (a : UInt8) (acc d : List PV) (r : Bs), d.length = ts.length → (∀ (i : Nat) (x : PV) (t : PT), d[i]? = some x → ts[i]? = some t → P t x) → rFields rd ts a.toNat acc (wAhead f a d ++ 125 :: r) = (some (acc ++ d), r) := by
  intro ts
  induction ts with
  | nil =>
    intro _ a acc d r h _
    have : d = [] := List.eq_nil_of_length_eq_zero h
    subst this
    simp [rFields, wAhead, rAcc]
  | cons t ts ih =>
    intro hrd a acc d r h hP
    cases d with
    | nil => simp at h
    | cons v d =>
      have hst : Stop (wAhead f 44 d ++ 125 :: r) := by
        cases d with
        | nil => exact Stop.of 125 r (by decide)
        | cons x d => exact Stop.of 44 _ (by decide)
      simp only [wAhead, rFields]
      rw [List.cons_append, rAcc_cons rfl]
      simp only
      rw [List.append_assoc, hrd t (by simp) v _ (hP 0 v t rfl rfl) hst]
      simp only
      have := ih (fun t' ht => hrd t' (by simp [ht])) 44 (acc ++ [v]) d r (by simpa using h) (fun i x t' hx ht => hP (i + 1) x t' (by simpa using hx) (by simpa using ht))
      rw [show (44 : UInt8).toNat = 44 from rfl] at this
      rw [this]
      simp

theorem mFields_sound : ∀ (ts : List PT) (_ : ∀ t ∈ ts, ∀ l v r, rd t l = (some v, r) → P t v ∧ l = f v ++ r) (acc : List PV) (l : Bs) (vs : List PV) (r : Bs), mFields rd ts acc l = (some vs, r) → ∃ d, vs = acc ++ d ∧ d.length = ts.length ∧ (∀ (i : Nat) (x : PV) (t : PT), d[i]? = some x → ts[i]? = some t → P t x) ∧ l = d.flatMap f ++ r := by
  intro ts
  induction ts with
  | nil => intro _ acc l vs r h; simp [mFields] at h; obtain ⟨rfl, rfl⟩ := h; exact ⟨[], by simp, rfl, by simp, rfl⟩
  | cons t ts ih =>
    intro hrd acc l vs r h
    simp only [mFields] at h
    split at h
    · simp at h
    · rename_i v l2 e2
      obtain ⟨hP, rfl⟩ := hrd t (by simp) _ _ _ e2
      obtain ⟨d, rfl, h2, h3, rfl⟩ := ih (fun t' ht => hrd t' (by simp [ht])) _ _ _ _ h
      refine ⟨v :: d, by simp, by simp [h2], ?_, by simp⟩
      intro i x t' hx ht
      cases i with
      | zero => simp at hx ht; subst hx ht; exact hP
      | succ i => exact h3 i x t' (by simpa using hx) (by simpa using ht)
theorem mFields_whole : ∀ (ts : List PT) (_ : ∀ t ∈ ts, ∀ v r, P t v → rd t (f v ++ r) = (some v, r)) (acc d : List PV) (r : Bs), d.length = ts.length → (∀ (i : Nat) (x : PV) (t : PT), d[i]? = some x → ts[i]? = some t → P t x) → mFields rd ts acc (d.flatMap f ++ r) = (some (acc ++ d), r) := by
  intro ts
  induction ts with
  | nil =>
    intro _ acc d r h _
    have : d = [] := List.eq_nil_of_length_eq_zero h
    subst this
    simp [mFields]
  | cons t ts ih =>
    intro hrd acc d r h hP
    cases d with
    | nil => simp at h
    | cons v d =>
      simp only [List.flatMap_cons, List.append_assoc, mFields]
      rw [hrd t (by simp) v _ (hP 0 v t rfl rfl)]
      simp only
      rw [ih (fun t' ht => hrd t' (by simp [ht])) (acc ++ [v]) d r (by simpa using h) (fun i x t' hx ht => hP (i + 1) x t' (by simpa using hx) (by simpa using ht))]
      simp
end

section
variable {rd : Bs → Option PV × Bs} {f : PV → Bs} {P : PV → Prop}
theorem mSeveral_sound (hrd : ∀ l v r, rd l = (some v, r) → P v ∧ l = f v ++ r) : ∀ (k : Nat) (acc : List PV) (l : Bs) (vs : List PV) (r : Bs), mSeveral rd k acc l = (some vs, r) → ∃ d, vs = acc ++ d ∧ d.length = k ∧ (∀ x ∈ d, P x) ∧ l = d.flatMap f ++ r := by
  intro k
  induction k with
  | zero => intro acc l vs r h; simp [mSeveral] at h; obtain ⟨rfl, rfl⟩ := h; exact ⟨[], by simp, rfl, by simp, rfl⟩
  | succ k ih =>
    intro acc l vs r h
    simp only [mSeveral] at h
    split at h
    · simp at h
    · rename_i v l2 e2
      obtain ⟨hP, rfl⟩ := hrd _ _ _ e2
      obtain ⟨d, rfl, h2, h3, rfl⟩ := ih _ _ _ _ h
      refine ⟨v :: d, by simp, by simp [h2], ?_, by simp⟩
      intro x hx
      rcases List.mem_cons.1 hx with rfl | hx
      · exact hP
      · exact h3 x hx
theorem mSeveral_whole (hrd : ∀ v r, P v → rd (f v ++ r) = (some v, r)) : ∀ (d acc : List PV) (r : Bs), (∀ x ∈ d, P x) → mSeveral rd d.length acc (d.flatMap f ++ r) = (some (acc ++ d), r) := by
  intro d
  induction d with
  | nil => intro acc r _; simp [mSeveral]
  | cons v d ih =>
    intro acc r hP
    simp only [List.length_cons, List.flatMap_cons, List.append_assoc, mSeveral]
    rw [hrd v _ (hP v (by simp))]
    simp only
    rw [ih _ _ (fun x hx => hP x (by simp [hx]))]
    simp
end

theorem WFT.names {k : Nat} {t : PT} (h : WFT (k + 1) t) (hk : 9 ≤ t.kind) : PreFree (t.names.map nameBs) := names_free (h.2.2.2.2.2.2 hk).1 (h.2.2.2.2.2.2 hk).2
theorem mostOf_ge (k : Nat) : 9 ≤ mostOf k ∧ mostOf k < 10 ^ 20 := by unfold mostOf; split <;> (try split) <;> omega
theorem map_pair {α β : Type} {o : Option α} {g : α → β} {r r' : Bs} {v : β} (h : (o.map g, r) = (some v, r')) : ∃ x, o = some x ∧ g x = v ∧ r = r' := by
  simp only [Prod.mk.injEq, Option.map_eq_some_iff] at h
  obtain ⟨⟨x, h1, h2⟩, h3⟩ := h
  exact ⟨x, h1, h2, h3⟩

theorem rText_sound : ∀ (k : Nat) (t : PT) (l : Bs) (v : PV) (r : Bs), WFT k t → rText k t l = (some v, r) → Valid k t v ∧ l = wText k v ++ r := by
  intro k
  induction k with
  | zero => intro t l v r h; exact h.elim
  | succ k ih =>
    intro t l v r hW h
    have hsub : ∀ i, i < t.subs.length → ∀ l v r, rText k (t.sub i) l = (some v, r) → Valid k (t.sub i) v ∧ l = wText k v ++ r := fun i hi l v r => ih (t.sub i) l v r (hW.sub hi)
    simp only [rText] at h
    split at h
    · rename_i hk
      obtain ⟨n, h1, rfl, h2⟩ := map_pair h
      obtain ⟨q1, rfl⟩ := rUns_sound (mostOf_ge _).1 (mostOf_ge _).2 (Prod.ext h1 h2)
      refine ⟨⟨rfl, ?_⟩, ?_⟩
      · rw [if_pos hk]; exact ⟨rfl, rfl, by simp [vNum], by simp [vNum]; omega⟩
      · rw [vNum, wText_mk]
        rw [if_pos (by omega), decI, if_neg (by omega)]
        rfl
    · split at h
      · rename_i hk2 hk
        obtain ⟨n, h1, rfl, h2⟩ := map_pair h
        obtain ⟨q1, q2, rfl⟩ := rSigned_sound (Prod.ext h1 h2)
        refine ⟨⟨rfl, ?_⟩, ?_⟩
        · rw [if_neg hk2, if_pos hk]; exact ⟨rfl, rfl, q1, q2⟩
        · rw [vNum, wText_mk]; rw [if_pos (by omega)]
      · split at h
        · rename_i hk2 hk3 hk
          obtain ⟨n, h1, rfl, h2⟩ := map_pair h
          obtain ⟨x, pre, e1, e2, rfl⟩ := rOne_sound _ _ _ _ _ (Prod.ext h1 h2)
          rw [List.nil_append] at e2
          subst e2
          have hn : (n = 0 ∧ pre = wNo) ∨ (n = 1 ∧ pre = wYes) := by
            match n, e1 with
            | 0, e1 => simp at e1; exact .inl ⟨rfl, e1.symm⟩
            | 1, e1 => simp at e1; exact .inr ⟨rfl, e1.symm⟩
            | n + 2, e1 => simp at e1
          refine ⟨⟨rfl, ?_⟩, ?_⟩
          · rw [if_neg hk2, if_neg hk3, if_pos hk]; exact ⟨rfl, rfl, by simp [vNum]; omega⟩
          · rw [vNum, wText_mk]
            rw [if_neg (by omega), if_pos hk]
            rcases hn with ⟨rfl, rfl⟩ | ⟨rfl, rfl⟩ <;> rfl
        · split at h
          · rename_i hk2 hk3 hk4 hk
            obtain ⟨b, h1, rfl, h2⟩ := map_pair h
            unfold rQuoted at h1 h2
            split at h1
            · cases h1
            · rename_i l1 e
              rw [e] at h2
              obtain ⟨c, rfl, hc⟩ := rAcc_some e
              obtain ⟨d, rfl, q2, q3, rfl⟩ := rQuo_sound _ _ _ _ _ (Prod.ext h1 h2)
              refine ⟨⟨rfl, ?_⟩, ?_⟩
              · rw [if_neg hk2, if_neg hk3, if_neg hk4, if_pos hk]; exact ⟨rfl, rfl, q2, q3⟩
              · rw [vBytes, wText_mk]
                rw [if_neg (by omega), if_neg (by omega), if_pos hk, u8_of hc]
                simp
          · split at h
            · rename_i hk2 hk3 hk4 hk5 hk
              obtain ⟨b, h1, rfl, h2⟩ := map_pair h
              unfold rHexa at h1 h2
              split at h1
              · cases h1
              · rename_i l1 e
                rw [e] at h2
                obtain ⟨c, rfl, hc⟩ := rAcc_some e
                obtain ⟨d, rfl, q2, rfl⟩ := rHex_sound _ _ _ _ _ (Prod.ext h1 h2)
                refine ⟨⟨rfl, ?_⟩, ?_⟩
                · rw [if_neg hk2, if_neg hk3, if_neg hk4, if_neg hk5, if_pos hk]; exact ⟨rfl, rfl, q2⟩
                · rw [vBytes, wText_mk]
                  rw [if_neg (by omega), if_neg (by omega), if_neg (by omega), if_pos hk, u8_of hc]
                  simp
            · split at h
              · rename_i hk2 hk3 hk4 hk5 hk6 hk
                have h1s : t.subs.length = 1 := hW.2.2.2.2.1 (by omega)
                obtain ⟨vs, h1, rfl, h2⟩ := map_pair h
                obtain ⟨q1, q2, rfl⟩ := rList_sound (hsub 0 (by omega)) (Prod.ext h1 h2)
                refine ⟨⟨rfl, ?_⟩, ?_⟩
                · rw [if_neg hk2, if_neg hk3, if_neg hk4, if_neg hk5, if_neg hk6, if_pos hk]; exact ⟨rfl, rfl, q1, q2⟩
                · rw [vParts, wText_mk]
                  rw [if_neg (by omega), if_neg (by omega), if_neg (by omega), if_neg (by omega), if_pos hk]
              · split at h
                · rename_i hk2 hk3 hk4 hk5 hk6 hk7 hk
                  have h1s : t.subs.length = 1 := hW.2.2.2.2.1 (by omega)
                  obtain ⟨vs, h1, rfl, h2⟩ := map_pair h
                  obtain ⟨q1, q2, rfl⟩ := rOpt_sound (hsub 0 (by omega)) (Prod.ext h1 h2)
                  refine ⟨⟨rfl, ?_⟩, ?_⟩
                  · rw [if_neg hk2, if_neg hk3, if_neg hk4, if_neg hk5, if_neg hk6, if_neg hk7, if_pos hk]; exact ⟨rfl, rfl, q1, q2⟩
                  · rw [vParts, wText_mk]
                    rw [if_neg (by omega), if_neg (by omega), if_neg (by omega), if_neg (by omega), if_neg (by omega), if_pos hk]
                · split at h
                  · rename_i hk2 hk3 hk4 hk5 hk6 hk7 hk8 hk
                    obtain ⟨vs, h1, rfl, h2⟩ := map_pair h
                    obtain ⟨d, e1, q1, q2, rfl⟩ := rFields_sound (P := Valid k) t.subs (fun u hu l v r => ih u l v r (hW.2.2.1 u hu)) 123 _ _ _ _ (Prod.ext h1 h2)
                    rw [List.nil_append] at e1
                    subst e1
                    refine ⟨⟨rfl, ?_⟩, ?_⟩
                    · rw [if_neg hk2, if_neg hk3, if_neg hk4, if_neg hk5, if_neg hk6, if_neg hk7, if_neg hk8, if_pos hk]
                      refine ⟨rfl, rfl, q1, fun i x hx => q2 i x _ hx (PT.sub_some ?_)⟩
                      have := (List.getElem?_eq_some_iff.1 hx).1
                      simp [vParts] at this
                      omega
                    · rw [vParts, wText_mk]
                      rw [if_neg (by omega), if_neg (by omega), if_neg (by omega), if_neg (by omega), if_neg (by omega), if_neg (by omega), if_pos hk]
                      have hpos := hW.2.2.2.1 (by omega)
                      cases vs with
                      | nil => simp at q1; rw [← q1] at hpos; simp at hpos
                      | cons x d => rw [wAhead_between]; simp
                  · rename_i hk2 hk3 hk4 hk5 hk6 hk7 hk8 hk9
                    obtain ⟨p, h1, rfl, h2⟩ := map_pair h
                    unfold rCase at h1 h2
                    split at h1
                    · cases h1
                    · rename_i i l1 e
                      rw [e] at h2
                      obtain ⟨x, pre, e1, e2, rfl⟩ := rOne_sound _ _ _ _ _ e
                      rw [List.nil_append] at e2
                      subst e2
                      simp only [List.getElem?_map, Option.map_eq_some_iff] at e1
                      obtain ⟨nm, hnm, rfl⟩ := e1
                      have hi : i < t.subs.length := by
                        have := (List.getElem?_eq_some_iff.1 hnm).1
                        rw [hW.2.1] at this
                        exact this
                      simp only [Option.map_eq_some_iff] at h1
                      obtain ⟨v, h1, rfl⟩ := h1
                      obtain ⟨q1, rfl⟩ := hsub i hi _ _ _ (Prod.ext h1 h2)
                      refine ⟨⟨rfl, ?_⟩, ?_⟩
                      · rw [if_neg hk2, if_neg hk3, if_neg hk4, if_neg hk5, if_neg hk6, if_neg hk7, if_neg hk8, if_neg hk9]
                        exact ⟨rfl, i, v, rfl, hi, rfl, q1⟩
                      · rw [vParts, wText_mk]
                        rw [if_neg (by omega), if_neg (by omega), if_neg (by omega), if_neg (by omega), if_neg (by omega), if_neg (by omega), if_neg (by omega)]
                        simp [PT.name, hnm, nameBs, wFirst]

theorem wText_head : ∀ (k : Nat) (t : PT) (v : PV), WFT k t → Valid k t v → ∃ b l, wText k v = b :: l ∧ b.toNat ≠ 93 := by
  intro k t v hW hV
  cases k with
  | zero => exact hV.elim
  | succ k =>
    obtain ⟨rfl, hV⟩ := hV
    simp only [wText]
    split
    · rename_i hk
      have hn : v.num.natAbs < 10 ^ 20 := by
        split at hV
        · have := mostOf_ge v.of.kind; omega
        · rw [if_pos (by omega)] at hV; omega
      unfold decI
      split
      · exact ⟨45, _, rfl, by decide⟩
      · rcases Nat.eq_zero_or_pos v.num.natAbs with e | e
        · rw [e]; exact ⟨48, _, rfl, by decide⟩
        · obtain ⟨b, l, hd, h1, h2⟩ := decN_head 20 v.num.natAbs hn (by omega) e
          exact ⟨b, l, hd, by omega⟩
    · split
      · split
        · exact ⟨110, _, rfl, by decide⟩
        · exact ⟨121, _, rfl, by decide⟩
      · split
        · exact ⟨34, _, rfl, by decide⟩
        · split
          · exact ⟨120, _, rfl, by decide⟩
          · split
            · exact ⟨91, _, rfl, by decide⟩
            · split
              · rcases v.parts with _ | ⟨x, d⟩
                · exact ⟨45, _, rfl, by decide⟩
                · exact ⟨43, _, rfl, by decide⟩
              · split
                · exact ⟨123, _, rfl, by decide⟩
                · rename_i hk3 hk4 hk5 hk6 hk7 hk8 hk9
                  have hl := (hW.2.2.2.2.2.2 (by omega)).2
                  unfold PT.name
                  rcases hq : v.of.names[v.num.toNat]? with _ | nm
                  · exact ⟨58, _, rfl, by decide⟩
                  · simp only [Option.getD_some]
                    rcases hd : nm.data.toList with _ | ⟨b, d⟩
                    · exact ⟨58, _, rfl, by decide⟩
                    · have := hl nm (List.mem_of_getElem? hq) b (by rw [hd]; simp)
                      exact ⟨b, _, rfl, by omega⟩

theorem rText_whole : ∀ (k : Nat) (t : PT) (v : PV) (r : Bs), WFT k t → Valid k t v → Stop r → rText k t (wText k v ++ r) = (some v, r) := by
  intro k
  induction k with
  | zero => intro t v r h; exact h.elim
  | succ k ih =>
    intro t v r hW hV hr
    have hsub : ∀ i, i < t.subs.length → ∀ v r, Valid k (t.sub i) v → Stop r → rText k (t.sub i) (wText k v ++ r) = (some v, r) := fun i hi v r => ih (t.sub i) v r (hW.sub hi)
    obtain ⟨vt, vn, vb, vp⟩ := v
    obtain ⟨e, hV⟩ := hV
    simp only at e
    subst e
    simp only [rText, wText]
    simp only at hV
    split at hV
    · rename_i hk
      obtain ⟨rfl, rfl, h0, h1⟩ := hV
      rw [if_pos hk, if_pos (by omega), decI, if_neg (by omega), rUns_whole (mostOf_ge _).1 (mostOf_ge _).2 (by omega) hr.digit]
      simp [vNum]; omega
    · rename_i hk2
      rw [if_neg hk2]
      split at hV
      · rename_i hk
        obtain ⟨rfl, rfl, h0, h1⟩ := hV
        rw [if_pos hk, if_pos (by omega), rSigned_whole h0 h1 hr.digit]
        simp [vNum]
      · rename_i hk3
        rw [if_neg hk3, if_neg (show ¬ vt.kind ≤ 3 by omega)]
        split at hV
        · rename_i hk
          obtain ⟨rfl, rfl, h0⟩ := hV
          rw [if_pos hk, if_pos hk]
          rcases h0 with rfl | rfl
          · rw [if_pos rfl, rOne_whole _ yesno_free wNo [] r 0 rfl]; rfl
          · rw [if_neg (by decide), rOne_whole _ yesno_free wYes [] r 1 rfl]; rfl
        · rename_i hk4
          rw [if_neg hk4, if_neg hk4]
          split at hV
          · rename_i hk
            obtain ⟨rfl, rfl, h0, h1⟩ := hV
            rw [if_pos hk, if_pos hk]
            have : rQuoted (34 :: (wQuo vb ++ [34]) ++ r) = (some vb, r) := by
              unfold rQuoted
              rw [List.cons_append, rAcc_cons (b := 34) (c := 34) rfl]
              simp only
              have := rQuo_whole vb 300 [] r h0 h1
              simpa using this
            rw [this]; rfl
          · rename_i hk5
            rw [if_neg hk5, if_neg hk5]
            split at hV
            · rename_i hk
              obtain ⟨rfl, rfl, h0⟩ := hV
              rw [if_pos hk, if_pos hk]
              have : rHexa (120 :: wHex vb ++ r) = (some vb, r) := by
                unfold rHexa
                rw [List.cons_append, rAcc_cons (b := 120) (c := 120) rfl]
                simp only
                have := rHex_whole vb 300 [] r h0 hr.hex
                simpa using this
              rw [this]; rfl
            · rename_i hk6
              rw [if_neg hk6, if_neg hk6]
              split at hV
              · rename_i hk
                have h1s : vt.subs.length = 1 := hW.2.2.2.2.1 (by omega)
                obtain ⟨rfl, rfl, h0, h1⟩ := hV
                rw [if_pos hk, if_pos hk, rList_whole (P := Valid k (vt.sub 0)) (hsub 0 (by omega)) (fun v hv => wText_head k (vt.sub 0) v (hW.sub (by omega)) hv) r h0 h1]
                rfl
              · rename_i hk7
                rw [if_neg hk7, if_neg hk7]
                split at hV
                · rename_i hk
                  have h1s : vt.subs.length = 1 := hW.2.2.2.2.1 (by omega)
                  obtain ⟨rfl, rfl, h0, h1⟩ := hV
                  rw [if_pos hk, if_pos hk, rOpt_whole (P := Valid k (vt.sub 0)) (hsub 0 (by omega)) r hr h0 h1]
                  rfl
                · rename_i hk8
                  rw [if_neg hk8, if_neg hk8]
                  split at hV
                  · rename_i hk
                    obtain ⟨rfl, rfl, h0, h1⟩ := hV
                    rw [if_pos hk, if_pos hk]
                    have hpos := hW.2.2.2.1 (by omega)
                    have := rFields_whole (P := Valid k) (f := wText k) vt.subs (fun u hu v r => ih u v r (hW.2.2.1 u hu)) 123 [] vp r h0 (fun i x t hx ht => by
                      have := h1 i x hx
                      unfold PT.sub at this
                      rw [ht] at this
                      exact this)
                    have e : 123 :: (wBetween (wText k) vp ++ [125]) ++ r = wAhead (wText k) 123 vp ++ 125 :: r := by
                      cases vp with
                      | nil => simp at h0; rw [← h0] at hpos; simp at hpos
                      | cons x d => rw [wAhead_between]; simp
                    rw [e, show (123 : Nat) = (123 : UInt8).toNat from rfl, this]
                    rfl
                  · rename_i hk9
                    rw [if_neg hk9, if_neg hk9]
                    obtain ⟨rfl, i, x, rfl, hi, rfl, hx⟩ := hV
                    have hnl : i < vt.names.length := by rw [hW.2.1]; exact hi
                    have hnm : (vt.names.map nameBs)[i]? = some (vt.name i ++ [58]) := by
                      simp [PT.name, nameBs, List.getElem?_eq_getElem hnl]
                    have : rCase (rText k) vt (vt.name (i : Int).toNat ++ 58 :: wText k x ++ r) = (some (i, x), r) := by
                      unfold rCase
                      have h1 := rOne_whole _ (hW.names (by have := hW.1; omega)) (vt.name i ++ [58]) [] (wText k x ++ r) i (by simpa using hnm)
                      rw [show vt.name (i : Int).toNat ++ 58 :: wText k x ++ r = vt.name i ++ [58] ++ (wText k x ++ r) by simp, h1]
                      simp only
                      rw [hsub i hi x r hx hr]
                      rfl
                    rw [wFirst, this]
                    rfl

theorem rMsg_sound : ∀ (k : Nat) (t : PT) (l : Bs) (v : PV) (r : Bs), WFT k t → rMsg k t l = (some v, r) → Valid k t v ∧ l = wMsg k v ++ r := by
  intro k
  induction k with
  | zero => intro t l v r h; exact h.elim
  | succ k ih =>
    intro t l v r hW h
    have hsub : ∀ i, i < t.subs.length → ∀ l v r, rMsg k (t.sub i) l = (some v, r) → Valid k (t.sub i) v ∧ l = wMsg k v ++ r := fun i hi l v r => ih (t.sub i) l v r (hW.sub hi)
    simp only [rMsg] at h
    split at h
    · rename_i hk
      obtain ⟨b, h1, rfl, h2⟩ := map_pair h
      obtain ⟨q1, rfl⟩ := mTake_some (Prod.ext h1 h2)
      have hlt := leNat_lt b
      rw [q1] at hlt
      refine ⟨⟨rfl, ?_⟩, ?_⟩
      · rw [if_pos hk]
        refine ⟨rfl, rfl, by simp [vNum], ?_⟩
        simp only [vNum]
        unfold widthOf at hlt
        unfold mostOf
        split at hlt
        · rw [if_pos (by assumption)]; simp at hlt; omega
        · split at hlt
          · rw [if_neg (by assumption), if_pos (by assumption)]; simp at hlt; omega
          · rw [if_neg (by assumption), if_neg (by assumption)]; simp at hlt; omega
      · rw [vNum, wMsg_mk]
        rw [if_pos hk, Int.toNat_natCast, ← q1, leBytes_leNat]
    · split at h
      · rename_i hk2 hk
        obtain ⟨b, h1, rfl, h2⟩ := map_pair h
        obtain ⟨q1, rfl⟩ := mTake_some (Prod.ext h1 h2)
        have hlt : beNat b < 18446744073709551616 := by
          rw [beNat_leNat]
          have := leNat_lt b.reverse
          rw [List.length_reverse, q1] at this
          exact this
        refine ⟨⟨rfl, ?_⟩, ?_⟩
        · rw [if_neg hk2, if_pos hk]
          have := toInt64_range hlt
          exact ⟨rfl, rfl, this.1, this.2⟩
        · rw [vNum, wMsg_mk]
          rw [if_neg hk2, if_pos hk, ofInt64_to hlt, beNat_leNat, beBytes]
          have := leBytes_leNat b.reverse
          rw [List.length_reverse, q1] at this
          rw [this, List.reverse_reverse]
      · split at h
        · rename_i hk2 hk3 hk
          obtain ⟨n, h1, rfl, h2⟩ := map_pair h
          obtain ⟨q1, rfl⟩ := mBelow_some (Prod.ext h1 h2)
          refine ⟨⟨rfl, ?_⟩, ?_⟩
          · rw [if_neg hk2, if_neg hk3, if_pos hk]; exact ⟨rfl, rfl, by simp [vNum]; omega⟩
          · rw [vNum, wMsg_mk]
            rw [if_neg hk2, if_neg hk3, if_pos hk, Int.toNat_natCast]; rfl
        · split at h
          · rename_i hk2 hk3 hk4 hk
            obtain ⟨b, h1, rfl, h2⟩ := map_pair h
            unfold mText at h1 h2
            split at h1
            · cases h1
            · rename_i n l1 e
              rw [e] at h2
              obtain ⟨q1, rfl⟩ := mCount_some e
              obtain ⟨d, e1, q2, q3, rfl⟩ := mVis_some _ _ _ _ _ (Prod.ext h1 h2)
              rw [List.nil_append] at e1
              subst e1
              refine ⟨⟨rfl, ?_⟩, ?_⟩
              · rw [if_neg hk2, if_neg hk3, if_neg hk4, if_pos hk]; exact ⟨rfl, rfl, by simp [vBytes]; omega, q3⟩
              · rw [vBytes, wMsg_mk]
                rw [if_neg hk2, if_neg hk3, if_neg hk4, if_pos (by omega), q2]
                simp
          · split at h
            · rename_i hk2 hk3 hk4 hk5 hk
              obtain ⟨b, h1, rfl, h2⟩ := map_pair h
              unfold mBytes at h1 h2
              split at h1
              · cases h1
              · rename_i n l1 e
                rw [e] at h2
                obtain ⟨q1, rfl⟩ := mCount_some e
                obtain ⟨q2, rfl⟩ := mTake_some (Prod.ext h1 h2)
                refine ⟨⟨rfl, ?_⟩, ?_⟩
                · rw [if_neg hk2, if_neg hk3, if_neg hk4, if_neg hk5, if_pos hk]; exact ⟨rfl, rfl, by simp [vBytes]; omega⟩
                · rw [vBytes, wMsg_mk]
                  rw [if_neg hk2, if_neg hk3, if_neg hk4, if_pos (by omega), q2]
                  simp
            · split at h
              · rename_i hk2 hk3 hk4 hk5 hk6 hk
                have h1s : t.subs.length = 1 := hW.2.2.2.2.1 (by omega)
                obtain ⟨vs, h1, rfl, h2⟩ := map_pair h
                unfold mList at h1 h2
                split at h1
                · cases h1
                · rename_i n l1 e
                  rw [e] at h2
                  obtain ⟨q1, rfl⟩ := mCount_some e
                  obtain ⟨d, e1, q2, q3, rfl⟩ := mSeveral_sound (hsub 0 (by omega)) _ _ _ _ _ (Prod.ext h1 h2)
                  rw [List.nil_append] at e1
                  subst e1
                  refine ⟨⟨rfl, ?_⟩, ?_⟩
                  · rw [if_neg hk2, if_neg hk3, if_neg hk4, if_neg hk5, if_neg hk6, if_pos hk]; exact ⟨rfl, rfl, by simp [vParts]; omega, q3⟩
                  · rw [vParts, wMsg_mk]
                    rw [if_neg hk2, if_neg hk3, if_neg hk4, if_neg (by omega), if_pos (by omega), q2]
                    simp
              · split at h
                · rename_i hk2 hk3 hk4 hk5 hk6 hk7 hk
                  have h1s : t.subs.length = 1 := hW.2.2.2.2.1 (by omega)
                  obtain ⟨vs, h1, rfl, h2⟩ := map_pair h
                  unfold mOpt at h1 h2
                  split at h1
                  · cases h1
                  · rename_i n l1 e
                    rw [e] at h2
                    obtain ⟨q1, rfl⟩ := mBelow_some e
                    obtain ⟨d, e1, q2, q3, rfl⟩ := mSeveral_sound (hsub 0 (by omega)) _ _ _ _ _ (Prod.ext h1 h2)
                    rw [List.nil_append] at e1
                    subst e1
                    refine ⟨⟨rfl, ?_⟩, ?_⟩
                    · rw [if_neg hk2, if_neg hk3, if_neg hk4, if_neg hk5, if_neg hk6, if_neg hk7, if_pos hk]; exact ⟨rfl, rfl, by simp [vParts]; omega, q3⟩
                    · rw [vParts, wMsg_mk]
                      rw [if_neg hk2, if_neg hk3, if_neg hk4, if_neg (by omega), if_pos (by omega), q2]
                      simp [wCount, show n ≤ 127 by omega]
                · split at h
                  · rename_i hk2 hk3 hk4 hk5 hk6 hk7 hk8 hk
                    obtain ⟨vs, h1, rfl, h2⟩ := map_pair h
                    obtain ⟨d, e1, q1, q2, rfl⟩ := mFields_sound (P := Valid k) t.subs (fun u hu l v r => ih u l v r (hW.2.2.1 u hu)) _ _ _ _ (Prod.ext h1 h2)
                    rw [List.nil_append] at e1
                    subst e1
                    refine ⟨⟨rfl, ?_⟩, ?_⟩
                    · rw [if_neg hk2, if_neg hk3, if_neg hk4, if_neg hk5, if_neg hk6, if_neg hk7, if_neg hk8, if_pos hk]
                      refine ⟨rfl, rfl, q1, fun i x hx => q2 i x _ hx (PT.sub_some ?_)⟩
                      have := (List.getElem?_eq_some_iff.1 hx).1
                      simp [vParts] at this
                      omega
                    · rw [vParts, wMsg_mk]
                      rw [if_neg hk2, if_neg hk3, if_neg hk4, if_neg (by omega), if_neg (by omega), if_pos hk]
                  · rename_i hk2 hk3 hk4 hk5 hk6 hk7 hk8 hk9
                    obtain ⟨p, h1, rfl, h2⟩ := map_pair h
                    unfold mCase at h1 h2
                    split at h1
                    · cases h1
                    · rename_i i l1 e
                      rw [e] at h2
                      obtain ⟨hi, rfl⟩ := mBelow_some e
                      simp only [Option.map_eq_some_iff] at h1
                      obtain ⟨v, h1, rfl⟩ := h1
                      obtain ⟨q1, rfl⟩ := hsub i hi _ _ _ (Prod.ext h1 h2)
                      refine ⟨⟨rfl, ?_⟩, ?_⟩
                      · rw [if_neg hk2, if_neg hk3, if_neg hk4, if_neg hk5, if_neg hk6, if_neg hk7, if_neg hk8, if_neg hk9]
                        exact ⟨rfl, i, v, rfl, hi, rfl, q1⟩
                      · rw [vParts, wMsg_mk]
                        rw [if_neg hk2, if_neg hk3, if_neg hk4, if_neg (by omega), if_neg (by omega), if_neg hk9]
                        simp

theorem rMsg_whole : ∀ (k : Nat) (t : PT) (v : PV) (r : Bs), WFT k t → Valid k t v → rMsg k t (wMsg k v ++ r) = (some v, r) := by
  intro k
  induction k with
  | zero => intro t v r h; exact h.elim
  | succ k ih =>
    intro t v r hW hV
    have hsub : ∀ i, i < t.subs.length → ∀ v r, Valid k (t.sub i) v → rMsg k (t.sub i) (wMsg k v ++ r) = (some v, r) := fun i hi v r => ih (t.sub i) v r (hW.sub hi)
    obtain ⟨vt, vn, vb, vp⟩ := v
    obtain ⟨e, hV⟩ := hV
    simp only at e
    subst e
    simp only [rMsg, wMsg]
    simp only at hV
    split at hV
    · rename_i hk
      obtain ⟨rfl, rfl, h0, h1⟩ := hV
      rw [if_pos hk, if_pos hk]
      have hlt : vn.toNat < 256 ^ widthOf vt.kind := by
        unfold widthOf
        unfold mostOf at h1
        split at h1
        · rw [if_pos (by assumption)]; simp; omega
        · split at h1
          · rw [if_neg (by assumption), if_pos (by assumption)]; simp; omega
          · rw [if_neg (by assumption), if_neg (by assumption)]; simp; omega
      have := mTake_whole (b := leBytes (widthOf vt.kind) vn.toNat) r
      rw [leBytes_length] at this
      rw [this]
      simp only [Option.map_some, leNat_leBytes _ _ hlt, vNum]
      rw [Int.toNat_of_nonneg h0]
    · rename_i hk2
      rw [if_neg hk2, if_neg hk2]
      split at hV
      · rename_i hk
        obtain ⟨rfl, rfl, h0, h1⟩ := hV
        rw [if_pos hk, if_pos hk]
        have := mTake_whole (b := beBytes 8 (ofInt64 vn)) r
        rw [show (beBytes 8 (ofInt64 vn)).length = 8 by simp [beBytes, leBytes_length]] at this
        rw [this]
        simp only [Option.map_some, beNat_leNat, beBytes, List.reverse_reverse]
        rw [leNat_leBytes 8 _ (by unfold ofInt64; omega), toInt64_of h0 h1]
        rfl
      · rename_i hk3
        rw [if_neg hk3, if_neg hk3]
        split at hV
        · rename_i hk
          obtain ⟨rfl, rfl, h0⟩ := hV
          rw [if_pos hk, if_pos hk, List.cons_append, mBelow_whole (by omega) (by omega)]
          simp [vNum]; omega
        · rename_i hk4
          rw [if_neg hk4, if_neg hk4]
          split at hV
          · rename_i hk
            obtain ⟨rfl, rfl, h0, h1⟩ := hV
            rw [if_pos hk, if_pos (by omega)]
            have : mText (wCount vb.length ++ vb ++ r) = (some vb, r) := by
              unfold mText
              rw [List.append_assoc, mCount_whole h0]
              simp only
              have := mVis_whole vb [] r h1
              simpa using this
            rw [this]; rfl
          · rename_i hk5
            rw [if_neg hk5]
            split at hV
            · rename_i hk
              obtain ⟨rfl, rfl, h0⟩ := hV
              rw [if_pos hk, if_pos (by omega)]
              have : mBytes (wCount vb.length ++ vb ++ r) = (some vb, r) := by
                unfold mBytes
                rw [List.append_assoc, mCount_whole h0]
                simp only
                exact mTake_whole r
              rw [this]; rfl
            · rename_i hk6
              rw [if_neg hk6, if_neg (show ¬ vt.kind ≤ 6 by omega)]
              split at hV
              · rename_i hk
                have h1s : vt.subs.length = 1 := hW.2.2.2.2.1 (by omega)
                obtain ⟨rfl, rfl, h0, h1⟩ := hV
                rw [if_pos hk, if_pos (by omega)]
                have : mList (rMsg k (vt.sub 0)) (wCount vp.length ++ vp.flatMap (wMsg k) ++ r) = (some vp, r) := by
                  unfold mList
                  rw [List.append_assoc, mCount_whole h0]
                  simp only
                  have := mSeveral_whole (P := Valid k (vt.sub 0)) (hsub 0 (by omega)) vp [] r h1
                  simpa using this
                rw [this]; rfl
              · rename_i hk7
                rw [if_neg hk7]
                split at hV
                · rename_i hk
                  have h1s : vt.subs.length = 1 := hW.2.2.2.2.1 (by omega)
                  obtain ⟨rfl, rfl, h0, h1⟩ := hV
                  rw [if_pos hk, if_pos (by omega)]
                  have : mOpt (rMsg k (vt.sub 0)) (wCount vp.length ++ vp.flatMap (wMsg k) ++ r) = (some vp, r) := by
                    unfold mOpt
                    rw [List.append_assoc, wCount, if_pos (by omega), List.cons_append, mBelow_whole (by omega) (by omega)]
                    simp only
                    have := mSeveral_whole (P := Valid k (vt.sub 0)) (hsub 0 (by omega)) vp [] r h1
                    simpa using this
                  rw [this]; rfl
                · rename_i hk8
                  rw [if_neg hk8, if_neg (show ¬ vt.kind ≤ 8 by omega)]
                  split at hV
                  · rename_i hk
                    obtain ⟨rfl, rfl, h0, h1⟩ := hV
                    rw [if_pos hk, if_pos hk]
                    have := mFields_whole (P := Valid k) (f := wMsg k) vt.subs (fun u hu v r => ih u v r (hW.2.2.1 u hu)) [] vp r h0 (fun i x t hx ht => by
                      have := h1 i x hx
                      unfold PT.sub at this
                      rw [ht] at this
                      exact this)
                    rw [this]
                    rfl
                  · rename_i hk9
                    rw [if_neg hk9, if_neg hk9]
                    obtain ⟨rfl, i, x, rfl, hi, rfl, hx⟩ := hV
                    have h6 := hW.2.2.2.2.2.1.1
                    have : mCase (rMsg k) vt (UInt8.ofNat (i : Int).toNat :: [x].flatMap (wMsg k) ++ r) = (some (i, x), r) := by
                      unfold mCase
                      rw [Int.toNat_natCast, List.cons_append, mBelow_whole hi (by omega)]
                      simp only [List.flatMap_cons, List.flatMap_nil, List.append_nil]
                      rw [hsub i hi x r hx]
                      rfl
                    rw [this]
                    rfl

end Go.Proofs.YtapblkmlhoalgaaGreatDoor
