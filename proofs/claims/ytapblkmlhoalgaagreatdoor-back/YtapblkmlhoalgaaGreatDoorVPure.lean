/- What is read of a value's text and bytes is what is written of it, piece by piece. -/
import Derived.Test.YtapblkmlhoalgaaGreatDoorVal
namespace Go.Proofs.YtapblkmlhoalgaaGreatDoor

theorem rAcc_some {c : Nat} {l r : Bs} (h : rAcc c l = some r) : ∃ b, l = b :: r ∧ b.toNat = c := by
  cases l with
  | nil => simp [rAcc] at h
  | cons b l =>
    simp only [rAcc] at h
    split at h
    · rename_i e; simp at h; subst h; exact ⟨b, rfl, e⟩
    · simp at h
theorem u8_of {b : UInt8} {n : Nat} (h : b.toNat = n) : b = UInt8.ofNat n := by subst h; simp
theorem toNat_ofNat {n : Nat} (h : n < 256) : (UInt8.ofNat n).toNat = n := by simp; omega
theorem rAcc_cons {c : Nat} {b : UInt8} {l : Bs} (h : b.toNat = c) : rAcc c (b :: l) = some l := by simp [rAcc, h]
theorem rAcc_ne {c : Nat} {b : UInt8} {l : Bs} (h : b.toNat ≠ c) : rAcc c (b :: l) = none := by simp [rAcc, h]

/-! ### Numbers -/

theorem decN_succ : ∀ (f n : Nat), 0 < f → n < 10 ^ f → decN (f + 1) n = decN f n := by
  intro f
  induction f with
  | zero => intro n h; omega
  | succ f ih =>
    intro n _ h
    show (if n < 10 then [] else decN (f + 1) (n / 10)) ++ _ = (if n < 10 then [] else decN f (n / 10)) ++ _
    by_cases hn : n < 10
    · simp [hn]
    · rw [Nat.pow_succ] at h
      have hf : 0 < f := by
        rcases Nat.eq_zero_or_pos f with e | e
        · subst e; simp at h; omega
        · exact e
      rw [if_neg hn, if_neg hn, ih (n / 10) hf (by omega)]
theorem decN_step {a d : Nat} (ha : 0 < a) (hd : d < 10) (h : a * 10 + d < 10 ^ 20) : decN 20 (a * 10 + d) = decN 20 a ++ [UInt8.ofNat (48 + d)] := by
  rw [decN_succ 19 a (by omega) (by omega)]
  show (if a * 10 + d < 10 then [] else decN 19 ((a * 10 + d) / 10)) ++ [UInt8.ofNat (48 + (a * 10 + d) % 10)] = _
  rw [if_neg (by omega), show (a * 10 + d) / 10 = a by omega, show (a * 10 + d) % 10 = d by omega]
theorem decN_one {d : Nat} (hd : d < 10) : decN 20 d = [UInt8.ofNat (48 + d)] := by
  show (if d < 10 then [] else decN 19 (d / 10)) ++ [UInt8.ofNat (48 + d % 10)] = _
  rw [if_pos hd, Nat.mod_eq_of_lt hd]; rfl

theorem rDigits_sound (most : Nat) (hm : 9 ≤ most) (hM : most < 10 ^ 20) : ∀ (l : Bs) (acc n : Nat) (r : Bs), 0 < acc → acc ≤ most → rDigits most acc l = (n, r) → n ≤ most ∧ 0 < n ∧ decN 20 acc ++ l = decN 20 n ++ r := by
  intro l
  induction l with
  | nil => intro acc n r h0 h1 h; simp [rDigits] at h; obtain ⟨rfl, rfl⟩ := h; exact ⟨h1, h0, rfl⟩
  | cons b l ih =>
    intro acc n r h0 h1 h
    simp only [rDigits] at h
    split at h
    · simp at h; obtain ⟨rfl, rfl⟩ := h; exact ⟨h1, h0, rfl⟩
    · rename_i hc
      have hb : b.toNat - 48 < 10 := by omega
      have hle : acc * 10 + (b.toNat - 48) ≤ most := by omega
      obtain ⟨q1, q2, q3⟩ := ih _ n r (by omega) hle h
      refine ⟨q1, q2, ?_⟩
      rw [decN_step h0 hb (by omega), show 48 + (b.toNat - 48) = b.toNat by omega] at q3
      rw [← q3]; simp

theorem rUns_sound {most n : Nat} {l r : Bs} (hm : 9 ≤ most) (hM : most < 10 ^ 20) (h : rUns most l = (some n, r)) : n ≤ most ∧ l = decN 20 n ++ r := by
  unfold rUns at h
  split at h
  · rename_i r' e
    obtain ⟨b, rfl, hb⟩ := rAcc_some e
    simp at h
    obtain ⟨rfl, rfl⟩ := h
    rw [u8_of hb]
    exact ⟨by omega, rfl⟩
  · rename_i e
    simp only [Prod.mk.injEq] at h
    obtain ⟨h1, h2⟩ := h
    split at h1
    · rename_i hlt
      simp at h1
      cases l with
      | nil => simp at hlt
      | cons b l =>
        have hb48 : b.toNat ≠ 48 := by
          intro hb; rw [rAcc_cons hb] at e; cases e
        simp only [rDigits] at h1 h2 hlt
        split at hlt
        · simp at hlt
        · rename_i hc
          rw [if_neg hc] at h1 h2
          have hd : b.toNat - 48 < 10 := by omega
          obtain ⟨q1, _, q3⟩ := rDigits_sound most hm hM l (0 * 10 + (b.toNat - 48)) n r (by omega) (by omega) (by rw [← h1, ← h2])
          refine ⟨q1, ?_⟩
          rw [← q3, show 0 * 10 + (b.toNat - 48) = b.toNat - 48 by omega, decN_one hd, show 48 + (b.toNat - 48) = b.toNat by omega]
          simp
    · cases h1

def StopD (r : Bs) : Prop := ∀ b l, r = b :: l → b.toNat < 48 ∨ 57 < b.toNat
theorem rDigits_stop {most n : Nat} {r : Bs} (h : StopD r) : rDigits most n r = (n, r) := by
  cases r with
  | nil => rfl
  | cons b l =>
    have := h b l rfl
    simp only [rDigits]
    rw [if_pos (by omega)]
theorem rDigits_whole {most : Nat} (hm : 9 ≤ most) : ∀ (f n : Nat) (r : Bs), n < 10 ^ f → 0 < f → n ≤ most → rDigits most 0 (decN f n ++ r) = rDigits most n r := by
  intro f
  induction f with
  | zero => intro n r _ h; omega
  | succ f ih =>
    intro n r h _ hle
    have hd : (UInt8.ofNat (48 + n % 10)).toNat = 48 + n % 10 := toNat_ofNat (by omega)
    show rDigits most 0 (((if n < 10 then [] else decN f (n / 10)) ++ [UInt8.ofNat (48 + n % 10)]) ++ r) = _
    by_cases hn : n < 10
    · rw [if_pos hn]
      simp only [List.nil_append, List.cons_append, rDigits]
      rw [hd, if_neg (by omega)]
      congr 1; omega
    · rw [if_neg hn, List.append_assoc]
      rw [Nat.pow_succ] at h
      have hf : 0 < f := by
        rcases Nat.eq_zero_or_pos f with e | e
        · subst e; simp at h; omega
        · exact e
      rw [ih (n / 10) _ (by omega) hf (by omega)]
      simp only [List.nil_append, List.cons_append, rDigits]
      rw [hd, if_neg (by omega)]
      congr 1; omega
theorem decN_head : ∀ (f n : Nat), n < 10 ^ f → 0 < f → 0 < n → ∃ b l, decN f n = b :: l ∧ 49 ≤ b.toNat ∧ b.toNat ≤ 57 := by
  intro f
  induction f with
  | zero => intro n _ h; omega
  | succ f ih =>
    intro n h _ h0
    show ∃ b l, (if n < 10 then [] else decN f (n / 10)) ++ [UInt8.ofNat (48 + n % 10)] = b :: l ∧ _
    by_cases hn : n < 10
    · rw [if_pos hn]
      refine ⟨_, _, rfl, ?_⟩
      rw [toNat_ofNat (by omega)]; omega
    · rw [if_neg hn]
      rw [Nat.pow_succ] at h
      have hf : 0 < f := by
        rcases Nat.eq_zero_or_pos f with e | e
        · subst e; simp at h; omega
        · exact e
      obtain ⟨b, l, e, h1, h2⟩ := ih (n / 10) (by omega) hf (by omega)
      exact ⟨b, l ++ [UInt8.ofNat (48 + n % 10)], by rw [e]; rfl, h1, h2⟩
theorem rUns_whole {most n : Nat} {r : Bs} (hm : 9 ≤ most) (hM : most < 10 ^ 20) (hn : n ≤ most) (hr : StopD r) : rUns most (decN 20 n ++ r) = (some n, r) := by
  rcases Nat.eq_zero_or_pos n with e | e
  · subst e; rfl
  · obtain ⟨b, l, hd, h1, h2⟩ := decN_head 20 n (by omega) (by omega) e
    have hw := rDigits_whole hm 20 n r (by omega) (by omega) hn
    rw [rDigits_stop hr] at hw
    unfold rUns
    rw [hw]
    rw [hd, List.cons_append, rAcc_ne (by omega)]
    simp
    omega

theorem rSigned_sound {n : Int} {l r : Bs} (h : rSigned l = (some n, r)) : -9223372036854775808 ≤ n ∧ n ≤ 9223372036854775807 ∧ l = decI n ++ r := by
  unfold rSigned at h
  split at h
  · simp only [Prod.mk.injEq, Option.map_eq_some_iff] at h
    obtain ⟨⟨m, h1, rfl⟩, h2⟩ := h
    obtain ⟨q1, q2⟩ := rUns_sound (by omega) (by omega) (Prod.ext h1 h2)
    refine ⟨by simp only [Int.ofNat_eq_natCast]; omega, by simp only [Int.ofNat_eq_natCast]; omega, ?_⟩
    rw [q2, decI, if_neg (by simp)]
    rfl
  · rename_i r' e
    obtain ⟨b, rfl, hb⟩ := rAcc_some e
    split at h
    · simp at h
    · rename_i e2
      simp only [Prod.mk.injEq, Option.map_eq_some_iff] at h
      obtain ⟨⟨m, h1, rfl⟩, h2⟩ := h
      obtain ⟨q1, q2⟩ := rUns_sound (by omega) (by omega) (Prod.ext h1 h2)
      have hm0 : m ≠ 0 := by
        intro hm
        subst hm
        rw [q2] at e2
        have : decN 20 0 = [48] := rfl
        rw [this, List.cons_append, rAcc_cons (b := 48) (c := 48) rfl] at e2
        cases e2
      refine ⟨by omega, by omega, ?_⟩
      rw [q2, decI, if_pos (by omega), u8_of hb, show (-(m : Int)).natAbs = m by omega]
      rfl
theorem rSigned_whole {n : Int} {r : Bs} (h1 : -9223372036854775808 ≤ n) (h2 : n ≤ 9223372036854775807) (hr : StopD r) : rSigned (decI n ++ r) = (some n, r) := by
  unfold decI
  by_cases hn : n < 0
  · obtain ⟨b, l, hd, q1, q2⟩ := decN_head 20 n.natAbs (by omega) (by omega) (by omega)
    have hw := rUns_whole (most := 9223372036854775808) (n := n.natAbs) (by omega) (by omega) (by omega) hr
    rw [if_pos hn]
    unfold rSigned
    rw [List.cons_append, rAcc_cons (b := 45) (c := 45) rfl]
    simp only
    rw [hw, hd, List.cons_append, rAcc_ne (by omega)]
    simp
    omega
  · have hw := rUns_whole (most := 9223372036854775807) (n := n.natAbs) (by omega) (by omega) (by omega) hr
    rw [if_neg hn]
    have hnone : rAcc 45 (decN 20 n.natAbs ++ r) = none := by
      rcases Nat.eq_zero_or_pos n.natAbs with e | e
      · rw [e]; rfl
      · obtain ⟨b, l, hd, q1, q2⟩ := decN_head 20 n.natAbs (by omega) (by omega) e
        rw [hd, List.cons_append, rAcc_ne (by omega)]
    unfold rSigned
    rw [hnone]
    simp only
    rw [hw]
    simp
    omega

/-! ### One of some words -/

theorem rOne_sound (ws : List Bs) : ∀ (l got : Bs) (i : Nat) (r : Bs), rOne ws got l = (some i, r) → ∃ x pre, ws[i]? = some x ∧ got ++ pre = x ∧ l = pre ++ r := by
  have key : ∀ (got : Bs) (i : Nat), ws.findIdx? (fun x => x == got) = some i → ws[i]? = some got := by
    intro got i h
    obtain ⟨hi, he, _⟩ := List.findIdx?_eq_some_iff_getElem.1 h
    rw [List.getElem?_eq_getElem hi]
    simpa using he
  intro l
  induction l with
  | nil =>
    intro got i r h
    simp only [rOne, Prod.mk.injEq] at h
    exact ⟨got, [], key got i h.1, by simp, by simp [← h.2]⟩
  | cons b l ih =>
    intro got i r h
    simp only [rOne] at h
    split at h
    · rename_i j hj
      simp at h
      obtain ⟨rfl, rfl⟩ := h
      exact ⟨got, [], key got j hj, by simp, by simp⟩
    · split at h
      · obtain ⟨x, pre, h1, h2, h3⟩ := ih _ _ _ h
        exact ⟨x, b :: pre, h1, by rw [← h2]; simp, by rw [h3]; rfl⟩
      · simp at h
def PreFree (ws : List Bs) : Prop := ∀ (i j : Nat) (x y : Bs), ws[i]? = some x → ws[j]? = some y → x <+: y → i = j
theorem rOne_whole (ws : List Bs) (hp : PreFree ws) : ∀ (pre got r : Bs) (i : Nat), ws[i]? = some (got ++ pre) → rOne ws got (pre ++ r) = (some i, r) := by
  intro pre
  induction pre with
  | nil =>
    intro got r i h
    rw [List.append_nil] at h
    have hf : ws.findIdx? (fun x => x == got) = some i := by
      obtain ⟨hi, he⟩ := List.getElem?_eq_some_iff.1 h
      refine List.findIdx?_eq_some_iff_getElem.2 ⟨hi, by simp [he], fun j hj => ?_⟩
      simp only [beq_iff_eq]
      intro e
      have := hp j i got got (by rw [List.getElem?_eq_getElem (by omega), e]) h (List.prefix_refl _)
      omega
    cases r with
    | nil => simp [rOne, hf]
    | cons b l => simp [rOne, hf]
  | cons b pre ih =>
    intro got r i h
    have hf : ws.findIdx? (fun x => x == got) = none := by
      rw [List.findIdx?_eq_none_iff]
      intro x hx
      simp only [beq_eq_false_iff_ne]
      rintro rfl
      obtain ⟨j, hj, he⟩ := List.getElem_of_mem hx
      have := hp j i x _ (by rw [List.getElem?_eq_getElem hj, he]) h ⟨b :: pre, rfl⟩
      subst this
      rw [List.getElem?_eq_getElem hj, he] at h
      simp at h
    have ha : ws.any (fun x => (got ++ [b]).isPrefixOf x) = true := by
      rw [List.any_eq_true]
      refine ⟨_, List.mem_of_getElem? h, ?_⟩
      rw [List.isPrefixOf_iff_prefix]
      exact ⟨pre, by simp⟩
    rw [List.cons_append]
    simp only [rOne]
    rw [hf]
    simp only
    rw [if_pos ha]
    exact ih (got ++ [b]) r i (by rw [h]; simp)

theorem colon_prefix : ∀ (x y : Bs), (∀ b ∈ y, b.toNat ≠ 58) → (x ++ [58] <+: y ++ [58]) → x = y := by
  intro x
  induction x with
  | nil =>
    intro y hy h
    cases y with
    | nil => rfl
    | cons b y =>
      obtain ⟨z, hz⟩ := h
      simp at hz
      have := hy b (by simp)
      rw [← hz.1] at this
      exact absurd rfl this
  | cons a x ih =>
    intro y hy h
    cases y with
    | nil =>
      obtain ⟨z, hz⟩ := h
      have := congrArg List.length hz
      simp at this
    | cons b y =>
      obtain ⟨z, hz⟩ := h
      simp at hz
      rw [hz.1, ih y (fun c hc => hy c (by simp [hc])) ⟨z, by simpa using hz.2⟩]

theorem bytes_data {a b : ByteArray} (h : a.data.toList = b.data.toList) : a = b := by
  apply ByteArray.ext
  exact Array.toList_inj.1 h
theorem names_free {names : List ByteArray} (hn : names.Nodup) (hl : ∀ n ∈ names, ∀ b ∈ n.data.toList, 97 ≤ b.toNat ∧ b.toNat ≤ 122) : PreFree (names.map nameBs) := by
  intro i j x y hx hy h
  simp only [List.getElem?_map, Option.map_eq_some_iff] at hx hy
  obtain ⟨a, ha, rfl⟩ := hx
  obtain ⟨b, hb, rfl⟩ := hy
  have e := colon_prefix _ _ (fun c hc => by have := hl b (List.mem_of_getElem? hb) c hc; omega) h
  have e' := bytes_data e
  subst e'
  obtain ⟨hi, he⟩ := List.getElem?_eq_some_iff.1 ha
  obtain ⟨hj, he2⟩ := List.getElem?_eq_some_iff.1 hb
  have hpw := List.pairwise_iff_getElem.1 hn
  rcases Nat.lt_trichotomy i j with h' | h' | h'
  · exact absurd (he.trans he2.symm) (hpw i j hi hj h')
  · exact h'
  · exact absurd (he2.trans he.symm) (hpw j i hj hi h')
theorem yesno_free : PreFree [wNo, wYes] := by
  intro i j x y hx hy h
  match i, j with
  | 0, 0 => rfl
  | 1, 1 => rfl
  | 0, 1 => simp at hx hy; subst hx hy; revert h; decide
  | 1, 0 => simp at hx hy; subst hx hy; revert h; decide
  | i + 2, _ => simp at hx
  | 0, j + 2 => simp at hy
  | 1, j + 2 => simp at hy

/-! ### Texts and bytes -/

theorem rQuo_sound : ∀ (k : Nat) (acc l b r : Bs), rQuo k acc l = (some b, r) → ∃ d, b = acc ++ d ∧ d.length ≤ k ∧ (∀ c ∈ d, 32 ≤ c.toNat ∧ c.toNat ≤ 126) ∧ l = wQuo d ++ 34 :: r := by
  intro k
  induction k with
  | zero =>
    intro acc l b r h
    cases l with
    | nil => simp [rQuo] at h
    | cons c l =>
      simp only [rQuo] at h
      split at h
      · rename_i e
        simp at h; obtain ⟨rfl, rfl⟩ := h
        exact ⟨[], by simp, by simp, by simp, by rw [u8_of e]; rfl⟩
      · simp at h
  | succ k ih =>
    intro acc l b r h
    cases l with
    | nil => simp [rQuo] at h
    | cons c l =>
      simp only [rQuo] at h
      split at h
      · rename_i e
        simp at h; obtain ⟨rfl, rfl⟩ := h
        exact ⟨[], by simp, by simp, by simp, by rw [u8_of e]; rfl⟩
      · rename_i n34
        split at h
        · rename_i e92
          split at h
          · simp at h
          · rename_i c' l'
            split at h
            · rename_i hc
              obtain ⟨d, rfl, h2, h3, rfl⟩ := ih _ _ _ _ h
              refine ⟨c' :: d, by simp, by simp; omega, ?_, ?_⟩
              · intro x hx
                rcases List.mem_cons.1 hx with rfl | hx
                · omega
                · exact h3 x hx
              · rw [u8_of e92]; simp only [wQuo]; rw [if_pos hc]; rfl
            · simp at h
        · rename_i n92
          split at h
          · rename_i hv
            obtain ⟨d, rfl, h2, h3, rfl⟩ := ih _ _ _ _ h
            refine ⟨c :: d, by simp, by simp; omega, ?_, ?_⟩
            · intro x hx
              rcases List.mem_cons.1 hx with rfl | hx
              · exact hv
              · exact h3 x hx
            · simp only [wQuo]; rw [if_neg (by omega)]; rfl
          · simp at h
theorem rQuo_whole : ∀ (d : Bs) (k : Nat) (acc r : Bs), d.length ≤ k → (∀ c ∈ d, 32 ≤ c.toNat ∧ c.toNat ≤ 126) → rQuo k acc (wQuo d ++ 34 :: r) = (some (acc ++ d), r) := by
  intro d
  induction d with
  | nil =>
    intro k acc r _ _
    cases k with
    | zero => simp [wQuo, rQuo]
    | succ k => simp [wQuo, rQuo]
  | cons c d ih =>
    intro k acc r hk hv
    obtain ⟨k, rfl⟩ : ∃ m, k = m + 1 := ⟨k - 1, by simp at hk; omega⟩
    have hc := hv c (by simp)
    have ih' := ih k (acc ++ [c]) r (by simp at hk; omega) (fun x hx => hv x (by simp [hx]))
    simp only [wQuo]
    by_cases e : c.toNat = 34 ∨ c.toNat = 92
    · rw [if_pos e]
      simp only [List.cons_append, rQuo]
      rw [if_neg (by decide), if_pos (by decide), if_pos e, ih']
      simp
    · rw [if_neg e]
      simp only [List.cons_append, rQuo]
      rw [if_neg (by omega), if_neg (by omega), if_pos hc, ih']
      simp

theorem hexD_some {l l1 : Bs} {h : Nat} (e : hexD l = some (h, l1)) : h < 16 ∧ l = hexC h :: l1 := by
  cases l with
  | nil => simp [hexD] at e
  | cons b l =>
    simp only [hexD] at e
    split at e
    · simp at e; obtain ⟨rfl, rfl⟩ := e
      refine ⟨by omega, ?_⟩
      unfold hexC
      rw [if_pos (by omega), show 48 + (b.toNat - 48) = b.toNat by omega]; simp
    · split at e
      · simp at e; obtain ⟨rfl, rfl⟩ := e
        refine ⟨by omega, ?_⟩
        unfold hexC
        rw [if_neg (by omega), show 87 + (b.toNat - 87) = b.toNat by omega]; simp
      · simp at e
theorem hexD_hexC {h : Nat} (hh : h < 16) (l : Bs) : hexD (hexC h :: l) = some (h, l) := by
  unfold hexC
  by_cases e : h < 10
  · rw [if_pos e]
    simp only [hexD]
    rw [toNat_ofNat (by omega), if_pos (by omega)]
    simp
  · rw [if_neg e]
    simp only [hexD]
    rw [toNat_ofNat (by omega), if_neg (by omega), if_pos (by omega)]
    simp
theorem rHex_sound : ∀ (k : Nat) (acc l b r : Bs), rHex k acc l = (some b, r) → ∃ d, b = acc ++ d ∧ d.length ≤ k ∧ l = wHex d ++ r := by
  intro k
  induction k with
  | zero => intro acc l b r h; simp [rHex] at h; obtain ⟨rfl, rfl⟩ := h; exact ⟨[], by simp, by simp, rfl⟩
  | succ k ih =>
    intro acc l b r h
    simp only [rHex] at h
    split at h
    · simp at h; obtain ⟨rfl, rfl⟩ := h; exact ⟨[], by simp, by simp, rfl⟩
    · rename_i h1 l1 e1
      split at h
      · simp at h
      · rename_i h2 l2 e2
        obtain ⟨d, rfl, q2, rfl⟩ := ih _ _ _ _ h
        obtain ⟨k1, rfl⟩ := hexD_some e1
        obtain ⟨k2, rfl⟩ := hexD_some e2
        refine ⟨UInt8.ofNat (16 * h1 + h2) :: d, by simp, by simp; omega, ?_⟩
        simp only [wHex]
        rw [toNat_ofNat (by omega), show (16 * h1 + h2) / 16 = h1 by omega, show (16 * h1 + h2) % 16 = h2 by omega]
        rfl
def StopH (r : Bs) : Prop := hexD r = none
theorem rHex_whole : ∀ (d : Bs) (k : Nat) (acc r : Bs), d.length ≤ k → StopH r → rHex k acc (wHex d ++ r) = (some (acc ++ d), r) := by
  intro d
  induction d with
  | nil =>
    intro k acc r _ hr
    cases k with
    | zero => simp [wHex, rHex]
    | succ k =>
      simp only [wHex, List.nil_append, rHex]
      rw [show hexD r = none from hr]; simp
  | cons c d ih =>
    intro k acc r hk hr
    obtain ⟨k, rfl⟩ : ∃ m, k = m + 1 := ⟨k - 1, by simp at hk; omega⟩
    have hc : c.toNat < 256 := c.toNat_lt
    simp only [wHex, List.cons_append, rHex]
    rw [hexD_hexC (by omega)]
    simp only
    rw [hexD_hexC (by omega)]
    simp only
    rw [ih k _ r (by simp at hk; omega) hr, show 16 * (c.toNat / 16) + c.toNat % 16 = c.toNat by omega]
    simp

/-! ### Bytes -/

theorem leNat_lt : ∀ (l : Bs), leNat l < 256 ^ l.length := by
  intro l
  induction l with
  | nil => simp [leNat]
  | cons b l ih =>
    have := b.toNat_lt
    simp only [leNat, List.length_cons, Nat.pow_succ]
    omega
theorem leBytes_leNat : ∀ (l : Bs), leBytes l.length (leNat l) = l := by
  intro l
  induction l with
  | nil => rfl
  | cons b l ih =>
    have hb := b.toNat_lt
    simp only [List.length_cons, leBytes, leNat]
    rw [show (b.toNat + 256 * leNat l) / 256 = leNat l by omega, ih]
    congr 1
    apply UInt8.toNat_inj.1
    simp
theorem leBytes_length : ∀ (c n : Nat), (leBytes c n).length = c := by
  intro c
  induction c with
  | zero => intro n; rfl
  | succ c ih => intro n; simp [leBytes, ih]
theorem leNat_leBytes : ∀ (c n : Nat), n < 256 ^ c → leNat (leBytes c n) = n := by
  intro c
  induction c with
  | zero => intro n h; simp at h; subst h; rfl
  | succ c ih =>
    intro n h
    rw [Nat.pow_succ] at h
    simp only [leBytes, leNat]
    rw [ih (n / 256) (by omega)]
    simp
    omega
theorem beNat_leNat (l : Bs) : beNat l = leNat l.reverse := by
  have key : ∀ (l : Bs) (a : Nat), l.foldl (fun n b => n * 256 + b.toNat) a = leNat l.reverse + 256 ^ l.length * a := by
    intro l
    induction l with
    | nil => intro a; simp [leNat]
    | cons b l ih =>
      intro a
      have app : ∀ (x : Bs) (y : UInt8), leNat (x ++ [y]) = leNat x + 256 ^ x.length * y.toNat := by
        intro x y
        induction x with
        | nil => simp [leNat]
        | cons z x ihx =>
          simp only [List.cons_append, leNat, ihx, List.length_cons, Nat.pow_succ]
          rw [Nat.mul_add, Nat.add_assoc, ← Nat.mul_assoc, Nat.mul_comm 256 (256 ^ x.length)]
      simp only [List.foldl_cons, List.reverse_cons, List.length_cons]
      rw [ih, app, Nat.pow_succ, List.length_reverse, Nat.mul_add, Nat.add_assoc, Nat.add_comm (256 ^ l.length * (a * 256)), Nat.mul_comm a 256, Nat.mul_assoc]
  simpa [beNat] using key l 0
theorem toInt64_of {n : Int} (h1 : -9223372036854775808 ≤ n) (h2 : n ≤ 9223372036854775807) : toInt64 (ofInt64 n) = n := by
  unfold toInt64 ofInt64
  split <;> omega
theorem ofInt64_to {n : Nat} (h : n < 18446744073709551616) : ofInt64 (toInt64 n) = n := by
  unfold toInt64 ofInt64
  split <;> omega
theorem toInt64_range {n : Nat} (h : n < 18446744073709551616) : -9223372036854775808 ≤ toInt64 n ∧ toInt64 n ≤ 9223372036854775807 := by
  unfold toInt64
  split <;> omega

theorem mTake_some {c : Nat} {l b r : Bs} (h : mTake c l = (some b, r)) : b.length = c ∧ l = b ++ r := by
  unfold mTake at h
  split at h
  · simp at h
  · simp at h; obtain ⟨rfl, rfl⟩ := h
    exact ⟨by simp; omega, by simp⟩
theorem mTake_whole {b : Bs} (r : Bs) : mTake b.length (b ++ r) = (some b, r) := by
  unfold mTake
  rw [if_neg (by simp)]
  simp
theorem mCount_some {l r : Bs} {n : Nat} (h : mCount l = (some n, r)) : n ≤ 300 ∧ l = wCount n ++ r := by
  cases l with
  | nil => simp [mCount] at h
  | cons b l =>
    have hb := b.toNat_lt
    simp only [mCount] at h
    split at h
    · rename_i hle
      simp at h; obtain ⟨rfl, rfl⟩ := h
      exact ⟨by omega, by simp [wCount, hle]⟩
    · split at h
      · simp at h
      · rename_i c l'
        have hc := c.toNat_lt
        split at h
        · simp at h
        · simp at h; obtain ⟨rfl, rfl⟩ := h
          refine ⟨by omega, ?_⟩
          unfold wCount
          rw [if_neg (by omega), show (b.toNat - 128 + 128 * c.toNat) % 128 + 128 = b.toNat by omega, show (b.toNat - 128 + 128 * c.toNat) / 128 = c.toNat by omega]
          simp
theorem mCount_whole {n : Nat} (h : n ≤ 300) (r : Bs) : mCount (wCount n ++ r) = (some n, r) := by
  unfold wCount
  split
  · simp only [List.cons_append, List.nil_append, mCount]
    rw [toNat_ofNat (by omega), if_pos (by omega)]
  · simp only [List.cons_append, List.nil_append, mCount]
    rw [toNat_ofNat (by omega), toNat_ofNat (by omega), if_neg (by omega), if_neg (by omega), show n % 128 + 128 - 128 + 128 * (n / 128) = n by omega]
theorem mBelow_some {c : Nat} {l r : Bs} {n : Nat} (h : mBelow c l = (some n, r)) : n < c ∧ l = UInt8.ofNat n :: r := by
  cases l with
  | nil => simp [mBelow] at h
  | cons b l =>
    simp only [mBelow] at h
    split at h
    · simp at h; obtain ⟨rfl, rfl⟩ := h; exact ⟨by assumption, by simp⟩
    · simp at h
theorem mBelow_whole {c n : Nat} (h : n < c) (hc : n < 256) (r : Bs) : mBelow c (UInt8.ofNat n :: r) = (some n, r) := by
  simp only [mBelow]
  rw [toNat_ofNat hc, if_pos h]
theorem mVis_some : ∀ (k : Nat) (acc l b r : Bs), mVis k acc l = (some b, r) → ∃ d, b = acc ++ d ∧ d.length = k ∧ (∀ c ∈ d, 32 ≤ c.toNat ∧ c.toNat ≤ 126) ∧ l = d ++ r := by
  intro k
  induction k with
  | zero => intro acc l b r h; simp [mVis] at h; obtain ⟨rfl, rfl⟩ := h; exact ⟨[], by simp, rfl, by simp, rfl⟩
  | succ k ih =>
    intro acc l b r h
    cases l with
    | nil => simp [mVis] at h
    | cons c l =>
      simp only [mVis] at h
      split at h
      · rename_i hv
        obtain ⟨d, rfl, h2, h3, rfl⟩ := ih _ _ _ _ h
        refine ⟨c :: d, by simp, by simp [h2], ?_, rfl⟩
        intro x hx
        rcases List.mem_cons.1 hx with rfl | hx
        · exact hv
        · exact h3 x hx
      · simp at h
theorem mVis_whole : ∀ (d acc r : Bs), (∀ c ∈ d, 32 ≤ c.toNat ∧ c.toNat ≤ 126) → mVis d.length acc (d ++ r) = (some (acc ++ d), r) := by
  intro d
  induction d with
  | nil => intro acc r _; simp [mVis]
  | cons c d ih =>
    intro acc r hv
    simp only [List.length_cons, List.cons_append, mVis]
    rw [if_pos (hv c (by simp)), ih _ _ (fun x hx => hv x (by simp [hx]))]
    simp

end Go.Proofs.YtapblkmlhoalgaaGreatDoor
