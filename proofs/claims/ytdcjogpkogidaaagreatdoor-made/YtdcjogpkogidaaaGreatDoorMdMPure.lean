/- Descriptions that are made: what is read of them. -/
import Derived.Test.YtdcjogpkogidaaaGreatDoorMdParse
import Derived.Test.YtdcjogpkogidaaaGreatDoorMdGPure
namespace Go.Proofs.YtdcjogpkogidaaaGreatDoor
open Go.RowKit

/-- Bytes that stand in a text from a place on. -/
def At (s : ByteArray) (n : Nat) (l : Bs) : Prop := ∀ i b, l[i]? = some b → byteAt s (n + i) = b.toNat
/-- No letter stands there. -/
def NL (s : ByteArray) (n : Nat) : Prop := ¬ (97 ≤ byteAt s n ∧ byteAt s n ≤ 122)

section
variable {s : ByteArray}
theorem At.cons {n : Nat} {b : UInt8} {l : Bs} (h : At s n (b :: l)) : byteAt s n = b.toNat ∧ At s (n + 1) l :=
  ⟨h 0 b rfl, fun i c hc => by have := h (i + 1) c (by simpa using hc); rw [show n + (i + 1) = n + 1 + i by omega] at this; exact this⟩
theorem At.app {n : Nat} {a b : Bs} (h : At s n (a ++ b)) : At s n a ∧ At s (n + a.length) b := by
  refine ⟨fun i c hc => h i c ?_, fun i c hc => ?_⟩
  · have hi := (List.getElem?_eq_some_iff.1 hc).1
    rw [List.getElem?_append_left hi]; exact hc
  · have := h (a.length + i) c (by rw [List.getElem?_append_right (by omega)]; simpa using hc)
    rw [show n + (a.length + i) = n + a.length + i by omega] at this
    exact this
theorem letters_at : ∀ (l : Bs) (n k : Nat), At s n l → (∀ b ∈ l, 97 ≤ b.toNat ∧ b.toNat ≤ 122) → NL s (n + l.length) → l.length < k → lettersTo s n k = n + l.length := by
  intro l
  induction l with
  | nil =>
    intro n k _ _ hn hk
    obtain ⟨k, rfl⟩ : ∃ k', k = k' + 1 := ⟨k - 1, by simp at hk; omega⟩
    unfold lettersTo
    exact if_neg hn
  | cons b l ih =>
    intro n k ha hl hn hk
    obtain ⟨k, rfl⟩ : ∃ k', k = k' + 1 := ⟨k - 1, by simp at hk; omega⟩
    obtain ⟨h1, h2⟩ := ha.cons
    have hb := hl b (by simp)
    unfold lettersTo
    rw [if_pos (by rw [h1]; exact hb), ih (n + 1) k h2 (fun c hc => hl c (by simp [hc])) (by rw [show n + 1 + l.length = n + (b :: l).length by simp; omega]; exact hn) (by simp at hk; omega)]
    simp
    omega
theorem byteAt_get {n : Nat} (h : n < s.size) : (s.data.toList[n]?) = some (UInt8.ofNat (byteAt s n)) := by
  have h' : n < s.data.toList.length := by simpa using h
  rw [byteAt_lt h, List.getElem?_eq_getElem h']
  simp
  rfl
theorem extract_at {w : ByteArray} {n : Nat} (h : At s n w.data.toList) (hp : 0 < w.size) : s.extract n (n + w.size) = w := by
  have hlen : w.data.toList.length = w.size := by rw [Array.length_toList]; rfl
  have hle : n + w.size ≤ s.size := by
    have h1 : w.size - 1 < w.data.toList.length := by omega
    have h2 := h (w.size - 1) _ (List.getElem?_eq_getElem h1)
    have h3 := byteAt_in (s := s) (n := n + (w.size - 1)) (by rw [h2]; exact UInt8.toNat_lt _)
    omega
  apply ba_ext
  rw [ByteArray.data_extract]
  apply List.ext_getElem?
  intro i
  rw [Array.toList_extract]
  simp only [List.extract, List.getElem?_take, List.getElem?_drop]
  by_cases hi : i < w.size
  · rw [if_pos (by omega), byteAt_get (by omega)]
    have h1 : i < w.data.toList.length := by omega
    rw [List.getElem?_eq_getElem h1, h i _ (List.getElem?_eq_getElem h1)]
    simp
  · rw [if_neg (by omega), List.getElem?_eq_none (by omega)]
end

/-- The i-th field's name. -/
def nm (i : Nat) : ByteArray := ⟨#[UInt8.ofNat (97 + i)]⟩
def named : Nat → List PT → List (ByteArray × PT)
  | _, [] => []
  | i, u :: l => (nm i, u) :: named (i + 1) l
theorem named_subs : ∀ (l : List PT) (i : Nat), (named i l).map (·.2) = l := by
  intro l
  induction l with
  | nil => intro i; rfl
  | cons u l ih => intro i; simp [named, ih]
theorem named_len : ∀ (l : List PT) (i : Nat), (named i l).length = l.length := by
  intro l
  induction l with
  | nil => intro i; rfl
  | cons u l ih => intro i; simp [named, ih]
theorem named_at : ∀ (l : List PT) (i j : Nat) (u : PT), l[j]? = some u → (named i l)[j]? = some (nm (i + j), u) := by
  intro l
  induction l with
  | nil => intro i j u h; simp at h
  | cons v l ih =>
    intro i j u h
    cases j with
    | zero => simp at h; subst h; rfl
    | succ j =>
      have := ih (i + 1) j u (by simpa using h)
      rw [show i + (j + 1) = i + 1 + j by omega]
      simpa [named] using this
theorem named_snoc : ∀ (l : List PT) (i : Nat) (u : PT), named i (l ++ [u]) = named i l ++ [(nm (i + l.length), u)] := by
  intro l
  induction l with
  | nil => intro i u; rfl
  | cons v l ih =>
    intro i u
    simp only [List.cons_append, named, ih, List.length_cons]
    rw [show i + 1 + l.length = i + (l.length + 1) by omega]

/-- A type that is made. -/
def MadeT : Nat → PT → Prop
  | 0, _ => False
  | k + 1, t => (t.kind < 7 ∧ t = PT.word t.kind) ∨ ((t.kind = 7 ∨ t.kind = 8) ∧ ∃ u, MadeT k u ∧ t = compoundT t.kind [(⟨#[]⟩, u)]) ∨
      ((t.kind = 9 ∨ t.kind = 10) ∧ ∃ l : List PT, 1 ≤ l.length ∧ l.length ≤ 3 ∧ (∀ u ∈ l, MadeT k u) ∧ t = compoundT t.kind (named 0 l))
def tJoin (f : PT → Bs) (sep : UInt8) : Nat → List PT → Bs
  | _, [] => []
  | i, u :: l => (if i = 0 then [] else [sep]) ++ (UInt8.ofNat (97 + i) :: 58 :: f u) ++ tJoin f sep (i + 1) l
theorem tJoin_cons (f : PT → Bs) (sep : UInt8) (i : Nat) (u : PT) (l : List PT) : tJoin f sep i (u :: l) = (if i = 0 then [] else [sep]) ++ (UInt8.ofNat (97 + i) :: 58 :: f u) ++ tJoin f sep (i + 1) l := rfl
/-- The text of a type. -/
def tText : Nat → PT → Bs
  | 0, _ => []
  | k + 1, t => if t.kind < 7 then (wd t.kind).data.toList else if t.kind = 7 then 91 :: (tText k (t.sub 0) ++ [93]) else if t.kind = 8 then 63 :: tText k (t.sub 0)
    else if t.kind = 9 then 123 :: (tJoin (tText k) 44 0 t.subs ++ [125]) else 60 :: (tJoin (tText k) 124 0 t.subs ++ [62])

theorem tText_succ (k : Nat) (t : PT) : tText (k + 1) t = if t.kind < 7 then (wd t.kind).data.toList else if t.kind = 7 then 91 :: (tText k (t.sub 0) ++ [93]) else if t.kind = 8 then 63 :: tText k (t.sub 0)
    else if t.kind = 9 then 123 :: (tJoin (tText k) 44 0 t.subs ++ [125]) else 60 :: (tJoin (tText k) 124 0 t.subs ++ [62]) := rfl
theorem wd_fine : ∀ k, k < 7 → wordIdx (wd k) = some k ∧ 0 < (wd k).size ∧ (wd k).size < 6 ∧ ∀ b ∈ (wd k).data.toList, 97 ≤ b.toNat ∧ b.toNat ≤ 122 := by decide +kernel
theorem nm_fine : ∀ i, i < 3 → wordIdx (nm i) = none ∧ (nm i).size = 1 ∧ (nm i).data.toList = [UInt8.ofNat (97 + i)] ∧ (UInt8.ofNat (97 + i)).toNat = 97 + i := by decide +kernel
theorem nm_inj : ∀ i, i < 3 → ∀ j, j < 3 → nm i = nm j → i = j := by decide +kernel

section
variable {s : ByteArray}
theorem pNamed_word {n k : Nat} (hk : k < 7) (ha : At s n (wd k).data.toList) (hn : NL s (n + (wd k).data.toList.length)) : pNamed s [] n none = ⟨true, PT.word k, n + (wd k).data.toList.length, none⟩ := by
  obtain ⟨h1, h2, h3, h4⟩ := wd_fine k hk
  have hlen : (wd k).data.toList.length = (wd k).size := by rw [Array.length_toList]; rfl
  have e1 := letters_at _ n 6 ha h4 hn (by omega)
  have e2 : nameAt s n = wd k := by
    unfold nameAt
    rw [e1, hlen]
    exact extract_at ha h2
  unfold pNamed
  rw [if_neg (by rw [e1]; omega), e2, h1, e1]
theorem part_name {n i : Nat} (hi : i < 3) (ha : At s n [UInt8.ofNat (97 + i), 58]) : lettersTo s n 6 = n + 1 ∧ nameAt s n = nm i ∧ nameOk s n = true ∧ byteAt s (n + 1) = 58 := by
  obtain ⟨h1, h2, h3, h4⟩ := nm_fine i hi
  obtain ⟨a1, a2⟩ := ha.cons
  obtain ⟨b1, _⟩ := a2.cons
  have e0 : At s n (nm i).data.toList := by
    rw [h3]
    intro j b hb
    cases j with
    | zero => obtain rfl := (Option.some.inj hb).symm; exact a1
    | succ j => simp at hb
  have e1 : lettersTo s n 6 = n + 1 := by
    have := letters_at (s := s) (nm i).data.toList n 6 e0 (by rw [h3]; intro b hb; rw [List.mem_singleton] at hb; rw [hb]; omega) (by rw [h3]; show ¬ _; simp only [List.length_cons, List.length_nil]; rw [b1]; decide) (by rw [h3]; simp)
    rw [h3] at this
    exact this
  have e2 : nameAt s n = nm i := by
    unfold nameAt
    rw [e1]
    have := extract_at e0 (by omega)
    rw [h2] at this
    exact this
  refine ⟨e1, e2, ?_, b1⟩
  unfold nameOk
  rw [e1, e2, h1]
  simp
/-- Fields or cases, one by one. -/
theorem pParts_made {rd : Nat → Option Nat → Res} {f : PT → Bs} {kind btw close : Nat} (sep cl : UInt8) (hsep : sep.toNat = btw) (hcl : cl.toNat = close) (hbc : btw ≠ close) (hnl : ¬ (97 ≤ btw ∧ btw ≤ 122)) (hnc : ¬ (97 ≤ close ∧ close ≤ 122))
    (all : List PT) (hall : all.length ≤ 3) (hrd : ∀ u ∈ all, ∀ n, At s n (f u) → NL s (n + (f u).length) → rd n none = ⟨true, u, n + (f u).length, none⟩) :
    ∀ (l acc : List PT) (k n : Nat), all = acc ++ l → l ≠ [] → l.length ≤ k → At s n ((tJoin f sep acc.length l).drop (if acc.length = 0 then 0 else 1) ++ [cl]) →
      pParts rd s kind btw close k (named 0 acc) n none = ⟨true, compoundT kind (named 0 all), n + ((tJoin f sep acc.length l).drop (if acc.length = 0 then 0 else 1)).length + 1, none⟩ := by
  intro l
  induction l with
  | nil => intro acc k n _ h; exact absurd rfl h
  | cons u l ih =>
    intro acc k n he _ hk ha
    obtain ⟨k, rfl⟩ : ∃ k', k = k' + 1 := ⟨k - 1, by simp at hk; omega⟩
    have hacc : acc.length < 3 := by rw [he] at hall; simp at hall; omega
    have hd : (tJoin f sep acc.length (u :: l)).drop (if acc.length = 0 then 0 else 1) = (UInt8.ofNat (97 + acc.length) :: 58 :: f u) ++ tJoin f sep (acc.length + 1) l := by
      rw [tJoin_cons]
      by_cases h0 : acc.length = 0
      · rw [if_pos h0, if_pos h0]; rfl
      · rw [if_neg h0, if_neg h0]; rfl
    rw [hd] at ha ⊢
    rw [List.append_assoc] at ha
    have ha1 : At s n ([UInt8.ofNat (97 + acc.length), 58] ++ (f u ++ (tJoin f sep (acc.length + 1) l ++ [cl]))) := by simpa using ha
    obtain ⟨p1, p2⟩ := ha1.app
    obtain ⟨p3, p4⟩ := p2.app
    obtain ⟨q1, q2, q3, q4⟩ := part_name hacc p1
    simp only [List.length_cons, List.length_nil, Nat.zero_add] at p3 p4
    have hnext : byteAt s (n + 2 + (f u).length) = if l = [] then close else btw := by
      cases l with
      | nil => simp only [tJoin, List.nil_append] at p4; rw [if_pos rfl, p4.cons.1, hcl]
      | cons v l => simp only [tJoin] at p4; rw [if_neg (by omega)] at p4; rw [if_neg (by simp), p4.cons.1, hsep]
    have hNL : NL s (n + 2 + (f u).length) := by
      show ¬ _
      rw [hnext]
      split
      · exact hnc
      · exact hnl
    have hr := hrd u (by rw [he]; simp) (n + 2) p3 hNL
    have hb : nameBad s ((named 0 acc).map (·.1)) n none = none := by
      unfold nameBad
      rw [if_neg]
      rw [q2]
      intro hx
      obtain ⟨x, hx1, hx2⟩ := List.any_eq_true.1 hx
      obtain ⟨y, hy1, rfl⟩ := List.mem_map.1 hx1
      obtain ⟨j, hj⟩ := List.getElem?_of_mem hy1
      have hjl : j < acc.length := by have := (List.getElem?_eq_some_iff.1 hj).1; rw [named_len] at this; exact this
      rw [named_at acc 0 j _ (List.getElem?_eq_getElem hjl)] at hj
      simp at hj
      rw [← hj] at hx2
      have := nm_inj j (by omega) acc.length hacc (by simpa using hx2)
      omega
    have hp : pPart rd s ((named 0 acc).map (·.1)) 58 n none = ⟨true, u, n + 2 + (f u).length, none⟩ := by
      unfold pPart
      rw [if_neg (by rw [q3]; simp), q1, if_pos q4, hb]
      exact hr
    unfold pParts
    simp only [hp, named_len]
    rw [if_neg (by simp), hnext, q2]
    have hsn : named 0 acc ++ [(nm acc.length, u)] = named 0 (acc ++ [u]) := by rw [named_snoc, Nat.zero_add]
    cases l with
    | nil =>
      rw [if_pos (by rw [if_pos rfl])]
      have e : all = acc ++ [u] := he
      rw [hsn, ← e]
      simp [tJoin]
      omega
    | cons v l =>
      rw [if_neg (by simp; exact hbc), if_neg (by simp; omega), hsn]
      have ha2 : At s (n + 2 + (f u).length + 1) ((tJoin f sep (acc ++ [u]).length (v :: l)).drop (if (acc ++ [u]).length = 0 then 0 else 1) ++ [cl]) := by
        have hx : (tJoin f sep (acc ++ [u]).length (v :: l)) = sep :: (tJoin f sep (acc ++ [u]).length (v :: l)).drop 1 := by
          simp only [List.length_append, List.length_cons, List.length_nil, tJoin]
          rw [if_neg (by omega)]
          rfl
        rw [if_neg (by simp)]
        have e2 : acc.length + 1 = (acc ++ [u]).length := by simp
        rw [e2, hx] at p4
        exact p4.cons.2
      have := ih (acc ++ [u]) k (n + 2 + (f u).length + 1) (by rw [he]; simp) (by simp) (by simp at hk ⊢; omega) ha2
      rw [this]
      have e2 : acc.length + 1 = (acc ++ [u]).length := by simp
      have hx : (tJoin f sep (acc ++ [u]).length (v :: l)).length = ((tJoin f sep (acc ++ [u]).length (v :: l)).drop (if (acc ++ [u]).length = 0 then 0 else 1)).length + 1 := by
        rw [if_neg (by simp)]
        simp only [List.length_append, List.length_cons, List.length_nil, tJoin]
        rw [if_neg (by omega)]
        simp
        omega
      simp only [List.length_append, List.length_cons, Res.mk.injEq, true_and, and_true]
      rw [e2, hx]
      simp only [List.length_append, List.length_cons, List.length_nil]
      omega
end

theorem MadeT.depth : ∀ (k : Nat) (t : PT), MadeT k t → t.depth ≤ k := by
  intro k
  induction k with
  | zero => intro t h; exact h.elim
  | succ k ih =>
    intro t h
    rcases h with ⟨_, e⟩ | ⟨_, u, hu, e⟩ | ⟨_, l, _, _, hl, e⟩
    · rw [e]; show 1 ≤ _; omega
    · rw [e]
      have := ih u hu
      show maxDepth _ + 1 ≤ _
      have := maxDepth_le [(⟨#[]⟩, u)] k (by simpa using this)
      omega
    · rw [e]
      show maxDepth _ + 1 ≤ _
      have := maxDepth_le (named 0 l) k (fun q hq => by
        have : q.2 ∈ (named 0 l).map (·.2) := List.mem_map.2 ⟨q, hq, rfl⟩
        rw [named_subs] at this
        exact ih _ (hl _ this))
      omega

/-- What is made is read. -/
theorem pTyp_made (s : ByteArray) : ∀ (k : Nat) (t : PT), MadeT k t → ∀ (f n : Nat), k ≤ f → At s n (tText k t) → NL s (n + (tText k t).length) → pTyp s [] f n none = ⟨true, t, n + (tText k t).length, none⟩ := by
  intro k
  induction k with
  | zero => intro t h; exact h.elim
  | succ k ih =>
    intro t h f n hf ha hn
    obtain ⟨f, rfl⟩ : ∃ f', f = f' + 1 := ⟨f - 1, by omega⟩
    unfold pTyp
    rcases h with ⟨h7, e⟩ | ⟨h78, u, hu, e⟩ | ⟨h90, l, hl1, hl3, hl, e⟩
    · have et : tText (k + 1) t = (wd t.kind).data.toList := by rw [tText_succ, if_pos h7]
      rw [et] at ha hn ⊢
      obtain ⟨_, w2, _, w4⟩ := wd_fine t.kind h7
      have hb : 97 ≤ byteAt s n ∧ byteAt s n ≤ 122 := by
        rcases hw : (wd t.kind).data.toList with _ | ⟨b, r⟩
        · have : (wd t.kind).data.toList.length = (wd t.kind).size := by rw [Array.length_toList]; rfl
          rw [hw] at this
          simp at this
          omega
        · rw [hw] at ha w4
          rw [ha.cons.1]
          exact w4 b (by simp)
      rw [if_neg (by omega), if_neg (by omega), if_neg (by omega), if_neg (by omega), pNamed_word h7 ha hn, ← e]
    · have es : t.sub 0 = u := by rw [e]; rfl
      rcases h78 with h7 | h8
      · have et : tText (k + 1) t = 91 :: (tText k u ++ [93]) := by rw [tText_succ, if_neg (by omega), if_pos h7, es]
        rw [et] at ha hn ⊢
        obtain ⟨a1, a2⟩ := ha.cons
        obtain ⟨a3, a4⟩ := a2.app
        have a5 := a4.cons.1
        have hr := ih u hu f (n + 1) (by omega) a3 (by show ¬ _; rw [a5]; decide)
        rw [if_pos (show byteAt s n = 91 from a1)]
        simp only [hr]
        rw [if_neg (by simp), if_pos (show byteAt s _ = 93 from a5)]
        rw [← h7, ← e]
        simp
        omega
      · have et : tText (k + 1) t = 63 :: tText k u := by rw [tText_succ, if_neg (by omega), if_neg (by omega), if_pos h8, es]
        rw [et] at ha hn ⊢
        obtain ⟨a1, a2⟩ := ha.cons
        have hr := ih u hu f (n + 1) (by omega) a2 (by rw [show n + 1 + (tText k u).length = n + (63 :: tText k u).length by simp; omega]; exact hn)
        rw [if_neg (by rw [a1]; decide), if_pos (show byteAt s n = 63 from a1)]
        simp only [hr]
        rw [if_neg (by simp), ← h8, ← e]
        simp
        omega
    · have es : t.subs = l := by rw [e]; exact named_subs l 0
      have hrd : ∀ u ∈ l, ∀ n, At s n (tText k u) → NL s (n + (tText k u).length) → pTyp s [] f n none = ⟨true, u, n + (tText k u).length, none⟩ := fun u hu n h1 h2 => ih u (hl u hu) f n (by omega) h1 h2
      have hne : l ≠ [] := fun e => by rw [e] at hl1; simp at hl1
      rcases h90 with h9 | h10
      · have et : tText (k + 1) t = 123 :: (tJoin (tText k) 44 0 l ++ [125]) := by rw [tText_succ, if_neg (by omega), if_neg (by omega), if_neg (by omega), if_pos h9, es]
        rw [et] at ha hn ⊢
        obtain ⟨a1, a2⟩ := ha.cons
        have hr := pParts_made (s := s) (kind := 9) 44 125 rfl rfl (by decide) (by decide) (by decide) l hl3 hrd l [] 6 (n + 1) rfl hne (by omega) (by simpa using a2)
        rw [if_neg (by rw [a1]; decide), if_neg (by rw [a1]; decide), if_pos (show byteAt s n = 123 from a1)]
        have hr' : pParts (pTyp s [] f) s 9 44 125 6 [] (n + 1) none = _ := hr
        rw [hr', ← h9, ← e]
        simp
        omega
      · have et : tText (k + 1) t = 60 :: (tJoin (tText k) 124 0 l ++ [62]) := by rw [tText_succ, if_neg (by omega), if_neg (by omega), if_neg (by omega), if_neg (by omega), es]
        rw [et] at ha hn ⊢
        obtain ⟨a1, a2⟩ := ha.cons
        have hr := pParts_made (s := s) (kind := 10) 124 62 rfl rfl (by decide) (by decide) (by decide) l hl3 hrd l [] 6 (n + 1) rfl hne (by omega) (by simpa using a2)
        rw [if_neg (by rw [a1]; decide), if_neg (by rw [a1]; decide), if_neg (by rw [a1]; decide), if_pos (show byteAt s n = 60 from a1)]
        have hr' : pParts (pTyp s [] f) s 10 124 62 6 [] (n + 1) none = _ := hr
        rw [hr', ← h10, ← e]
        simp
        omega

/-- A description that is made is one. -/
theorem made_check {k : Nat} {t : PT} (h : MadeT k t) (hk : k ≤ 12) {s : ByteArray} (hs : s.data.toList = 109 :: 61 :: tText k t) (h400 : s.size ≤ 400) (hks : k ≤ s.size + 1) : checkP s = (0, 0) ∧ typeP s = t := by
  have hA : At s 0 (109 :: 61 :: tText k t) := by
    intro i b hb
    rw [← hs] at hb
    have hi : i < s.size := by have := (List.getElem?_eq_some_iff.1 hb).1; simpa using this
    rw [byteAt_get hi] at hb
    rw [Nat.zero_add, ← Option.some.inj hb, toNat_ofNat]
    rw [byteAt_lt hi]
    exact UInt8.toNat_lt _
  have hlen : s.size = 2 + (tText k t).length := by
    have : s.data.toList.length = s.size := by rw [Array.length_toList]; rfl
    rw [← this, hs]
    simp
    omega
  obtain ⟨a1, a2⟩ := hA.cons
  obtain ⟨a3, a4⟩ := a2.cons
  have hl1 : lettersTo s 0 6 = 1 := by
    have := letters_at (s := s) [109] 0 6 (fun i b hb => by
      cases i with
      | zero => simp at hb; subst hb; exact a1
      | succ i => simp at hb) (by simp) (by show ¬ _; simp only [List.length_cons, List.length_nil]; rw [a3]; decide) (by simp)
    simpa using this
  have hnm : nameAt s 0 = ⟨#[109]⟩ := by
    unfold nameAt
    rw [hl1]
    exact extract_at (w := ⟨#[109]⟩) (fun i b hb => by
      cases i with
      | zero => simp at hb; subst hb; exact a1
      | succ i => simp at hb) (by decide)
  have hok : nameOk s 0 = true := by
    unfold nameOk
    rw [hl1, hnm]
    decide +kernel
  have hend : NL s (2 + (tText k t).length) := by
    show ¬ _
    rw [byteAt_end (by omega)]
    omega
  have hr := pTyp_made s k t h (s.size + 1) 2 hks a4 hend
  have hL : lineR s [] 0 none = ⟨true, t, 2 + (tText k t).length, none⟩ := by
    unfold lineR pPart
    rw [if_neg (by rw [hok]; simp), hl1, if_pos (show byteAt s 1 = 61 from a3)]
    exact hr
  have hD : pDesc s 10 [] 0 none none = ⟨true, 2 + (tText k t).length, [(⟨#[109]⟩, t)], none, none⟩ := by
    unfold pDesc
    simp only [hL]
    rw [if_neg (by simp), if_pos hlen.symm, hnm]
    unfold lineDeep
    have := h.depth
    rw [if_neg (by simp only; omega)]
    rfl
  constructor
  · unfold checkP
    rw [if_neg (by omega), hD]
    simp
  · unfold typeP
    rw [hD]
    rfl

end Go.Proofs.YtdcjogpkogidaaaGreatDoor
