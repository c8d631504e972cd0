/- How frames lie in a ring, and that each call keeps it so. -/
import Derived.Test.YtnhkalnihjkoeaaGreatDoorRgQList
namespace Go.Proofs.YtnhkalnihjkoeaaGreatDoor.Q
open Go.RowKit

theorem needs_pos (n : Nat) : 1 ≤ needs n := by unfold needs; omega
theorem needs_room (n : Nat) : n + 2 ≤ 8 * needs n := by unfold needs; omega

/-- Frames one behind the other from a granule on, counted on beyond the end, up to a granule. -/
def Lies (g : Nat) : Nat → List PF → Nat → Prop
  | v, [], e => v = e
  | v, f :: l, e => ∃ gap, f.takes = gap + needs f.data.length ∧ f.at_ = (v + gap) % g ∧ f.at_ + needs f.data.length ≤ g ∧ Lies g (v + f.takes) l e

theorem Lies.sum {g : Nat} : ∀ (l : List PF) (v e : Nat), Lies g v l e → e = v + taken l := by
  intro l
  induction l with
  | nil => intro v e h; simp [Lies] at h; simp [taken, h]
  | cons f l ih =>
    intro v e h
    obtain ⟨gap, _, _, _, h4⟩ := h
    have := ih _ _ h4
    simp only [taken, List.map_cons, List.sum_cons] at this ⊢
    omega
theorem Lies.len {g : Nat} : ∀ (l : List PF) (v e : Nat), Lies g v l e → l.length ≤ taken l := by
  intro l
  induction l with
  | nil => intro v e _; simp
  | cons f l ih =>
    intro v e h
    obtain ⟨gap, h1, _, _, h4⟩ := h
    have := ih _ _ h4
    have := needs_pos f.data.length
    simp only [taken, List.map_cons, List.sum_cons, List.length_cons] at this ⊢
    simp only [taken] at *
    omega
theorem Lies.snoc {g : Nat} (f : PF) (gap : Nat) (h1 : f.takes = gap + needs f.data.length) (h3 : f.at_ + needs f.data.length ≤ g) : ∀ (l : List PF) (v e : Nat), Lies g v l e → f.at_ = (e + gap) % g → Lies g v (l ++ [f]) (e + f.takes) := by
  intro l
  induction l with
  | nil => intro v e h h2; simp [Lies] at h; subst h; exact ⟨gap, h1, h2, h3, rfl⟩
  | cons x l ih =>
    intro v e h h2
    obtain ⟨gp, a1, a2, a3, a4⟩ := h
    exact ⟨gp, a1, a2, a3, ih _ _ a4 h2⟩
theorem Lies.st {g : Nat} (s : Nat) : ∀ (l : List PF) (i v e : Nat), Lies g v l e → Lies g v (setSt l i s) e := by
  intro l
  induction l with
  | nil => intro i v e h; simpa [setSt] using h
  | cons x l ih =>
    intro i v e h
    obtain ⟨gp, a1, a2, a3, a4⟩ := h
    rcases i with _ | i
    · exact ⟨gp, a1, a2, a3, a4⟩
    · have : setSt (x :: l) (i + 1) s = x :: setSt l i s := by simp [setSt]
      rw [this]
      exact ⟨gp, a1, a2, a3, ih i _ _ a4⟩
/-- Where a frame lies. -/
theorem Lies.pos {g : Nat} {f : PF} : ∀ (l : List PF) (v e : Nat), Lies g v l e → f ∈ l → ∃ x, v ≤ x ∧ x + needs f.data.length ≤ e ∧ f.at_ = x % g ∧ f.at_ + needs f.data.length ≤ g := by
  intro l
  induction l with
  | nil => intro v e _ h; simp at h
  | cons y l ih =>
    intro v e h hf
    obtain ⟨gp, a1, a2, a3, a4⟩ := h
    have hs := Lies.sum _ _ _ a4
    rcases List.mem_cons.1 hf with rfl | hf
    · exact ⟨v + gp, by omega, by omega, a2, a3⟩
    · obtain ⟨x, b1, b2, b3⟩ := ih _ _ a4 hf
      exact ⟨x, by omega, b2, b3⟩

/-- Two pieces of a window no longer than the ring lie apart in it. -/
theorem apart {g x n y m : Nat} (hg : 0 < g) (h1 : x + n ≤ y) (h2 : y + m ≤ x + g) (_hx : x % g + n ≤ g) (hm : 0 < m) : x % g + n ≤ y % g ∨ y % g + m ≤ x % g := by
  obtain ⟨d, rfl⟩ : ∃ d, y = x + d := ⟨y - x, by omega⟩
  have hd : d < g := by omega
  have ha : x % g < g := Nat.mod_lt _ hg
  rcases Nat.lt_or_ge (x % g + d) g with h | h
  · left
    rw [Nat.add_mod, Nat.mod_eq_of_lt hd, Nat.mod_eq_of_lt h]
    omega
  · right
    have e : (x + d) % g = x % g + d - g := by
      rw [Nat.add_mod, Nat.mod_eq_of_lt hd]
      rw [Nat.mod_eq_sub_mod h, Nat.mod_eq_of_lt (by omega)]
    rw [e]
    omega

theorem Stored.ahead {row : Bs} {at_ : Nat} {d : Bs} (h : Stored row at_ d) {o : Nat} (x : Bs) (h1 : 8 * at_ + 2 + d.length ≤ o) : Stored (putRow row o x) at_ d := by
  obtain ⟨p, s, rfl, hp⟩ := h
  refine ⟨p, s.take (o - (8 * at_ + 2 + d.length)) ++ x ++ (p ++ hdr d.length ++ d ++ s).drop (o + x.length), ?_, hp⟩
  unfold putRow
  have hl : (p ++ hdr d.length ++ d).length = 8 * at_ + 2 + d.length := by simp [hdr, hp]; omega
  rw [List.take_append, List.take_of_length_le (by rw [hl]; exact h1), hl]
  simp
theorem Stored.behind {row : Bs} {at_ : Nat} {d : Bs} (h : Stored row at_ d) {o : Nat} (x : Bs) (h1 : o + x.length ≤ 8 * at_) : Stored (putRow row o x) at_ d := by
  obtain ⟨p, s, rfl, hp⟩ := h
  refine ⟨p.take o ++ x ++ p.drop (o + x.length), s, ?_, ?_⟩
  · unfold putRow
    simp only [List.append_assoc]
    rw [List.take_append_of_le_length (by omega), List.drop_append_of_le_length (by omega)]
  · simp only [List.length_append, List.length_take, List.length_drop]
    omega
theorem Stored.new {row : Bs} {at_ : Nat} {d : Bs} (h : 8 * at_ ≤ row.length) : Stored (putRow row (8 * at_) (hdr d.length ++ d)) at_ d :=
  ⟨row.take (8 * at_), row.drop (8 * at_ + (hdr d.length ++ d).length), by unfold putRow; simp, by rw [List.length_take]; omega⟩

/-- What is so of every ring. -/
structure Fit (R : PR) : Prop where
  g2 : 2 ≤ R.g
  g64 : R.g ≤ 64
  len : R.row.length = 8 * R.g
  next : R.next < R.g
  lies : ∃ base e, Lies R.g base R.fs e ∧ e ≤ base + R.g ∧ e % R.g = R.next
  kept : Kept R
  first : 1 ≤ R.first
  order : ∃ A B : List PF, R.fs = A ++ B ∧ (∀ f ∈ A, f.st ≠ 0) ∧ (∀ f ∈ B, f.st = 0)
  head : ∀ f l, R.fs = f :: l → f.st ≠ 2
  sts : ∀ f ∈ R.fs, f.st ≤ 2

theorem setSt_le {l : List PF} (h : ∀ f ∈ l, f.st ≤ 2) (i : Nat) {s : Nat} (hs : s ≤ 2) : ∀ f ∈ setSt l i s, f.st ≤ 2 := by
  intro f hf
  obtain ⟨j, hj, hje⟩ := List.mem_iff_getElem.1 hf
  have hj' : (setSt l i s)[j]? = some f := by rw [List.getElem?_eq_getElem hj, hje]
  have hjl : j < l.length := by rw [setSt_len] at hj; exact hj
  rw [setSt_at (List.getElem?_eq_getElem hjl)] at hj'
  have hne := h l[j] (List.getElem_mem hjl)
  split at hj'
  · simp at hj'; rw [← hj']; exact hs
  · simp at hj'; rw [← hj']; exact hne

theorem Fit.tidy {R : PR} (h : Fit R) : Tidy R := by
  obtain ⟨base, e, h1, h2, _⟩ := h.lies
  have hs := Lies.sum _ _ _ h1
  have hl := Lies.len _ _ _ h1
  have := h.g64
  exact ⟨h.next, by omega, by omega⟩
theorem Fit.new {g : Nat} (h2 : 2 ≤ g) (h64 : g ≤ 64) : Fit (newR g) :=
  ⟨h2, h64, by simp [newR], by simp [newR]; omega, ⟨0, 0, rfl, by omega, by simp [newR]⟩, fun i f h => by simp [newR] at h, by simp [newR], ⟨[], [], rfl, by simp, by simp⟩, fun f l h => by simp [newR] at h, fun f h => by simp [newR] at h⟩

theorem Fit.put {R : PR} (h : Fit R) (d : Bs) : Fit (putP R d).2 := by
  unfold putP
  by_cases hs : R.shut = true
  · rw [if_pos hs]; exact h
  rw [if_neg hs]
  by_cases h2 : R.g < 2 * needs d.length
  · rw [if_pos h2]; exact h
  rw [if_neg h2]
  by_cases h3 : R.g < taken R.fs + gapOf R.g R.next (needs d.length) + needs d.length
  · rw [if_pos h3]; exact h
  rw [if_neg h3]
  obtain ⟨base, e, l1, l2, l3⟩ := h.lies
  have hsum := Lies.sum _ _ _ l1
  have hgp : 0 < R.g := by have := h.g2; omega
  have hfit := putAt_fits (n := needs d.length) h.next (by omega)
  have hat : putAt R (needs d.length) = (e + gapOf R.g R.next (needs d.length)) % R.g := by
    unfold putAt
    rw [← l3, Nat.mod_add_mod]
  have hnl := needs_room d.length
  have hnp := needs_pos d.length
  have h64 := h.g64
  have hln := h.len
  generalize gapOf R.g R.next (needs d.length) = G at *
  generalize hA : putAt R (needs d.length) = A at *
  have hxl : (hdr d.length ++ d).length = 2 + d.length := by simp [hdr]; omega
  have hlies := Lies.snoc ⟨A, G + needs d.length, 0, d⟩ G rfl hfit R.fs base e l1 hat
  refine ⟨h.g2, h.g64, ?_, Nat.mod_lt _ hgp, ⟨base, _, hlies, by simp only; omega, ?_⟩, fun i f hf => ?_, h.first, ?_, fun f l hf => ?_, fun f hf => ?_⟩
  · show (putRow R.row (8 * A) (hdr d.length ++ d)).length = 8 * R.g
    unfold putRow
    simp only [List.length_append, List.length_take, List.length_drop, hdr, List.length_cons, List.length_nil]
    omega
  · show (e + (G + needs d.length)) % R.g = (A + needs d.length) % R.g
    rw [hat, Nat.mod_add_mod]
    congr 1
    omega
  · simp only at hf
    rcases Nat.lt_or_ge i R.fs.length with q | q
    · rw [List.getElem?_append_left q] at hf
      obtain ⟨k1, k2⟩ := h.kept i f hf
      refine ⟨?_, k2⟩
      obtain ⟨x, p1, p2, p3, p4⟩ := Lies.pos _ _ _ l1 (List.mem_of_getElem? hf)
      have hap := apart (g := R.g) (x := x) (n := needs f.data.length) (y := e + G) (m := needs d.length) hgp (by omega) (by omega) (by rw [← p3]; exact p4) (by omega)
      rw [← p3, ← hat] at hap
      have hfr := needs_room f.data.length
      rcases hap with hap | hap
      · exact k1.ahead _ (by omega)
      · exact k1.behind _ (by rw [hxl]; omega)
    · rw [List.getElem?_append_right q] at hf
      have hi0 : i - R.fs.length = 0 := by
        rcases hq : i - R.fs.length with _ | k
        · rfl
        · rw [hq] at hf; simp at hf
      rw [hi0] at hf
      simp at hf
      subst hf
      exact ⟨Stored.new (by omega), by simp only; omega⟩
  · obtain ⟨A1, B1, o1, o2, o3⟩ := h.order
    refine ⟨A1, B1 ++ [⟨A, G + needs d.length, 0, d⟩], by simp only; rw [o1]; simp, o2, fun f hf => ?_⟩
    rcases List.mem_append.1 hf with hf | hf
    · exact o3 f hf
    · simp at hf; subst hf; rfl
  · simp only at hf
    rcases hR : R.fs with _ | ⟨y, l'⟩
    · rw [hR] at hf
      simp at hf
      rw [← hf.1]
      simp
    · rw [hR] at hf
      simp at hf
      rw [← hf.1]
      exact h.head y l' hR
  · rcases List.mem_append.1 hf with hf | hf
    · exact h.sts f hf
    · simp at hf; subst hf; simp

theorem Kept.st {R : PR} (h : Kept R) (i s : Nat) : Kept { R with fs := setSt R.fs i s } := by
  intro j f hf
  simp only at hf
  rcases hq : R.fs[j]? with _ | y
  · have : (setSt R.fs i s)[j]? = none := by
      rw [List.getElem?_eq_none_iff, setSt_len]
      exact List.getElem?_eq_none_iff.1 hq
    rw [this] at hf
    simp at hf
  · rw [setSt_at hq] at hf
    obtain ⟨k1, k2⟩ := h j y hq
    split at hf
    · simp at hf; subst hf; exact ⟨k1, k2⟩
    · simp at hf; subst hf; exact ⟨k1, k2⟩

theorem setSt_mid (A B : List PF) (x : PF) (s : Nat) : setSt (A ++ x :: B) A.length s = A ++ { x with st := s } :: B := by
  induction A with
  | nil => simp [setSt]
  | cons a A ih =>
    have : setSt (a :: (A ++ x :: B)) (A.length + 1) s = a :: setSt (A ++ x :: B) A.length s := by simp [setSt]
    rw [List.cons_append, List.length_cons, this, ih]
    rfl
theorem setSt_left : ∀ (A B : List PF) (i s : Nat), i < A.length → setSt (A ++ B) i s = setSt A i s ++ B := by
  intro A
  induction A with
  | nil => intro B i s h; simp at h
  | cons a A ih =>
    intro B i s h
    rcases i with _ | i
    · simp [setSt]
    · have e1 : setSt (a :: (A ++ B)) (i + 1) s = a :: setSt (A ++ B) i s := by simp [setSt]
      have e2 : setSt (a :: A) (i + 1) s = a :: setSt A i s := by simp [setSt]
      rw [List.cons_append, e1, e2, ih B i s (by simpa using h)]
      rfl
theorem wait_mid {A B : List PF} {x : PF} (hA : ∀ f ∈ A, f.st ≠ 0) (hx : x.st = 0) : waitI (A ++ x :: B) = some A.length := by
  unfold waitI
  refine findIdx_at (x := x) (by simp) (by simp [hx]) (fun j y hj hy => ?_)
  rw [List.getElem?_append_left hj] at hy
  exact decide_eq_false (hA y (List.mem_of_getElem? hy))
theorem wait_none {l : List PF} (h : ∀ f ∈ l, f.st ≠ 0) : waitI l = none := by
  unfold waitI
  exact findIdx_no (fun j y _ hy => decide_eq_false (h y (List.mem_of_getElem? hy)))

theorem Fit.take {R : PR} (h : Fit R) : Fit (takeP R).2.2 := by
  obtain ⟨A, B, o1, o2, o3⟩ := h.order
  unfold takeP
  rcases B with _ | ⟨x, B⟩
  · have : waitI R.fs = none := by rw [o1]; simp only [List.append_nil]; exact wait_none o2
    rw [this]
    exact h
  · have hw : waitI R.fs = some A.length := by rw [o1]; exact wait_mid o2 (o3 x (by simp))
    rw [hw]
    simp only
    obtain ⟨base, e, l1, l2, l3⟩ := h.lies
    refine ⟨h.g2, h.g64, h.len, h.next, ⟨base, e, Lies.st 1 _ _ _ _ l1, l2, l3⟩, h.kept.st _ _, h.first, ⟨A ++ [{ x with st := 1 }], B, by simp only; rw [o1, setSt_mid]; simp, fun f hf => ?_, fun f hf => o3 f (by simp [hf])⟩, fun f l hf => ?_, setSt_le h.sts _ (by omega)⟩
    · rcases List.mem_append.1 hf with hf | hf
      · exact o2 f hf
      · simp at hf; subst hf; simp
    · simp only at hf
      rw [o1, setSt_mid] at hf
      rcases A with _ | ⟨a, A⟩
      · simp at hf; rw [← hf.1]; simp
      · simp at hf
        rw [← hf.1]
        exact h.head a (A ++ x :: B) (by rw [o1]; rfl)
theorem Fit.shut {R : PR} (h : Fit R) : Fit (shutP R).2 := by
  unfold shutP
  split
  · exact h
  · exact ⟨h.g2, h.g64, h.len, h.next, h.lies, h.kept, h.first, h.order, h.head, h.sts⟩

theorem pop_lies {g : Nat} : ∀ (l : List PF) (n v e : Nat), Lies g v l e → ∃ v', v ≤ v' ∧ Lies g v' (popP l n).1 e ∧ n ≤ (popP l n).2 := by
  intro l
  induction l with
  | nil => intro n v e h; exact ⟨v, Nat.le_refl _, h, Nat.le_refl _⟩
  | cons f l ih =>
    intro n v e h
    simp only [popP]
    split
    · obtain ⟨gp, _, _, _, a4⟩ := h
      obtain ⟨v', b1, b2, b3⟩ := ih (n + 1) _ _ a4
      exact ⟨v', by omega, b2, by omega⟩
    · exact ⟨v, Nat.le_refl _, h, Nat.le_refl _⟩
theorem pop_suffix : ∀ (l : List PF) (n : Nat), ∃ k, (popP l n).1 = l.drop k ∧ (popP l n).2 = n + k ∧ k ≤ l.length ∧ ∀ (j : Nat) (f : PF), j < k → l[j]? = some f → f.st = 2 := by
  intro l
  induction l with
  | nil => intro n; exact ⟨0, rfl, rfl, Nat.le_refl _, fun j f h => by omega⟩
  | cons x l ih =>
    intro n
    simp only [popP]
    split
    · rename_i hx
      obtain ⟨k, a1, a2, a3, a4⟩ := ih (n + 1)
      refine ⟨k + 1, by rw [a1]; simp, by rw [a2]; omega, by simp; omega, fun j f hj hf => ?_⟩
      rcases j with _ | j
      · simp at hf; subst hf; exact hx
      · exact a4 j f (by omega) (by simpa using hf)
    · exact ⟨0, rfl, rfl, by simp, fun j f h => by omega⟩
theorem pop_head : ∀ (l : List PF) (n : Nat) (f : PF) (l' : List PF), (popP l n).1 = f :: l' → f.st ≠ 2 := by
  intro l
  induction l with
  | nil => intro n f l' h; simp [popP] at h
  | cons x l ih =>
    intro n f l' h
    simp only [popP] at h
    split at h
    · exact ih _ _ _ h
    · rename_i hx
      simp at h
      rw [← h.1]
      exact hx

theorem Fit.release {R : PR} (h : Fit R) (n : Int) : Fit (relP R n).2 := by
  unfold relP
  rcases hq : heldI R n with _ | i
  · exact h
  · simp only
    obtain ⟨f, hf, hst⟩ := heldI_at hq
    obtain ⟨base, e, l1, l2, l3⟩ := h.lies
    obtain ⟨v', b1, b2, b3⟩ := pop_lies _ R.first _ _ (Lies.st 2 R.fs i _ _ l1)
    obtain ⟨k, s1, s2, s3, s4⟩ := pop_suffix (setSt R.fs i 2) R.first
    have hkept := h.kept.st i 2
    refine ⟨h.g2, h.g64, h.len, h.next, ⟨v', e, b2, by have := h.g2; simp only; omega, l3⟩, fun j y hy => ?_, by have := h.first; simp only; omega, ?_, fun y l' hy => pop_head _ _ _ _ hy, fun y hy => setSt_le h.sts i (Nat.le_refl 2) y (by rw [s1] at hy; exact List.mem_of_mem_drop hy)⟩
    · simp only at hy
      rw [s1, List.getElem?_drop] at hy
      exact hkept _ y hy
    · obtain ⟨A, B, o1, o2, o3⟩ := h.order
      have hiA : i < A.length := by
        rcases Nat.lt_or_ge i A.length with q | q
        · exact q
        · rw [o1, List.getElem?_append_right q] at hf
          have := o3 f (List.mem_of_getElem? hf)
          omega
      have e1 : setSt R.fs i 2 = setSt A i 2 ++ B := by
        rw [o1]
        exact setSt_left A B i 2 hiA
      have hkA : k ≤ (setSt A i 2).length := by
        rcases Nat.lt_or_ge (setSt A i 2).length k with q | q
        · have hlt : (setSt A i 2).length < (setSt R.fs i 2).length := by omega
          have := s4 (setSt A i 2).length _ q (List.getElem?_eq_getElem hlt)
          have hB : (setSt R.fs i 2)[(setSt A i 2).length]? = B[0]? := by rw [e1, List.getElem?_append_right (Nat.le_refl _), Nat.sub_self]
          rw [List.getElem?_eq_getElem hlt] at hB
          have := o3 _ (List.mem_of_getElem? hB.symm)
          omega
        · exact q
      refine ⟨(setSt A i 2).drop k, B, by simp only; rw [s1, e1, List.drop_append_of_le_length hkA], fun y hy => ?_, o3⟩
      obtain ⟨j, hj, hje⟩ := List.mem_iff_getElem.1 (List.mem_of_mem_drop hy)
      have hj' : (setSt A i 2)[j]? = some y := by rw [List.getElem?_eq_getElem hj, hje]
      have hjA : j < A.length := by rw [setSt_len] at hj; exact hj
      rw [setSt_at (List.getElem?_eq_getElem hjA)] at hj'
      have hne := o2 A[j] (List.getElem_mem hjA)
      split at hj'
      · simp at hj'; rw [← hj']; simp
      · simp at hj'; rw [← hj']; exact hne

end Go.Proofs.YtnhkalnihjkoeaaGreatDoor.Q
