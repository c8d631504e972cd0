/- What a queue has of a ring: what waits, what is held. -/
import Derived.Test.YtnhkalnihjkoeaaQHar
namespace Go.Proofs.Ytnhkalnihjkoeaa
open Go.RowKit

def waitsF (l : List PF) : List Bs := (l.filter (fun f => decide (f.st = 0))).map PF.data
def heldF : Nat → List PF → List (Nat × Bs)
  | _, [] => []
  | n, f :: l => (if f.st = 1 then [(n, f.data)] else []) ++ heldF (n + 1) l

structure QR (R : PR) (N : Nat) (waits : List Bs) (held : List (Nat × Bs)) : Prop where
  waits : waits = waitsF R.fs
  held : held = heldF R.first R.fs
  num : N + 1 = R.first + R.fs.length
  open_ : R.shut = false

theorem waitsF_append (l m : List PF) : waitsF (l ++ m) = waitsF l ++ waitsF m := by simp [waitsF]
theorem waitsF_none {l : List PF} (h : ∀ f ∈ l, f.st ≠ 0) : waitsF l = [] := by
  unfold waitsF
  rw [List.filter_eq_nil_iff.2 (fun f hf => by simpa using h f hf)]
  rfl
theorem waitsF_all {l : List PF} (h : ∀ f ∈ l, f.st = 0) : waitsF l = l.map PF.data := by
  unfold waitsF
  rw [List.filter_eq_self.2 (fun f hf => by simpa using h f hf)]
theorem heldF_append : ∀ (l m : List PF) (n : Nat), heldF n (l ++ m) = heldF n l ++ heldF (n + l.length) m := by
  intro l
  induction l with
  | nil => intro m n; simp [heldF]
  | cons f l ih => intro m n; simp only [List.cons_append, heldF, ih, List.append_assoc, List.length_cons]; rw [show n + 1 + l.length = n + (l.length + 1) by omega]
theorem heldF_none : ∀ (l : List PF) (n : Nat), (∀ f ∈ l, f.st ≠ 1) → heldF n l = [] := by
  intro l
  induction l with
  | nil => intro n _; rfl
  | cons f l ih => intro n h; simp only [heldF]; rw [if_neg (h f (by simp)), ih _ (fun x hx => h x (by simp [hx]))]; rfl
theorem count_waits (l : List PF) : countOf 0 l = (waitsF l).length := by simp [countOf, waitsF]
theorem count_held : ∀ (l : List PF) (n : Nat), countOf 1 l = (heldF n l).length := by
  intro l
  induction l with
  | nil => intro n; rfl
  | cons f l ih =>
    intro n
    have := ih (n + 1)
    unfold countOf at *
    simp only [heldF, List.length_append, List.filter_cons]
    by_cases h : f.st = 1
    · simp [h]; omega
    · simp [h]; omega

theorem heldF_at : ∀ (l : List PF) (n i m : Nat) (d : Bs), (heldF n l)[i]? = some (m, d) → ∃ (j : Nat) (f : PF), m = n + j ∧ l[j]? = some f ∧ f.st = 1 ∧ f.data = d ∧ heldF n (setSt l j 2) = (heldF n l).eraseIdx i := by
  intro l
  induction l with
  | nil => intro n i m d h; simp [heldF] at h
  | cons x l ih =>
    intro n i m d h
    simp only [heldF] at h ⊢
    by_cases hx : x.st = 1
    · rw [if_pos hx] at h ⊢
      rcases i with _ | i
      · simp at h
        refine ⟨0, x, by omega, rfl, hx, h.2, ?_⟩
        have : setSt (x :: l) 0 2 = { x with st := 2 } :: l := by simp [setSt]
        rw [this]
        simp [heldF]
      · have h' : (heldF (n + 1) l)[i]? = some (m, d) := by simpa using h
        obtain ⟨j, f, a1, a2, a3, a4, a5⟩ := ih _ _ _ _ h'
        refine ⟨j + 1, f, by omega, by simpa using a2, a3, a4, ?_⟩
        have : setSt (x :: l) (j + 1) 2 = x :: setSt l j 2 := by simp [setSt]
        rw [this]
        simp only [heldF]
        rw [if_pos hx, a5]
        simp
    · rw [if_neg hx] at h ⊢
      have h' : (heldF (n + 1) l)[i]? = some (m, d) := by simpa using h
      obtain ⟨j, f, a1, a2, a3, a4, a5⟩ := ih _ _ _ _ h'
      refine ⟨j + 1, f, by omega, by simpa using a2, a3, a4, ?_⟩
      have : setSt (x :: l) (j + 1) 2 = x :: setSt l j 2 := by simp [setSt]
      rw [this]
      simp only [heldF]
      rw [if_neg hx, a5]
      simp
theorem heldF_pop : ∀ (l : List PF) (n : Nat), heldF (popP l n).2 (popP l n).1 = heldF n l := by
  intro l
  induction l with
  | nil => intro n; rfl
  | cons x l ih =>
    intro n
    simp only [popP]
    split
    · rename_i hx
      rw [ih]
      simp only [heldF]
      rw [if_neg (by omega)]
      rfl
    · rfl
theorem waitsF_pop : ∀ (l : List PF) (n : Nat), waitsF (popP l n).1 = waitsF l := by
  intro l
  induction l with
  | nil => intro n; rfl
  | cons x l ih =>
    intro n
    simp only [popP]
    split
    · rename_i hx
      rw [ih]
      simp [waitsF, hx]
    · rfl
theorem waitsF_st : ∀ (l : List PF) (j : Nat) (f : PF), l[j]? = some f → f.st = 1 → waitsF (setSt l j 2) = waitsF l := by
  intro l
  induction l with
  | nil => intro j f h; simp at h
  | cons x l ih =>
    intro j f h hf
    rcases j with _ | j
    · simp at h
      subst h
      have : setSt (x :: l) 0 2 = { x with st := 2 } :: l := by simp [setSt]
      rw [this]
      simp [waitsF, hf]
    · have : setSt (x :: l) (j + 1) 2 = x :: setSt l j 2 := by simp [setSt]
      rw [this]
      have := ih j f (by simpa using h) hf
      unfold waitsF at this ⊢
      by_cases hx : x.st = 0
      · simp [hx]; exact this
      · simp [hx]; exact this

theorem QR.put {R : PR} {N : Nat} {waits : List Bs} {held : List (Nat × Bs)} (h : QR R N waits held) {d : Bs} (hp : (putP R d).1 = 0) : QR (putP R d).2 (N + 1) (waits ++ [d]) held ∧ (putP R d).2.first = R.first := by
  unfold putP at hp ⊢
  by_cases hs : R.shut = true
  · rw [if_pos hs] at hp; simp at hp
  rw [if_neg hs] at hp ⊢
  by_cases h2 : R.g < 2 * needs d.length
  · rw [if_pos h2] at hp; simp at hp
  rw [if_neg h2] at hp ⊢
  by_cases h3 : R.g < taken R.fs + gapOf R.g R.next (needs d.length) + needs d.length
  · rw [if_pos h3] at hp; simp at hp
  rw [if_neg h3]
  refine ⟨⟨?_, ?_, ?_, h.open_⟩, rfl⟩
  · simp only
    rw [waitsF_append, h.waits]
    simp [waitsF]
  · simp only
    rw [heldF_append, h.held]
    simp [heldF]
  · have := h.num
    simp
    omega
theorem QR.take0 {R : PR} {N : Nat} {held : List (Nat × Bs)} (h : QR R N [] held) (hF : Fit R) : takeP R = (0, 11, R) := by
  obtain ⟨A, B, o1, o2, o3⟩ := hF.order
  have hB : B = [] := by
    have := h.waits
    rw [o1, waitsF_append, waitsF_all o3, waitsF_none o2] at this
    simpa using this.symm
  subst hB
  unfold takeP
  rw [o1, List.append_nil, wait_none o2]
  simp only
  rw [if_neg (by rw [h.open_]; decide)]
theorem QR.take {R : PR} {N : Nat} {d : Bs} {ws : List Bs} {held : List (Nat × Bs)} (h : QR R N (d :: ws) held) (hF : Fit R) : (takeP R).2.1 = 0 ∧ (takeP R).1 + ws.length = N ∧ QR (takeP R).2.2 N ws (held ++ [((takeP R).1, d)]) ∧ (takeP R).2.2.first = R.first := by
  obtain ⟨A, B, o1, o2, o3⟩ := hF.order
  have hw := h.waits
  rw [o1, waitsF_append, waitsF_all o3, waitsF_none o2, List.nil_append] at hw
  rcases B with _ | ⟨x, B⟩
  · simp at hw
  · simp at hw
    obtain ⟨hd, hws⟩ := hw
    have hx : x.st = 0 := o3 x (by simp)
    have hwi : waitI R.fs = some A.length := by rw [o1]; exact wait_mid o2 hx
    have e : takeP R = (R.first + A.length, 0, { R with fs := A ++ { x with st := 1 } :: B }) := by
      unfold takeP
      rw [hwi]
      simp only
      rw [o1, setSt_mid]
    have hB : ∀ f ∈ B, f.st = 0 := fun f hf => o3 f (by simp [hf])
    have hn := h.num
    rw [o1] at hn
    simp at hn
    rw [e]
    refine ⟨rfl, ?_, ⟨?_, ?_, ?_, h.open_⟩, rfl⟩
    · simp only
      rw [hws]
      simp
      omega
    · simp only
      rw [waitsF_append, waitsF_none o2, List.nil_append, hws]
      have : waitsF ({ x with st := 1 } :: B) = waitsF B := by simp [waitsF]
      rw [this, waitsF_all hB]
    · simp only
      have hh := h.held
      rw [o1, heldF_append] at hh
      have e2 : heldF (R.first + A.length) (x :: B) = [] := heldF_none _ _ (fun f hf => by have := o3 f hf; omega)
      rw [e2, List.append_nil] at hh
      rw [heldF_append, hh]
      simp only [heldF, if_true]
      rw [heldF_none B _ (fun f hf => by have := hB f hf; omega), hd]
      simp
    · simp only
      simp
      omega
theorem QR.rel {R : PR} {N : Nat} {waits : List Bs} {held : List (Nat × Bs)} (h : QR R N waits held) {i m : Nat} {d : Bs} (hi : held[i]? = some (m, d)) :
    viewP R m 0 d.length = (d, 0) ∧ (relP R m).1 = 0 ∧ QR (relP R m).2 N waits (held.eraseIdx i) ∧ viewP (relP R m).2 m 0 0 = ([], 13) ∧ (relP R m).2.first ≤ N + 1 ∧ m ≤ N := by
  have hh := h.held
  rw [hh] at hi
  obtain ⟨j, f, a1, a2, a3, a4, a5⟩ := heldF_at _ _ _ _ _ hi
  have hjl : j < R.fs.length := (List.getElem?_eq_some_iff.1 a2).1
  have hI : heldI R m = some j := by
    unfold heldI
    rw [if_neg (by omega), show ((m : Int) - (R.first : Int)).toNat = j by omega, a2]
    simp only
    rw [if_pos a3]
  have hr : relP R m = (0, { R with fs := (popP (setSt R.fs j 2) R.first).1, first := (popP (setSt R.fs j 2) R.first).2 }) := by unfold relP; rw [hI]
  obtain ⟨k, s1, s2, s3, s4⟩ := pop_suffix (setSt R.fs j 2) R.first
  have hn := h.num
  rw [setSt_len] at s3
  rw [hr]
  refine ⟨?_, rfl, ⟨?_, ?_, ?_, h.open_⟩, ?_, by simp only; rw [s2]; omega, by omega⟩
  · unfold viewP
    rw [hI]
    simp only [a2]
    rw [if_neg (by rw [a4]; omega), a4]
    simp
  · simp only
    rw [waitsF_pop, waitsF_st _ _ _ a2 a3]
    exact h.waits
  · simp only
    rw [heldF_pop, a5, hh]
  · simp only
    rw [s1, s2, List.length_drop, setSt_len]
    omega
  · unfold viewP
    have hN : heldI { R with fs := (popP (setSt R.fs j 2) R.first).1, first := (popP (setSt R.fs j 2) R.first).2 } (m : Int) = none := by
      unfold heldI
      simp only
      rw [s1, s2]
      by_cases hc : (m : Int) < ((R.first + k : Nat) : Int) ∨ (((setSt R.fs j 2).drop k).length : Int) ≤ (m : Int) - ((R.first + k : Nat) : Int)
      · rw [if_pos hc]
      · rw [if_neg hc]
        have e : ((m : Int) - ((R.first + k : Nat) : Int)).toNat = j - k := by omega
        rw [e, List.getElem?_drop, show k + (j - k) = j by omega, setSt_at a2]
        simp
    rw [hN]

end Go.Proofs.Ytnhkalnihjkoeaa
