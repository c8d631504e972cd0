/- Rows of digits and the numbers that they are. -/
import Derived.Test.YtnhkalnihjkoeaaGreatDoorVLen
namespace Go.Proofs.YtnhkalnihjkoeaaGreatDoor

def isDig (b : UInt8) : Prop := 48 ≤ b.toNat ∧ b.toNat ≤ 57
def Digits (l : Bs) : Prop := ∀ b ∈ l, isDig b
def dvL : Bs → Nat → Nat
  | [], acc => acc
  | b :: l, acc => dvL l (acc * 10 + (b.toNat - 48))
def dvA (acc : Nat) (l : Bs) : Nat := dvL l acc
def dv (l : Bs) : Nat := dvA 0 l

theorem dvA_cons (acc : Nat) (b : UInt8) (l : Bs) : dvA acc (b :: l) = dvA (acc * 10 + (b.toNat - 48)) l := by unfold dvA; rw [dvL]
theorem dvA_nil (acc : Nat) : dvA acc [] = acc := by unfold dvA; rw [dvL]
theorem dvA_snoc (b : UInt8) : ∀ (l : Bs) (a : Nat), dvA a (l ++ [b]) = dvA a l * 10 + (b.toNat - 48) := by
  intro l
  induction l with
  | nil => intro a; rw [List.nil_append, dvA_cons, dvA_nil, dvA_nil]
  | cons c l ih => intro a; rw [List.cons_append, dvA_cons, dvA_cons]; exact ih _
theorem dv_snoc (l : Bs) (b : UInt8) : dv (l ++ [b]) = dv l * 10 + (b.toNat - 48) := dvA_snoc b l 0
theorem dvA_lt {x y : Bs} (hl : x.length = y.length) (hx : Digits x) : ∀ {a c : Nat}, a < c → dvA a x < dvA c y := by
  induction x generalizing y with
  | nil =>
    intro a c h
    rcases y with _ | ⟨b, y⟩
    · rw [dvA_nil, dvA_nil]; exact h
    · simp at hl
  | cons b x ih =>
    intro a c h
    rcases y with _ | ⟨d, y⟩
    · simp at hl
    · have hb := hx b (by simp)
      unfold isDig at hb
      have hl' : x.length = y.length := by simpa using hl
      rw [dvA_cons, dvA_cons]
      exact ih (y := y) hl' (fun q hq => hx q (by simp [hq])) (a := a * 10 + (b.toNat - 48)) (c := c * 10 + (d.toNat - 48)) (by omega)
theorem less_dv {x y : Bs} (hl : x.length = y.length) (hx : Digits x) (hy : Digits y) : ∀ a : Nat, (Op.bytesLess x y = true ↔ dvA a x < dvA a y) ∧ ((x == y) = true ↔ dvA a x = dvA a y) := by
  induction x generalizing y with
  | nil =>
    intro a
    rcases y with _ | ⟨b, y⟩
    · simp [Op.bytesLess, dvA_nil]
    · simp at hl
  | cons b x ih =>
    intro a
    rcases y with _ | ⟨d, y⟩
    · simp at hl
    · have hb := hx b (by simp)
      have hd := hy d (by simp)
      unfold isDig at hb hd
      have hl' : x.length = y.length := by simpa using hl
      have hx' : Digits x := fun q hq => hx q (by simp [hq])
      have hy' : Digits y := fun q hq => hy q (by simp [hq])
      rw [dvA_cons, dvA_cons]
      by_cases e : b = d
      · subst e
        have := ih hl' hx' hy' (a * 10 + (b.toNat - 48))
        simpa [Op.bytesLess] using this
      · have hne : b.toNat ≠ d.toNat := fun h => e (UInt8.toNat_inj.1 h)
        rcases Nat.lt_or_ge b.toNat d.toNat with h | h
        · have := dvA_lt hl' hx' (a := a * 10 + (b.toNat - 48)) (c := a * 10 + (d.toNat - 48)) (by omega)
          refine ⟨⟨fun _ => this, fun _ => ?_⟩, ⟨fun h' => ?_, fun h' => by omega⟩⟩
          · have hlt : b < d := UInt8.lt_iff_toNat_lt.2 h
            simp [Op.bytesLess, hlt]
          · simp [e] at h'
        · have := dvA_lt hl'.symm hy' (a := a * 10 + (d.toNat - 48)) (c := a * 10 + (b.toNat - 48)) (by omega)
          refine ⟨⟨fun h' => ?_, fun h' => by omega⟩, ⟨fun h' => ?_, fun h' => by omega⟩⟩
          · have hlt : ¬ b < d := fun q => by have := UInt8.lt_iff_toNat_lt.1 q; omega
            simp [Op.bytesLess, hlt, e] at h'
          · simp [e] at h'

theorem dvA_ge (l : Bs) : ∀ a, a * 10 ^ l.length ≤ dvA a l := by
  induction l with
  | nil => intro a; simp [dvA_nil]
  | cons b l ih =>
    intro a
    rw [dvA_cons, List.length_cons, Nat.pow_succ]
    have h1 := ih (a * 10 + (b.toNat - 48))
    have h2 : a * (10 ^ l.length * 10) = a * 10 * 10 ^ l.length := by rw [Nat.mul_assoc, Nat.mul_comm (10 ^ l.length) 10]
    rw [h2]
    exact Nat.le_trans (Nat.mul_le_mul_right _ (by omega)) h1
theorem dvA_top {l : Bs} (h : Digits l) : ∀ a, dvA a l < (a + 1) * 10 ^ l.length := by
  induction l with
  | nil => intro a; simp [dvA_nil]
  | cons b l ih =>
    intro a
    have hb := h b (by simp)
    unfold isDig at hb
    rw [dvA_cons, List.length_cons, Nat.pow_succ]
    have h1 := ih (fun q hq => h q (by simp [hq])) (a * 10 + (b.toNat - 48))
    have h2 : (a + 1) * (10 ^ l.length * 10) = (a + 1) * 10 * 10 ^ l.length := by rw [Nat.mul_assoc, Nat.mul_comm (10 ^ l.length) 10]
    rw [h2]
    exact Nat.lt_of_lt_of_le h1 (Nat.mul_le_mul_right _ (by omega))

/-- Digits without a nought ahead. -/
def Plain (l : Bs) : Prop := Digits l ∧ ∀ b r, l = b :: r → 49 ≤ b.toNat
theorem longer {x y : Bs} (hx : Plain x) (hy : Digits y) (h : y.length < x.length) : dv y < dv x := by
  rcases x with _ | ⟨b, x⟩
  · simp at h
  · have hb := hx.2 b x rfl
    have h1 := dvA_top hy 0
    have h2 := dvA_ge x (0 * 10 + (b.toNat - 48))
    have h3 : 10 ^ y.length ≤ 10 ^ x.length := Nat.pow_le_pow_right (by omega) (by simp at h; omega)
    have h4 : 1 * 10 ^ x.length ≤ (0 * 10 + (b.toNat - 48)) * 10 ^ x.length := Nat.mul_le_mul_right _ (by omega)
    show dvA 0 y < dvA 0 (b :: x)
    rw [dvA_cons]
    omega

/-- What `greater` tells. -/
def greaterP (a b : Bs) : Bool := if a.length ≠ b.length then decide (b.length < a.length) else !Op.bytesLess a b && !(a == b)
theorem greater_dv {a b : Bs} (ha : Plain a ∨ a = [48]) (hb : Plain b) (hb0 : b ≠ []) : greaterP a b = decide (dv b < dv a) := by
  have hda : Digits a := by
    rcases ha with h | rfl
    · exact h.1
    · intro q hq; simp at hq; subst hq; unfold isDig; decide
  unfold greaterP
  by_cases hl : a.length = b.length
  · rw [if_neg (by omega)]
    obtain ⟨h1, h2⟩ := less_dv hl hda hb.1 0
    rw [Bool.eq_iff_iff]
    simp only [Bool.and_eq_true, Bool.not_eq_true', decide_eq_true_eq]
    constructor
    · rintro ⟨q1, q2⟩
      have e1 : ¬ dvA 0 a < dvA 0 b := fun h => by rw [h1.2 h] at q1; simp at q1
      have e2 : ¬ dvA 0 a = dvA 0 b := fun h => by rw [h2.2 h] at q2; simp at q2
      show dvA 0 b < dvA 0 a
      omega
    · intro h
      have h' : dvA 0 b < dvA 0 a := h
      refine ⟨?_, ?_⟩
      · rcases hq : Op.bytesLess a b with _ | _
        · rfl
        · have := h1.1 hq; omega
      · rcases hq : (a == b) with _ | _
        · rfl
        · have := h2.1 hq; omega
  · rw [if_pos hl]
    rw [Bool.eq_iff_iff]
    simp only [decide_eq_true_eq]
    rcases Nat.lt_or_ge b.length a.length with h | h
    · have : dv b < dv a := by
        rcases ha with ha | rfl
        · exact longer ha hb.1 h
        · simp at h; exact absurd h hb0
      exact ⟨fun _ => this, fun _ => h⟩
    · have : dv a < dv b := longer hb hda (by omega)
      exact ⟨fun h' => by omega, fun h' => by omega⟩

end Go.Proofs.YtnhkalnihjkoeaaGreatDoor
