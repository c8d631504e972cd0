/- Values as trees; what a value's text and bytes are read as, and how it is written as both. -/
import Derived.Test.YtnhkalnihjkoeaaGreatDoorRgWordType
namespace Go.Proofs.YtnhkalnihjkoeaaGreatDoor
open Go.RowKit

/-- A value: its type, a number, bytes, parts. -/
structure PV where
  of : PT
  num : Int
  bytes : List UInt8
  parts : List PV

abbrev Bs := List UInt8

/-! ### Reading text. A reader answers what it read, or nothing, and what is left: it stands ahead of that. -/

def rAcc (c : Nat) : Bs → Option Bs
  | [] => none
  | b :: l => if b.toNat = c then some l else none

def rDigits (most : Nat) : Nat → Bs → Nat × Bs
  | acc, [] => (acc, [])
  | acc, b :: l => if b.toNat < 48 ∨ 57 < b.toNat ∨ (most - (b.toNat - 48)) / 10 < acc then (acc, b :: l) else rDigits most (acc * 10 + (b.toNat - 48)) l

def rUns (most : Nat) (l : Bs) : Option Nat × Bs :=
  match rAcc 48 l with
  | some r => (some 0, r)
  | none => (if (rDigits most 0 l).2.length < l.length then some (rDigits most 0 l).1 else none, (rDigits most 0 l).2)

def nameBs (n : ByteArray) : Bs := n.data.toList ++ [58]
/-! ### Reading bytes -/

/-! ### Writing -/

/-! ### Types that are well made, and values of a type -/

def WFT : Nat → PT → Prop
  | 0, _ => False
  | k + 1, t => t.kind ≤ 10 ∧ t.names.length = t.subs.length ∧ (∀ u ∈ t.subs, WFT k u) ∧
      (7 ≤ t.kind → 0 < t.subs.length) ∧ ((t.kind = 7 ∨ t.kind = 8) → t.subs.length = 1) ∧ (t.subs.length ≤ 6 ∧ ∀ n ∈ t.names, n.size ≤ 400) ∧
      (9 ≤ t.kind → t.names.Nodup ∧ ∀ n ∈ t.names, ∀ b ∈ n.data.toList, 97 ≤ b.toNat ∧ b.toNat ≤ 122)

/-! ### Numbers -/

/-! ### One of some words -/

def PreFree (ws : List Bs) : Prop := ∀ (i j : Nat) (x y : Bs), ws[i]? = some x → ws[j]? = some y → x <+: y → i = j
theorem colon_prefix : ∀ (x y : Bs), (∀ b ∈ y, b.toNat ≠ 58) → (x ++ [58] <+: y ++ [58]) → x = y := by
  intro x
  induction x with
  | nil =>
    intro y hy h
    cases y with
    | nil => rfl
    | cons b y =>
      obtain ⟨z, hz⟩ := h
      simp at hz
      have := hy b (by simp)
      rw [← hz.1] at this
      exact absurd rfl this
  | cons a x ih =>
    intro y hy h
    cases y with
    | nil =>
      obtain ⟨z, hz⟩ := h
      have := congrArg List.length hz
      simp at this
    | cons b y =>
      obtain ⟨z, hz⟩ := h
      simp at hz
      rw [hz.1, ih y (fun c hc => hy c (by simp [hc])) ⟨z, by simpa using hz.2⟩]

theorem bytes_data {a b : ByteArray} (h : a.data.toList = b.data.toList) : a = b := by
  apply ByteArray.ext
  exact Array.toList_inj.1 h
theorem names_free {names : List ByteArray} (hn : names.Nodup) (hl : ∀ n ∈ names, ∀ b ∈ n.data.toList, 97 ≤ b.toNat ∧ b.toNat ≤ 122) : PreFree (names.map nameBs) := by
  intro i j x y hx hy h
  simp only [List.getElem?_map, Option.map_eq_some_iff] at hx hy
  obtain ⟨a, ha, rfl⟩ := hx
  obtain ⟨b, hb, rfl⟩ := hy
  have e := colon_prefix _ _ (fun c hc => by have := hl b (List.mem_of_getElem? hb) c hc; omega) h
  have e' := bytes_data e
  subst e'
  obtain ⟨hi, he⟩ := List.getElem?_eq_some_iff.1 ha
  obtain ⟨hj, he2⟩ := List.getElem?_eq_some_iff.1 hb
  have hpw := List.pairwise_iff_getElem.1 hn
  rcases Nat.lt_trichotomy i j with h' | h' | h'
  · exact absurd (he.trans he2.symm) (hpw i j hi hj h')
  · exact h'
  · exact absurd (he2.trans he.symm) (hpw j i hj hi h')
/-! ### Texts and bytes -/

/-! ### Bytes -/

def Stop (r : Bs) : Prop := ∀ b l, r = b :: l → b.toNat = 44 ∨ b.toNat = 93 ∨ b.toNat = 125
theorem Stop.of (c : UInt8) (r : Bs) (h : c.toNat = 44 ∨ c.toNat = 93 ∨ c.toNat = 125) : Stop (c :: r) := by
  intro b l e
  simp at e
  obtain ⟨rfl, _⟩ := e
  exact h
theorem Stop.nil : Stop [] := fun b l e => by simp at e

section
variable {rd : Bs → Option PV × Bs} {f : PV → Bs} {P : PV → Prop}

end

section
variable {rd : PT → Bs → Option PV × Bs} {f : PV → Bs} {P : PT → PV → Prop}
end

section
variable {rd : Bs → Option PV × Bs} {f : PV → Bs} {P : PV → Prop}
end

theorem WFT.names {k : Nat} {t : PT} (h : WFT (k + 1) t) (hk : 9 ≤ t.kind) : PreFree (t.names.map nameBs) := names_free (h.2.2.2.2.2.2 hk).1 (h.2.2.2.2.2.2 hk).2
end Go.Proofs.YtnhkalnihjkoeaaGreatDoor
