/- A reader's answer hangs on what it has read and on the next byte alone. -/
import Derived.Test.YtnhkalnihjkoeaaGreatDoorVal
namespace Go.Proofs.YtnhkalnihjkoeaaGreatDoor

/-- What was read, with the next byte, tells the answer, whatever follows; and what was read is read to its end. -/
def Loc {α : Type} (rd : Bs → Option α × Bs) : Prop :=
  ∀ l, ∃ pre, l = pre ++ (rd l).2 ∧ (∀ b r', (rd l).2 = b :: r' → ∀ r'', rd (pre ++ b :: r'') = ((rd l).1, b :: r'')) ∧ (rd pre).2 = []

def ret {α : Type} (x : α) : Bs → Option α × Bs := fun l => (some x, l)
def non {α : Type} : Bs → Option α × Bs := fun l => (none, l)
def bnd {α β : Type} (rd : Bs → Option α × Bs) (f : α → Bs → Option β × Bs) : Bs → Option β × Bs := fun l => match rd l with
  | (none, r) => (none, r)
  | (some v, r) => f v r
def mp {α β : Type} (g : α → β) (rd : Bs → Option α × Bs) : Bs → Option β × Bs := fun l => ((rd l).1.map g, (rd l).2)
def orB {α : Type} (p : UInt8 → Bool) (f : UInt8 → Bs → Option α × Bs) (B : Bs → Option α × Bs) : Bs → Option α × Bs
  | [] => B []
  | b :: l => if p b then f b l else B (b :: l)
def pkB {α : Type} (p : UInt8 → Bool) (A B : Bs → Option α × Bs) : Bs → Option α × Bs
  | [] => B []
  | b :: l => if p b then A (b :: l) else B (b :: l)

section
variable {α β : Type}

theorem Loc.empty {rd : Bs → Option α × Bs} (h : Loc rd) : (rd []).2 = [] := by
  obtain ⟨pre, h1, _, _⟩ := h []
  have := List.append_eq_nil_iff.1 h1.symm
  exact this.2
theorem Loc.ret (x : α) : Loc (ret x) := fun _ => ⟨[], rfl, fun _ _ _ _ => rfl, rfl⟩
theorem Loc.non : Loc (non : Bs → Option α × Bs) := fun _ => ⟨[], rfl, fun _ _ _ _ => rfl, rfl⟩
theorem Loc.mp {g : α → β} {rd : Bs → Option α × Bs} (h : Loc rd) : Loc (mp g rd) := fun l => by
  obtain ⟨pre, h1, h2, h3⟩ := h l
  refine ⟨pre, h1, fun b r' hr r'' => ?_, h3⟩
  have := h2 b r' hr r''
  simp only [Go.Proofs.YtnhkalnihjkoeaaGreatDoor.mp, this]
theorem Loc.bnd {rd : Bs → Option α × Bs} {f : α → Bs → Option β × Bs} (h : Loc rd) (hf : ∀ v, Loc (f v)) : Loc (bnd rd f) := fun l => by
  obtain ⟨pre1, h1, h2, h3⟩ := h l
  -- where the first reader comes to the end of what it read
  have hend : ∀ p, (rd p).2 = [] → (Go.Proofs.YtnhkalnihjkoeaaGreatDoor.bnd rd f p).2 = [] := fun p hp => by
    unfold Go.Proofs.YtnhkalnihjkoeaaGreatDoor.bnd
    rcases hq : rd p with ⟨_ | v, r⟩
    · rw [hq] at hp; exact hp
    · rw [hq] at hp
      simp only at hp ⊢
      rw [hp]
      exact (hf v).empty
  rcases hq : rd l with ⟨_ | v, r1⟩
  · rw [hq] at h1 h2
    have e : Go.Proofs.YtnhkalnihjkoeaaGreatDoor.bnd rd f l = (none, r1) := by unfold Go.Proofs.YtnhkalnihjkoeaaGreatDoor.bnd; rw [hq]
    rw [e]
    refine ⟨pre1, h1, fun b r' hr r'' => ?_, hend _ h3⟩
    unfold Go.Proofs.YtnhkalnihjkoeaaGreatDoor.bnd
    rw [h2 b r' hr r'']
  · rw [hq] at h1 h2
    simp only at h1 h2
    obtain ⟨pre2, g1, g2, g3⟩ := hf v r1
    have e : Go.Proofs.YtnhkalnihjkoeaaGreatDoor.bnd rd f l = f v r1 := by unfold Go.Proofs.YtnhkalnihjkoeaaGreatDoor.bnd; rw [hq]
    rw [e]
    refine ⟨pre1 ++ pre2, by rw [List.append_assoc, ← g1]; exact h1, fun b r' hr r'' => ?_, ?_⟩
    · have hx : rd (pre1 ++ (pre2 ++ b :: r'')) = (some v, pre2 ++ b :: r'') := by
        cases pre2 with
        | nil =>
          rw [List.nil_append] at g1 ⊢
          exact h2 b r' (g1.trans hr) r''
        | cons x xs => exact h2 x (xs ++ (f v r1).2) g1 (xs ++ b :: r'')
      rw [List.append_assoc]
      unfold Go.Proofs.YtnhkalnihjkoeaaGreatDoor.bnd
      rw [hx]
      exact g2 b r' hr r''
    · cases pre2 with
      | nil => rw [List.append_nil]; exact hend _ h3
      | cons x xs =>
        have hx : rd (pre1 ++ x :: xs) = (some v, x :: xs) := h2 x (xs ++ (f v r1).2) g1 xs
        unfold Go.Proofs.YtnhkalnihjkoeaaGreatDoor.bnd
        rw [hx]
        exact g3
theorem Loc.orB {p : UInt8 → Bool} {f : UInt8 → Bs → Option α × Bs} {B : Bs → Option α × Bs} (hf : ∀ b, Loc (f b)) (hB : Loc B) : Loc (orB p f B) := fun l => by
  cases l with
  | nil =>
    have e : (Go.Proofs.YtnhkalnihjkoeaaGreatDoor.orB p f B []).2 = [] := hB.empty
    refine ⟨[], by rw [e]; rfl, fun b r' hr => ?_, e⟩
    rw [e] at hr
    cases hr
  | cons b l =>
    by_cases hp : p b = true
    · obtain ⟨pre, h1, h2, h3⟩ := hf b l
      have e : ∀ m, Go.Proofs.YtnhkalnihjkoeaaGreatDoor.orB p f B (b :: m) = f b m := fun m => by simp only [Go.Proofs.YtnhkalnihjkoeaaGreatDoor.orB]; rw [if_pos hp]
      rw [e l]
      refine ⟨b :: pre, by rw [List.cons_append, ← h1], fun c r' hr r'' => ?_, by rw [e]; exact h3⟩
      rw [List.cons_append, e]
      exact h2 c r' hr r''
    · obtain ⟨pre, h1, h2, h3⟩ := hB (b :: l)
      have e : ∀ m, Go.Proofs.YtnhkalnihjkoeaaGreatDoor.orB p f B (b :: m) = B (b :: m) := fun m => by simp only [Go.Proofs.YtnhkalnihjkoeaaGreatDoor.orB]; rw [if_neg hp]
      rw [e l]
      cases pre with
      | nil =>
        refine ⟨[], h1, fun c r' hr r'' => ?_, hB.empty⟩
        rw [List.nil_append] at h1 ⊢
        have hc : b = c := by rw [← h1] at hr; exact (List.cons.inj hr).1
        subst hc
        rw [e]
        exact h2 b r' hr r''
      | cons x xs =>
        have hx : b = x := (List.cons.inj h1).1
        subst hx
        refine ⟨b :: xs, h1, fun c r' hr r'' => ?_, by rw [e]; exact h3⟩
        rw [List.cons_append, e]
        exact h2 c r' hr r''
theorem Loc.pkB {p : UInt8 → Bool} {A B : Bs → Option α × Bs} (hA : Loc A) (hB : Loc B) : Loc (pkB p A B) := fun l => by
  cases l with
  | nil =>
    have e : (Go.Proofs.YtnhkalnihjkoeaaGreatDoor.pkB p A B []).2 = [] := hB.empty
    refine ⟨[], by rw [e]; rfl, fun b r' hr => ?_, e⟩
    rw [e] at hr
    cases hr
  | cons b l =>
    have main : ∀ C : Bs → Option α × Bs, Loc C → (∀ m, Go.Proofs.YtnhkalnihjkoeaaGreatDoor.pkB p A B (b :: m) = C (b :: m)) → ∃ pre, b :: l = pre ++ (Go.Proofs.YtnhkalnihjkoeaaGreatDoor.pkB p A B (b :: l)).2 ∧ (∀ c r', (Go.Proofs.YtnhkalnihjkoeaaGreatDoor.pkB p A B (b :: l)).2 = c :: r' → ∀ r'', Go.Proofs.YtnhkalnihjkoeaaGreatDoor.pkB p A B (pre ++ c :: r'') = ((Go.Proofs.YtnhkalnihjkoeaaGreatDoor.pkB p A B (b :: l)).1, c :: r'')) ∧ (Go.Proofs.YtnhkalnihjkoeaaGreatDoor.pkB p A B pre).2 = [] := by
      intro C hC e
      obtain ⟨pre, h1, h2, h3⟩ := hC (b :: l)
      rw [e l]
      cases pre with
      | nil =>
        refine ⟨[], h1, fun c r' hr r'' => ?_, hB.empty⟩
        rw [List.nil_append] at h1 ⊢
        have hc : b = c := by rw [← h1] at hr; exact (List.cons.inj hr).1
        subst hc
        rw [e]
        exact h2 b r' hr r''
      | cons x xs =>
        have hx : b = x := (List.cons.inj h1).1
        subst hx
        refine ⟨b :: xs, h1, fun c r' hr r'' => ?_, by rw [e]; exact h3⟩
        rw [List.cons_append, e]
        exact h2 c r' hr r''
    by_cases hp : p b = true
    · exact main A hA (fun m => by simp only [Go.Proofs.YtnhkalnihjkoeaaGreatDoor.pkB]; rw [if_pos hp])
    · exact main B hB (fun m => by simp only [Go.Proofs.YtnhkalnihjkoeaaGreatDoor.pkB]; rw [if_neg hp])
end

/-! ### The readers of texts -/

def isC (c : Nat) : UInt8 → Bool := fun b => decide (b.toNat = c)
theorem acc_orB {α : Type} (c : Nat) (A B : Bs → Option α × Bs) (l : Bs) : (match rAcc c l with | some r => A r | none => B l) = orB (isC c) (fun _ => A) B l := by
  cases l with
  | nil => rfl
  | cons b l =>
    simp only [rAcc, orB, isC]
    by_cases h : b.toNat = c
    · simp [h]
    · simp [h]
theorem acc_pkB {α : Type} (c : Nat) (A B : Bs → Option α × Bs) (l : Bs) : (match rAcc c l with | some _ => A l | none => B l) = pkB (isC c) A B l := by
  cases l with
  | nil => rfl
  | cons b l =>
    simp only [rAcc, pkB, isC]
    by_cases h : b.toNat = c
    · simp [h]
    · simp [h]

theorem digits_loc (most : Nat) : ∀ (l : Bs) (acc : Nat), ∃ pre, l = pre ++ (rDigits most acc l).2 ∧ (∀ b r', (rDigits most acc l).2 = b :: r' → ∀ r'', rDigits most acc (pre ++ b :: r'') = ((rDigits most acc l).1, b :: r'')) ∧ (rDigits most acc pre).2 = [] := by
  intro l
  induction l with
  | nil => intro acc; exact ⟨[], rfl, (fun b r' hr => by cases hr), rfl⟩
  | cons b l ih =>
    intro acc
    by_cases h : b.toNat < 48 ∨ 57 < b.toNat ∨ (most - (b.toNat - 48)) / 10 < acc
    · have e : ∀ m, rDigits most acc (b :: m) = (acc, b :: m) := fun m => by simp only [rDigits]; rw [if_pos h]
      rw [e l]
      refine ⟨[], rfl, fun c r' hr r'' => ?_, rfl⟩
      have := (List.cons.inj hr).1
      subst this
      exact e r''
    · have e : ∀ m, rDigits most acc (b :: m) = rDigits most (acc * 10 + (b.toNat - 48)) m := fun m => by simp only [rDigits]; rw [if_neg h]
      obtain ⟨pre, h1, h2, h3⟩ := ih (acc * 10 + (b.toNat - 48))
      rw [e l]
      refine ⟨b :: pre, by rw [List.cons_append, ← h1], fun c r' hr r'' => ?_, by rw [e]; exact h3⟩
      rw [List.cons_append, e]
      exact h2 c r' hr r''
def dgt (most : Nat) (l : Bs) : Option Nat × Bs := (if (rDigits most 0 l).2.length < l.length then some (rDigits most 0 l).1 else none, (rDigits most 0 l).2)
theorem dgt_loc (most : Nat) : Loc (dgt most) := fun l => by
  obtain ⟨pre, h1, h2, h3⟩ := digits_loc most l 0
  refine ⟨pre, h1, fun b r' hr r'' => ?_, h3⟩
  have hr' : (rDigits most 0 l).2 = b :: r' := hr
  unfold dgt
  rw [h2 b r' hr' r'']
  have hl : ((b :: r'').length < (pre ++ b :: r'').length) ↔ ((rDigits most 0 l).2.length < l.length) := by
    have : l.length = (pre ++ b :: r').length := by rw [← hr', ← h1]
    rw [this, hr']
    simp only [List.length_append, List.length_cons]
    omega
  by_cases h : (rDigits most 0 l).2.length < l.length
  · rw [if_pos h, if_pos (hl.2 h)]
  · rw [if_neg h, if_neg (fun h' => h (hl.1 h'))]
theorem rUns_loc (most : Nat) : Loc (rUns most) := by
  have e : rUns most = orB (isC 48) (fun _ => ret 0) (dgt most) := by
    funext l
    rw [← acc_orB]
    unfold rUns
    rcases rAcc 48 l with _ | r <;> rfl
  rw [e]
  exact Loc.orB (fun _ => Loc.ret _) (dgt_loc most)
theorem rSigned_loc : Loc rSigned := by
  have e : rSigned = orB (isC 45) (fun _ => pkB (isC 48) non (mp (fun (n : Nat) => -(n : Int)) (rUns 9223372036854775808))) (mp Int.ofNat (rUns 9223372036854775807)) := by
    funext l
    rw [← acc_orB]
    unfold rSigned
    rcases rAcc 45 l with _ | r
    · rfl
    · simp only
      rw [← acc_pkB]
      rcases rAcc 48 r with _ | r2 <;> rfl
  rw [e]
  exact Loc.orB (fun _ => Loc.pkB Loc.non (rUns_loc _).mp) (rUns_loc _).mp
theorem rOne_loc (ws : List Bs) : ∀ got, Loc (rOne ws got) := by
  have main : ∀ (l : Bs) (got : Bs), ∃ pre, l = pre ++ (rOne ws got l).2 ∧ (∀ b r', (rOne ws got l).2 = b :: r' → ∀ r'', rOne ws got (pre ++ b :: r'') = ((rOne ws got l).1, b :: r'')) ∧ (rOne ws got pre).2 = [] := by
    intro l
    induction l with
    | nil => intro got; exact ⟨[], rfl, (fun b r' hr => by cases hr), rfl⟩
    | cons b l ih =>
      intro got
      rcases hf : ws.findIdx? (fun x => x == got) with _ | i
      · by_cases h : ws.any (fun x => (got ++ [b]).isPrefixOf x) = true
        · have e : ∀ m, rOne ws got (b :: m) = rOne ws (got ++ [b]) m := fun m => by simp only [rOne, hf]; rw [if_pos h]
          obtain ⟨pre, h1, h2, h3⟩ := ih (got ++ [b])
          rw [e l]
          refine ⟨b :: pre, by rw [List.cons_append, ← h1], fun c r' hr r'' => ?_, by rw [e]; exact h3⟩
          rw [List.cons_append, e]
          exact h2 c r' hr r''
        · have e : ∀ m, rOne ws got (b :: m) = (none, b :: m) := fun m => by simp only [rOne, hf]; rw [if_neg h]
          rw [e l]
          refine ⟨[], rfl, fun c r' hr r'' => ?_, rfl⟩
          have := (List.cons.inj hr).1
          subst this
          exact e r''
      · have e : ∀ m, rOne ws got (b :: m) = (some i, b :: m) := fun m => by simp only [rOne, hf]
        rw [e l]
        refine ⟨[], rfl, fun c r' hr r'' => ?_, rfl⟩
        have := (List.cons.inj hr).1
        subst this
        exact e r''
  exact fun got l => main l got

def isEsc : UInt8 → Bool := fun c => decide (c.toNat = 34 ∨ c.toNat = 92)
def isVis : UInt8 → Bool := fun b => decide (32 ≤ b.toNat ∧ b.toNat ≤ 126)
theorem rQuo_loc : ∀ (k : Nat) (acc : Bs), Loc (rQuo k acc) := by
  intro k
  induction k with
  | zero =>
    intro acc
    have e : rQuo 0 acc = orB (isC 34) (fun _ => ret acc) non := by
      funext l
      cases l with
      | nil => rfl
      | cons b l =>
        simp only [rQuo, orB, isC]
        by_cases h : b.toNat = 34 <;> simp [h, ret, non]
    rw [e]
    exact Loc.orB (fun _ => Loc.ret _) Loc.non
  | succ k ih =>
    intro acc
    have e : rQuo (k + 1) acc = orB (isC 34) (fun _ => ret acc) (orB (isC 92) (fun _ => orB isEsc (fun c => rQuo k (acc ++ [c])) non) (orB isVis (fun b => rQuo k (acc ++ [b])) non)) := by
      funext l
      cases l with
      | nil => rfl
      | cons b l =>
        simp only [rQuo, orB, isC]
        by_cases h : b.toNat = 34
        · simp [h, ret]
        · by_cases h2 : b.toNat = 92
          · cases l with
            | nil => simp [h2, non]
            | cons c l =>
              by_cases h3 : c.toNat = 34 ∨ c.toNat = 92
              · simp [h2, isEsc, h3]
              · simp [h2, isEsc, h3, non]
          · by_cases h3 : 32 ≤ b.toNat ∧ b.toNat ≤ 126
            · simp [h, h2, isVis, h3]
            · simp [h, h2, isVis, h3, non]
    rw [e]
    exact Loc.orB (fun _ => Loc.ret _) (Loc.orB (fun _ => Loc.orB (fun c => ih _) Loc.non) (Loc.orB (fun b => ih _) Loc.non))
theorem rQuoted_loc : Loc rQuoted := by
  have e : rQuoted = orB (isC 34) (fun _ => rQuo 300 []) non := by
    funext l
    rw [← acc_orB]
    unfold rQuoted
    rcases rAcc 34 l with _ | r <;> rfl
  rw [e]
  exact Loc.orB (fun _ => rQuo_loc _ _) Loc.non

def isHex : UInt8 → Bool := fun b => decide ((48 ≤ b.toNat ∧ b.toNat ≤ 57) ∨ (97 ≤ b.toNat ∧ b.toNat ≤ 102))
def hexV (b : UInt8) : Nat := if 48 ≤ b.toNat ∧ b.toNat ≤ 57 then b.toNat - 48 else b.toNat - 87
theorem hexD_cons (b : UInt8) (l : Bs) : hexD (b :: l) = if isHex b = true then some (hexV b, l) else none := by
  simp only [hexD, isHex, hexV]
  by_cases h : 48 ≤ b.toNat ∧ b.toNat ≤ 57
  · simp [h]
  · by_cases h2 : 97 ≤ b.toNat ∧ b.toNat ≤ 102
    · simp [h, h2]
    · simp [h, h2]
theorem rHex_loc : ∀ (k : Nat) (acc : Bs), Loc (rHex k acc) := by
  intro k
  induction k with
  | zero => intro acc; exact Loc.ret acc
  | succ k ih =>
    intro acc
    have e : rHex (k + 1) acc = orB isHex (fun b => orB isHex (fun c => rHex k (acc ++ [UInt8.ofNat (16 * hexV b + hexV c)])) non) (ret acc) := by
      funext l
      cases l with
      | nil => rfl
      | cons b l =>
        simp only [rHex, hexD_cons, orB]
        by_cases h : isHex b = true
        · simp only [h, if_true]
          cases l with
          | nil => rfl
          | cons c l =>
            simp only [hexD_cons]
            by_cases h2 : isHex c = true
            · simp only [h2, if_true]
            · simp [h2, non]
        · simp [h, ret]
    rw [e]
    exact Loc.orB (fun b => Loc.orB (fun c => ih _) Loc.non) (Loc.ret _)
theorem rHexa_loc : Loc rHexa := by
  have e : rHexa = orB (isC 120) (fun _ => rHex 300 []) non := by
    funext l
    rw [← acc_orB]
    unfold rHexa
    rcases rAcc 120 l with _ | r <;> rfl
  rw [e]
  exact Loc.orB (fun _ => rHex_loc _ _) Loc.non

theorem rElems_loc {rd : Bs → Option PV × Bs} (h : Loc rd) : ∀ (k : Nat) (acc : List PV), Loc (rElems rd k acc) := by
  intro k
  induction k with
  | zero => intro acc; exact Loc.non
  | succ k ih =>
    intro acc
    have e : rElems rd (k + 1) acc = bnd rd (fun v => orB (isC 93) (fun _ => ret (acc ++ [v])) (if acc.length + 1 = 300 then non else orB (isC 44) (fun _ => rElems rd k (acc ++ [v])) non)) := by
      funext l
      simp only [rElems, bnd]
      rcases rd l with ⟨_ | v, l1⟩
      · rfl
      · simp only
        rw [← acc_orB]
        rcases rAcc 93 l1 with _ | l2
        · simp only
          by_cases h3 : acc.length + 1 = 300
          · rw [if_pos h3, if_pos h3]; rfl
          · rw [if_neg h3, if_neg h3, ← acc_orB]
            rcases rAcc 44 l1 with _ | l2 <;> rfl
        · rfl
    rw [e]
    refine Loc.bnd h (fun v => Loc.orB (fun _ => Loc.ret _) ?_)
    split
    · exact Loc.non
    · exact Loc.orB (fun _ => ih _) Loc.non
theorem rList_loc {rd : Bs → Option PV × Bs} (h : Loc rd) : Loc (rList rd) := by
  have e : rList rd = orB (isC 91) (fun _ => orB (isC 93) (fun _ => ret []) (rElems rd 300 [])) non := by
    funext l
    rw [← acc_orB]
    unfold rList
    rcases rAcc 91 l with _ | l1
    · rfl
    · simp only
      rw [← acc_orB]
      rcases rAcc 93 l1 with _ | l2 <;> rfl
  rw [e]
  exact Loc.orB (fun _ => Loc.orB (fun _ => Loc.ret _) (rElems_loc h _ _)) Loc.non
theorem rOpt_loc {rd : Bs → Option PV × Bs} (h : Loc rd) : Loc (rOpt rd) := by
  have e : rOpt rd = orB (isC 45) (fun _ => ret []) (orB (isC 43) (fun _ => mp (fun v => [v]) rd) non) := by
    funext l
    rw [← acc_orB]
    unfold rOpt
    rcases rAcc 45 l with _ | l1
    · simp only
      rw [← acc_orB]
      rcases rAcc 43 l with _ | l2 <;> rfl
    · rfl
  rw [e]
  exact Loc.orB (fun _ => Loc.ret _) (Loc.orB (fun _ => h.mp) Loc.non)
theorem rFields_loc {rd : PT → Bs → Option PV × Bs} : ∀ (ts : List PT), (∀ u ∈ ts, Loc (rd u)) → ∀ (ahead : Nat) (acc : List PV), Loc (rFields rd ts ahead acc) := by
  intro ts
  induction ts with
  | nil =>
    intro _ ahead acc
    have e : rFields rd [] ahead acc = orB (isC 125) (fun _ => ret acc) non := by
      funext l
      rw [← acc_orB]
      simp only [rFields]
      rcases rAcc 125 l with _ | l1 <;> rfl
    rw [e]
    exact Loc.orB (fun _ => Loc.ret _) Loc.non
  | cons t ts ih =>
    intro h ahead acc
    have e : rFields rd (t :: ts) ahead acc = orB (isC ahead) (fun _ => bnd (rd t) (fun v => rFields rd ts 44 (acc ++ [v]))) non := by
      funext l
      rw [← acc_orB]
      simp only [rFields]
      rcases rAcc ahead l with _ | l1
      · rfl
      · simp only [bnd]
        rcases rd t l1 with ⟨_ | v, l2⟩ <;> rfl
    rw [e]
    exact Loc.orB (fun _ => Loc.bnd (h t (by simp)) (fun v => ih (fun u hu => h u (by simp [hu])) _ _)) Loc.non
theorem rCase_loc {rd : PT → Bs → Option PV × Bs} (t : PT) (h : ∀ i, Loc (rd (t.sub i))) : Loc (rCase rd t) := by
  have e : rCase rd t = bnd (rOne (t.names.map nameBs) []) (fun i => mp (fun v => (i, v)) (rd (t.sub i))) := by
    funext l
    simp only [rCase, bnd]
    rcases rOne (t.names.map nameBs) [] l with ⟨_ | i, l1⟩ <;> rfl
  rw [e]
  exact Loc.bnd (rOne_loc _ _) (fun i => (h i).mp)

theorem rText_loc : ∀ (k : Nat) (t : PT), Loc (rText k t) := by
  intro k
  induction k with
  | zero => intro t; exact Loc.non
  | succ k ih =>
    intro t
    by_cases h2 : t.kind ≤ 2
    · have e : rText (k + 1) t = mp (fun (n : Nat) => vNum t n) (rUns (mostOf t.kind)) := by funext l; simp only [rText]; rw [if_pos h2]; rfl
      rw [e]; exact (rUns_loc _).mp
    by_cases h3 : t.kind = 3
    · have e : rText (k + 1) t = mp (vNum t) rSigned := by funext l; simp only [rText]; rw [if_neg h2, if_pos h3]; rfl
      rw [e]; exact rSigned_loc.mp
    by_cases h4 : t.kind = 4
    · have e : rText (k + 1) t = mp (fun (n : Nat) => vNum t n) (rOne [wNo, wYes] []) := by funext l; simp only [rText]; rw [if_neg h2, if_neg h3, if_pos h4]; rfl
      rw [e]; exact (rOne_loc _ _).mp
    by_cases h5 : t.kind = 5
    · have e : rText (k + 1) t = mp (vBytes t) rQuoted := by funext l; simp only [rText]; rw [if_neg h2, if_neg h3, if_neg h4, if_pos h5]; rfl
      rw [e]; exact rQuoted_loc.mp
    by_cases h6 : t.kind = 6
    · have e : rText (k + 1) t = mp (vBytes t) rHexa := by funext l; simp only [rText]; rw [if_neg h2, if_neg h3, if_neg h4, if_neg h5, if_pos h6]; rfl
      rw [e]; exact rHexa_loc.mp
    by_cases h7 : t.kind = 7
    · have e : rText (k + 1) t = mp (vParts t 0) (rList (rText k (t.sub 0))) := by funext l; simp only [rText]; rw [if_neg h2, if_neg h3, if_neg h4, if_neg h5, if_neg h6, if_pos h7]; rfl
      rw [e]; exact (rList_loc (ih _)).mp
    by_cases h8 : t.kind = 8
    · have e : rText (k + 1) t = mp (vParts t 0) (rOpt (rText k (t.sub 0))) := by funext l; simp only [rText]; rw [if_neg h2, if_neg h3, if_neg h4, if_neg h5, if_neg h6, if_neg h7, if_pos h8]; rfl
      rw [e]; exact (rOpt_loc (ih _)).mp
    by_cases h9 : t.kind = 9
    · have e : rText (k + 1) t = mp (vParts t 0) (rFields (rText k) t.subs 123 []) := by funext l; simp only [rText]; rw [if_neg h2, if_neg h3, if_neg h4, if_neg h5, if_neg h6, if_neg h7, if_neg h8, if_pos h9]; rfl
      rw [e]; exact (rFields_loc _ (fun u _ => ih u) _ _).mp
    · have e : rText (k + 1) t = mp (fun p => vParts t p.1 [p.2]) (rCase (rText k) t) := by funext l; simp only [rText]; rw [if_neg h2, if_neg h3, if_neg h4, if_neg h5, if_neg h6, if_neg h7, if_neg h8, if_neg h9]; rfl
      rw [e]; exact (rCase_loc t (fun i => ih _)).mp

/-! ### The readers of bytes -/

theorem mTake_loc (c : Nat) : Loc (mTake c) := fun l => by
  by_cases h : l.length < c
  · have e : mTake c l = (none, []) := if_pos h
    refine ⟨l, by rw [e]; simp, fun b r' hr => ?_, by rw [e]⟩
    rw [e] at hr
    cases hr
  · have e : mTake c l = (some (l.take c), l.drop c) := if_neg h
    rw [e]
    have hl : (l.take c).length = c := by rw [List.length_take]; omega
    refine ⟨l.take c, by simp, fun b r' _ r'' => ?_, ?_⟩
    · unfold mTake
      rw [if_neg (by rw [List.length_append, hl]; omega), List.take_left' hl, List.drop_left' hl]
    · unfold mTake
      rw [if_neg (by rw [hl]; omega)]
      exact List.drop_eq_nil_of_le (by rw [hl]; exact Nat.le_refl _)
theorem mBelow_loc (c : Nat) : Loc (mBelow c) := by
  have e : mBelow c = orB (fun b => decide (b.toNat < c)) (fun b => ret b.toNat) non := by
    funext l
    cases l with
    | nil => rfl
    | cons b l =>
      simp only [mBelow, orB]
      by_cases h : b.toNat < c <;> simp [h, ret, non]
  rw [e]
  exact Loc.orB (fun _ => Loc.ret _) Loc.non
theorem mCount_loc : Loc mCount := by
  have e : mCount = orB (fun b => decide (b.toNat ≤ 127)) (fun b => ret b.toNat) (orB (fun _ => true) (fun b => orB (fun c => decide (¬ (c.toNat = 0 ∨ 300 < b.toNat - 128 + 128 * c.toNat))) (fun c => ret (b.toNat - 128 + 128 * c.toNat)) non) non) := by
    funext l
    cases l with
    | nil => rfl
    | cons b l =>
      simp only [mCount, orB]
      by_cases h : b.toNat ≤ 127
      · simp [h, ret]
      · cases l with
        | nil => simp [h, non]
        | cons c l =>
          by_cases h2 : c.toNat = 0 ∨ 300 < b.toNat - 128 + 128 * c.toNat
          · simp only
            rw [if_neg h, if_pos h2, if_neg (by simpa using h), if_pos trivial, if_neg (by simp only [decide_eq_true_eq, Classical.not_not]; exact h2)]
            rfl
          · simp only
            rw [if_neg h, if_neg h2, if_neg (by simpa using h), if_pos trivial, if_pos (by simp only [decide_eq_true_eq]; exact h2)]
            rfl
  rw [e]
  exact Loc.orB (fun _ => Loc.ret _) (Loc.orB (fun _ => Loc.orB (fun _ => Loc.ret _) Loc.non) Loc.non)
theorem mVis_loc : ∀ (k : Nat) (acc : Bs), Loc (mVis k acc) := by
  intro k
  induction k with
  | zero =>
    intro acc
    have e : mVis 0 acc = ret acc := by funext l; cases l <;> rfl
    rw [e]; exact Loc.ret _
  | succ k ih =>
    intro acc
    have e : mVis (k + 1) acc = orB isVis (fun b => mVis k (acc ++ [b])) non := by
      funext l
      cases l with
      | nil => rfl
      | cons b l =>
        simp only [mVis, orB, isVis]
        by_cases h : 32 ≤ b.toNat ∧ b.toNat ≤ 126
        · simp [h]
        · simp [h, non]
    rw [e]
    exact Loc.orB (fun b => ih _) Loc.non
theorem mText_loc : Loc mText := by
  have e : mText = bnd mCount (fun n => mVis n []) := by
    funext l; simp only [mText, bnd]; rcases mCount l with ⟨_ | n, r⟩ <;> rfl
  rw [e]; exact Loc.bnd mCount_loc (fun n => mVis_loc _ _)
theorem mBytes_loc : Loc mBytes := by
  have e : mBytes = bnd mCount (fun n => mTake n) := by
    funext l; simp only [mBytes, bnd]; rcases mCount l with ⟨_ | n, r⟩ <;> rfl
  rw [e]; exact Loc.bnd mCount_loc (fun n => mTake_loc _)
theorem mSeveral_loc {rd : Bs → Option PV × Bs} (h : Loc rd) : ∀ (k : Nat) (acc : List PV), Loc (mSeveral rd k acc) := by
  intro k
  induction k with
  | zero => intro acc; exact Loc.ret _
  | succ k ih =>
    intro acc
    have e : mSeveral rd (k + 1) acc = bnd rd (fun v => mSeveral rd k (acc ++ [v])) := by
      funext l; simp only [mSeveral, bnd]; rcases rd l with ⟨_ | n, r⟩ <;> rfl
    rw [e]; exact Loc.bnd h (fun v => ih _)
theorem mList_loc {rd : Bs → Option PV × Bs} (h : Loc rd) : Loc (mList rd) := by
  have e : mList rd = bnd mCount (fun n => mSeveral rd n []) := by
    funext l; simp only [mList, bnd]; rcases mCount l with ⟨_ | n, r⟩ <;> rfl
  rw [e]; exact Loc.bnd mCount_loc (fun n => mSeveral_loc h _ _)
theorem mOpt_loc {rd : Bs → Option PV × Bs} (h : Loc rd) : Loc (mOpt rd) := by
  have e : mOpt rd = bnd (mBelow 2) (fun n => mSeveral rd n []) := by
    funext l; simp only [mOpt, bnd]; rcases mBelow 2 l with ⟨_ | n, r⟩ <;> rfl
  rw [e]; exact Loc.bnd (mBelow_loc _) (fun n => mSeveral_loc h _ _)
theorem mFields_loc {rd : PT → Bs → Option PV × Bs} : ∀ (ts : List PT), (∀ u ∈ ts, Loc (rd u)) → ∀ (acc : List PV), Loc (mFields rd ts acc) := by
  intro ts
  induction ts with
  | nil => intro _ acc; exact Loc.ret _
  | cons t ts ih =>
    intro h acc
    have e : mFields rd (t :: ts) acc = bnd (rd t) (fun v => mFields rd ts (acc ++ [v])) := by
      funext l; simp only [mFields, bnd]; rcases rd t l with ⟨_ | n, r⟩ <;> rfl
    rw [e]; exact Loc.bnd (h t (by simp)) (fun v => ih (fun u hu => h u (by simp [hu])) _)
theorem mCase_loc {rd : PT → Bs → Option PV × Bs} (t : PT) (h : ∀ i, Loc (rd (t.sub i))) : Loc (mCase rd t) := by
  have e : mCase rd t = bnd (mBelow t.subs.length) (fun i => mp (fun v => (i, v)) (rd (t.sub i))) := by
    funext l; simp only [mCase, bnd]; rcases mBelow t.subs.length l with ⟨_ | i, l1⟩ <;> rfl
  rw [e]; exact Loc.bnd (mBelow_loc _) (fun i => (h i).mp)

theorem rMsg_loc : ∀ (k : Nat) (t : PT), Loc (rMsg k t) := by
  intro k
  induction k with
  | zero => intro t; exact Loc.non
  | succ k ih =>
    intro t
    by_cases h2 : t.kind ≤ 2
    · have e : rMsg (k + 1) t = mp (fun b => vNum t (leNat b)) (mTake (widthOf t.kind)) := by funext l; simp only [rMsg]; rw [if_pos h2]; rfl
      rw [e]; exact (mTake_loc _).mp
    by_cases h3 : t.kind = 3
    · have e : rMsg (k + 1) t = mp (fun b => vNum t (toInt64 (beNat b))) (mTake 8) := by funext l; simp only [rMsg]; rw [if_neg h2, if_pos h3]; rfl
      rw [e]; exact (mTake_loc _).mp
    by_cases h4 : t.kind = 4
    · have e : rMsg (k + 1) t = mp (fun (n : Nat) => vNum t n) (mBelow 2) := by funext l; simp only [rMsg]; rw [if_neg h2, if_neg h3, if_pos h4]; rfl
      rw [e]; exact (mBelow_loc _).mp
    by_cases h5 : t.kind = 5
    · have e : rMsg (k + 1) t = mp (vBytes t) mText := by funext l; simp only [rMsg]; rw [if_neg h2, if_neg h3, if_neg h4, if_pos h5]; rfl
      rw [e]; exact mText_loc.mp
    by_cases h6 : t.kind = 6
    · have e : rMsg (k + 1) t = mp (vBytes t) mBytes := by funext l; simp only [rMsg]; rw [if_neg h2, if_neg h3, if_neg h4, if_neg h5, if_pos h6]; rfl
      rw [e]; exact mBytes_loc.mp
    by_cases h7 : t.kind = 7
    · have e : rMsg (k + 1) t = mp (vParts t 0) (mList (rMsg k (t.sub 0))) := by funext l; simp only [rMsg]; rw [if_neg h2, if_neg h3, if_neg h4, if_neg h5, if_neg h6, if_pos h7]; rfl
      rw [e]; exact (mList_loc (ih _)).mp
    by_cases h8 : t.kind = 8
    · have e : rMsg (k + 1) t = mp (vParts t 0) (mOpt (rMsg k (t.sub 0))) := by funext l; simp only [rMsg]; rw [if_neg h2, if_neg h3, if_neg h4, if_neg h5, if_neg h6, if_neg h7, if_pos h8]; rfl
      rw [e]; exact (mOpt_loc (ih _)).mp
    by_cases h9 : t.kind = 9
    · have e : rMsg (k + 1) t = mp (vParts t 0) (mFields (rMsg k) t.subs []) := by funext l; simp only [rMsg]; rw [if_neg h2, if_neg h3, if_neg h4, if_neg h5, if_neg h6, if_neg h7, if_neg h8, if_pos h9]; rfl
      rw [e]; exact (mFields_loc _ (fun u _ => ih u) _).mp
    · have e : rMsg (k + 1) t = mp (fun p => vParts t p.1 [p.2]) (mCase (rMsg k) t) := by funext l; simp only [rMsg]; rw [if_neg h2, if_neg h3, if_neg h4, if_neg h5, if_neg h6, if_neg h7, if_neg h8, if_neg h9]; rfl
      rw [e]; exact (mCase_loc t (fun i => ih _)).mp

end Go.Proofs.YtnhkalnihjkoeaaGreatDoor
