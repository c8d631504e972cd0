/- The document's ring: all frames that were ever put in; and how it stands to the program's. -/
import Derived.Test.YtnhkalnihjkoeaaGreatDoorRgQList
import Derived.Test.YtnhkalnihjkoeaaGreatDoorRgQPure
namespace Go.Proofs.YtnhkalnihjkoeaaGreatDoor.Q
open Go.RowKit

structure RF where
  bytes : Bs
  takes : Nat
  how : Nat
structure RR where
  g : Nat
  fs : List RF
  next : Nat
  shut : Bool

def rcells (f : RF) : List Value := [.string (ba f.bytes), .int .i64 f.takes, .int .i64 f.how]
def rsCells (l : List RF) : List Value := l.flatMap rcells
theorem rsCells_snoc (l : List RF) (f : RF) : rsCells (l ++ [f]) = rsCells l ++ rcells f := by simp [rsCells]
theorem rsCells_length (l : List RF) : (rsCells l).length = l.length * 3 := by
  induction l with
  | nil => rfl
  | cons f l ih => simp only [rsCells, List.flatMap_cons, List.length_append, List.length_cons] at *; rw [ih]; simp [rcells]; omega
theorem rsCells_at {l : List RF} {i : Nat} {f : RF} (h : l[i]? = some f) : (rsCells l)[i * 3]? = some (.string (ba f.bytes)) ∧ (rsCells l)[i * 3 + 1]? = some (.int .i64 f.takes) ∧ (rsCells l)[i * 3 + 2]? = some (.int .i64 f.how) := by
  induction l generalizing i with
  | nil => simp at h
  | cons x l ih =>
    rcases i with _ | i
    · simp at h
      subst h
      exact ⟨rfl, rfl, rfl⟩
    · have h' := ih (i := i) (by simpa using h)
      have e : ∀ k, (rsCells (x :: l))[(i + 1) * 3 + k]? = (rsCells l)[i * 3 + k]? := fun k => by
        simp only [rsCells, List.flatMap_cons]
        rw [List.getElem?_append_right (by simp [rcells]; omega)]
        congr 1
        simp [rcells]
        omega
      exact ⟨(e 0).trans h'.1, (e 1).trans h'.2.1, (e 2).trans h'.2.2⟩

/-- The document's ring in memory. -/
structure RQ (w : World) (qb : Nat) (Q : RR) (fv : Value) : Prop where
  q : w.heap[qb]? = some (.cells #[.int .i64 Q.g, fv, .int .i64 Q.next, .bool Q.shut] 102 (0, 0))
  f : PRow w 172 3 fv Q.fs.length (rsCells Q.fs)
def QX (w : World) (qb : Nat) : Nat → Prop := fun k => k = qb ∨ ∃ v, w.cell? ⟨qb, 1, none⟩ = some v ∧ blockOf v = some k
structure QFr (qb : Nat) (w w' : World) : Prop where
  fr : Fr (QX w qb) w w'
  own : ∀ k, k < w.heap.size → QX w' qb k → QX w qb k
theorem QFr.refl (qb : Nat) (w : World) : QFr qb w w := ⟨Fr.refl _ _, fun _ _ h => h⟩

section
variable {w w' : World} {qb : Nat} {Q : RR} {fv : Value}
theorem RQ.at0 (h : RQ w qb Q fv) : w.cell? ⟨qb, 0, none⟩ = some (.int .i64 Q.g) := by rw [cell_of_heap h.q]; rfl
theorem RQ.at1 (h : RQ w qb Q fv) : w.cell? ⟨qb, 1, none⟩ = some fv := by rw [cell_of_heap h.q]; rfl
theorem RQ.at2 (h : RQ w qb Q fv) : w.cell? ⟨qb, 2, none⟩ = some (.int .i64 Q.next) := by rw [cell_of_heap h.q]; rfl
theorem RQ.at3 (h : RQ w qb Q fv) : w.cell? ⟨qb, 3, none⟩ = some (.bool Q.shut) := by rw [cell_of_heap h.q]; rfl
theorem RQ.free (h : RQ w qb Q fv) (o : Nat) : w.frozen? ⟨qb, o, none⟩ = false := free_of_heap h.q
theorem RQ.lt (h : RQ w qb Q fv) : qb < w.heap.size := lt_of_heap h.q
theorem QX.of (h : RQ w qb Q fv) {k : Nat} (hk : QX w qb k) : k = qb ∨ blockOf fv = some k := by
  rcases hk with e | ⟨v, e1, e2⟩
  · exact .inl e
  · rw [h.at1] at e1
    simp at e1
    subst e1
    exact .inr e2
theorem QX.mk (h : RQ w qb Q fv) {k : Nat} (hk : k = qb ∨ blockOf fv = some k) : QX w qb k := by
  rcases hk with e | e
  · exact .inl e
  · exact .inr ⟨fv, h.at1, e⟩
theorem PRow.typed {ty : TypeId} {sz n : Nat} {v : Value} {xs : List Value} (h : PRow w ty sz v n xs) {g : Nat} (hg : blockOf v = some g) : ∃ cur, w.heap[g]? = some (.cells cur ty (0, 0)) := by
  rcases h.2 with ⟨q, _⟩ | ⟨fb, off, cap, cur, q1, q2, _⟩
  · rw [q] at hg; simp [blockOf] at hg
  · rw [q1] at hg; simp [blockOf] at hg; subst hg; exact ⟨cur, q2⟩
theorem RQ.quiet (h : RQ w qb Q fv) (hf : Fr Zero w w') : RQ w' qb Q fv := ⟨hf.keep h.q (fun h => h), h.f.keep hf (fun _ _ h => h)⟩
/-- A block of another kind is none of a ring's. -/
theorem RQ.notX (h : RQ w qb Q fv) {k : Nat} {cs : Array Value} {t : TypeId} {f : Nat × Nat} (hk : w.heap[k]? = some (.cells cs t f)) (h1 : t ≠ 102) (h2 : t ≠ 172) : ¬ QX w qb k := fun e => by
  rcases QX.of h e with e | e
  · rw [e, h.q] at hk; simp at hk; exact h1 hk.2.1.symm
  · obtain ⟨c, e1⟩ := h.f.typed e
    rw [e1] at hk
    simp at hk
    exact h2 hk.2.1.symm
/-- A step that writes into none of its blocks. -/
theorem RQ.keep {X : Nat → Prop} (h : RQ w qb Q fv) (hf : Fr X w w') (hx : ∀ k, QX w qb k → ¬ X k) : RQ w' qb Q fv ∧ ∀ k, QX w' qb k ↔ QX w qb k := by
  have h' : RQ w' qb Q fv := ⟨hf.keep h.q (hx _ (.inl rfl)), h.f.keep hf (fun g hg => hx g (QX.mk h (.inr hg)))⟩
  refine ⟨h', fun k => ?_⟩
  unfold QX
  rw [h'.at1, h.at1]
theorem QFr.quiet (h : RQ w qb Q fv) (hf : Fr Zero w w') : QFr qb w w' := ⟨hf.of0, fun k _ hk => ((h.keep hf (fun _ _ h => h)).2 k).1 hk⟩
theorem QFr.trans {w1 w2 : World} (h : QFr qb w w1) (k : QFr qb w1 w2) : QFr qb w w2 :=
  ⟨⟨k.fr.os.trans h.fr.os, k.fr.tape.trans h.fr.tape, k.fr.output.trans h.fr.output, Nat.le_trans h.fr.size k.fr.size, fun i hi hx => (k.fr.block i (Nat.lt_of_lt_of_le hi h.fr.size) (fun e => hx (h.own i hi e))).trans (h.fr.block i hi hx)⟩, fun i hi hx => h.own i hi (k.own i (Nat.lt_of_lt_of_le hi h.fr.size) hx)⟩
end

/-- The granules from the oldest frame that was not released on. -/
def takenR : List RF → Nat
  | [] => 0
  | f :: l => if f.how < 2 then ((f :: l).map RF.takes).sum else takenR l
def oldR (l : List RF) : Bool := l.any (fun f => decide (f.how < 2))
theorem takenR_snoc (l : List RF) (f : RF) : takenR (l ++ [f]) = takenR l + (if (oldR l || decide (f.how < 2)) = true then f.takes else 0) := by
  induction l with
  | nil => simp [takenR, oldR]
  | cons x l ih =>
    simp only [List.cons_append, takenR]
    by_cases hx : x.how < 2
    · simp [hx, oldR]; omega
    · rw [if_neg hx, if_neg hx, ih]; simp [oldR, hx]
theorem takenR_le (l : List RF) (k : Nat) : takenR (l.take k) ≤ takenR l := by
  induction l generalizing k with
  | nil => simp [takenR]
  | cons x l ih =>
    rcases k with _ | k
    · simp [takenR]
    · simp only [List.take_succ_cons, takenR]
      split
      · have e : l = l.take k ++ l.drop k := (List.take_append_drop k l).symm
        have : (l.map RF.takes).sum = ((l.take k).map RF.takes).sum + ((l.drop k).map RF.takes).sum := by rw [← List.sum_append, ← List.map_append, ← e]
        simp only [List.map_cons, List.sum_cons]
        omega
      · exact ih k
def rf (f : PF) : RF := ⟨f.data, f.takes, f.st⟩

/-- The document's ring and the program's are one. -/
structure Same (R : PR) (Q : RR) : Prop where
  g : Q.g = R.g
  next : Q.next = R.next
  shut : Q.shut = R.shut
  fs : ∃ old, Q.fs = old ++ R.fs.map rf ∧ old.length + 1 = R.first ∧ ∀ f ∈ old, f.how = 2
  short : ∀ f ∈ Q.fs, f.bytes.length ≤ 1000
theorem takenR_old {old l : List RF} (h : ∀ f ∈ old, f.how = 2) : takenR (old ++ l) = takenR l := by
  induction old with
  | nil => rfl
  | cons x old ih =>
    simp only [List.cons_append, takenR]
    rw [if_neg (by have := h x (by simp); omega), ih (fun f hf => h f (by simp [hf]))]
theorem Same.taken {R : PR} {Q : RR} (h : Same R Q) (hF : Fit R) : takenR Q.fs = taken R.fs := by
  obtain ⟨old, h1, _, h3⟩ := h.fs
  rw [h1, takenR_old h3]
  rcases hq : R.fs with _ | ⟨f, l⟩
  · rfl
  · have h1 := hF.head f l hq
    have h2 := hF.sts f (by rw [hq]; simp)
    simp only [List.map_cons, takenR]
    rw [if_pos (by show f.st < 2; omega)]
    simp [Go.Proofs.YtnhkalnihjkoeaaGreatDoor.Q.taken, rf, Function.comp_def]
theorem Same.len {R : PR} {Q : RR} (h : Same R Q) : Q.fs.length + 1 = R.first + R.fs.length := by
  obtain ⟨old, h1, h2, _⟩ := h.fs
  rw [h1]
  simp
  omega
theorem Same.new (g : Nat) : Same (newR g) ⟨g, [], 0, false⟩ := ⟨rfl, rfl, rfl, ⟨[], rfl, rfl, by simp⟩, by simp⟩
theorem Same.put {R : PR} {Q : RR} (h : Same R Q) (d : Bs) (h0 : (putP R d).1 = 0) (hn : R.next < R.g) (hg64 : R.g ≤ 64) :
    Same (putP R d).2 { Q with fs := Q.fs ++ [⟨d, (if R.g < R.next + needs d.length then R.g - R.next else 0) + needs d.length, 0⟩], next := (R.next + (if R.g < R.next + needs d.length then R.g - R.next else 0) + needs d.length) % R.g } := by
  have hgap : gapOf R.g R.next (needs d.length) = if R.g < R.next + needs d.length then R.g - R.next else 0 := by
    unfold gapOf
    by_cases hc : R.g < R.next + needs d.length
    · rw [if_pos hc, if_pos (by omega)]
    · rw [if_neg hc, if_neg (by omega)]
  unfold putP at h0 ⊢
  by_cases hs : R.shut = true
  · rw [if_pos hs] at h0; simp at h0
  rw [if_neg hs] at h0 ⊢
  by_cases h2 : R.g < 2 * needs d.length
  · rw [if_pos h2] at h0; simp at h0
  rw [if_neg h2] at h0 ⊢
  by_cases h3 : R.g < Go.Proofs.YtnhkalnihjkoeaaGreatDoor.Q.taken R.fs + gapOf R.g R.next (needs d.length) + needs d.length
  · rw [if_pos h3] at h0; simp at h0
  rw [if_neg h3]
  obtain ⟨old, e1, e2, e3⟩ := h.fs
  refine ⟨h.g, ?_, h.shut, ⟨old, ?_, e2, e3⟩, fun f hf => ?_⟩
  · simp only
    rw [← hgap]
    unfold putAt
    rw [Nat.mod_add_mod]
  · simp only
    rw [e1, ← hgap]
    simp [rf]
  · rcases List.mem_append.1 hf with hf | hf
    · exact h.short f hf
    · simp at hf
      subst hf
      unfold needs at h2
      show d.length ≤ 1000
      omega

end Go.Proofs.YtnhkalnihjkoeaaGreatDoor.Q
