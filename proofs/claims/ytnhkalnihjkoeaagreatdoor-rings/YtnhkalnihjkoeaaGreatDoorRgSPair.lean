/- A ring of the program beside the document's: a step on both. -/
import Derived.Test.YtnhkalnihjkoeaaGreatDoorRgQFace
import Derived.Test.YtnhkalnihjkoeaaGreatDoorRgSRoom
namespace Go.Proofs.YtnhkalnihjkoeaaGreatDoor.Q
open Go.RowKit

structure RP where
  sb : Nat
  rb : Nat
  yb : Nat
  qb : Nat
  R : PR
  Q : RR
structure PM (w : World) (p : RP) : Prop where
  sm : SM w p.sb p.rb p.yb p.R
  rq : ∃ fv, RQ w p.qb p.Q fv
  same : Same p.R p.Q
  fit : Fit p.R
def PX (w : World) (p : RP) : Nat → Prop := fun k => RX w p.rb p.yb k ∨ QX w p.qb k
structure PFr (p p' : RP) (w w' : World) : Prop where
  fr : Fr (PX w p) w w'
  own : ∀ k, k < w.heap.size → PX w' p' k → PX w p k
  sb : p'.sb = p.sb
  qb : p'.qb = p.qb
  len : p'.Q.fs.length ≤ p.Q.fs.length + 1

/-- A step that writes into no block of a ring's kinds. -/
theorem SM.keep {X : Nat → Prop} {w w' : World} {sb rb yb : Nat} {R : PR} (h : SM w sb rb yb R) (hf : Fr X w w') (hx : ∀ (k : Nat) (cs : Array Value) (t : TypeId) (f : Nat × Nat), w.heap[k]? = some (.cells cs t f) → (t = 287 ∨ RX w rb yb k) → ¬ X k) : SM w' sb rb yb R ∧ ∀ k, RX w' rb yb k ↔ RX w rb yb k := by
  obtain ⟨fv, hr⟩ := h.r
  have hr' : RM w' rb yb R fv := by
    refine ⟨hf.keep hr.r (hx _ _ _ _ hr.r (.inr (.inl rfl))), hf.keep hr.y (hx _ _ _ _ hr.y (.inr (.inr (.inl rfl)))), hr.f.keep hf (fun g hg => ?_), hr.g2, hr.g64, hr.len⟩
    have hg' := hg
    rcases hr.f with ⟨q, _⟩ | ⟨fb, off, cap, cur, q1, q2, _⟩
    · rw [q] at hg; simp [blockOf] at hg
    · rw [q1] at hg; simp [blockOf] at hg; subst hg; exact hx _ _ _ _ q2 (.inr (.inr (.inr ⟨fv, hr.at1, hg'⟩)))
  refine ⟨⟨hf.keep h.s (hx _ _ _ _ h.s (.inl rfl)), fv, hr'⟩, fun k => ?_⟩
  unfold RX
  rw [hr'.at1, hr.at1]

theorem qx_type {w : World} {qb : Nat} {Q : RR} {fv : Value} (h : RQ w qb Q fv) {k : Nat} (hk : QX w qb k) : ∃ cs t, w.heap[k]? = some (.cells cs t (0, 0)) ∧ (t = 102 ∨ t = 172) := by
  rcases QX.of h hk with e | e
  · rw [e]; exact ⟨_, _, h.q, .inl rfl⟩
  · obtain ⟨c, e1⟩ := h.f.typed e
    exact ⟨_, _, e1, .inr rfl⟩
theorem qx_not_rx {w : World} {qb rb yb sb : Nat} {Q : RR} {R : PR} {fv : Value} (h : RQ w qb Q fv) (hs : SM w sb rb yb R) {k : Nat} (hk : QX w qb k) : ¬ RX w rb yb k := by
  obtain ⟨fv', hr⟩ := hs.r
  obtain ⟨cs, t, e1, e2⟩ := qx_type h hk
  refine hr.notX e1 ?_ ?_ ?_
  all_goals
    rcases e2 with rfl | rfl <;> decide

section
variable {w w1 w2 : World} {p : RP}
/-- Behind the program's call the document's ring is as it was. -/
theorem PM.prog (h : PM w p) (hf : RFr p.rb p.yb w w1) : ∃ fv, RQ w1 p.qb p.Q fv ∧ ∀ k, QX w1 p.qb k ↔ QX w p.qb k := by
  obtain ⟨fv, hq⟩ := h.rq
  exact ⟨fv, hq.keep hf.fr (fun k hk => qx_not_rx hq h.sm hk)⟩
theorem PM.ref {R' : PR} {Q' : RR} {fv fv' : Value} (h : PM w p) (hf : RFr p.rb p.yb w w1) (hM : SM w1 p.sb p.rb p.yb R') (hq : RQ w1 p.qb p.Q fv) (hX : ∀ k, QX w1 p.qb k ↔ QX w p.qb k) (hf2 : QFr p.qb w1 w2) (hq2 : RQ w2 p.qb Q' fv') (hS : Same R' Q') (hF : Fit R') (hl : R'.first + R'.fs.length ≤ p.R.first + p.R.fs.length + 1) :
    PM w2 { p with R := R', Q := Q' } ∧ PFr p { p with R := R', Q := Q' } w w2 := by
  have hk := hM.keep hf2.fr (fun k cs t f e1 e2 hx => by
    rcases e2 with e2 | e2
    · exact hq.notX e1 (by rw [e2]; decide) (by rw [e2]; decide) hx
    · exact qx_not_rx hq hM hx e2)
  refine ⟨⟨hk.1, ⟨fv', hq2⟩, hS, hF⟩, ⟨(hf.fr.mono (fun k _ e => .inl e)).trans (hf2.fr.mono (fun k _ e => .inr ((hX k).1 e))), fun k hk' hx => ?_, rfl, rfl, ?_⟩⟩
  · rcases hx with e | e
    · exact .inl (hf.own k hk' ((hk.2 k).1 e))
    · exact .inr ((hX k).1 (hf2.own k (Nat.lt_of_lt_of_le hk' hf.fr.size) e))
  · have a1 := h.same.len
    have a2 := hS.len
    show Q'.fs.length ≤ p.Q.fs.length + 1
    omega
theorem PM.quiet (h : PM w p) (hf : Fr Zero w w1) : PM w1 p ∧ PFr p p w w1 := by
  obtain ⟨fv, hq⟩ := h.rq
  have a := h.sm.keep hf (fun _ _ _ _ _ _ h => h)
  have b := hq.keep hf (fun _ _ h => h)
  exact ⟨⟨a.1, ⟨fv, b.1⟩, h.same, h.fit⟩, ⟨hf.of0, fun k _ hx => by
    rcases hx with e | e
    · exact .inl ((a.2 k).1 e)
    · exact .inr ((b.2 k).1 e), rfl, rfl, Nat.le_succ _⟩⟩
theorem PFr.trans0 {p' : RP} (h : PFr p p w w1) (hl : Fr Zero w w1) (k : PFr p p' w1 w2) : PFr p p' w w2 :=
  ⟨⟨k.fr.os.trans hl.os, k.fr.tape.trans hl.tape, k.fr.output.trans hl.output, Nat.le_trans hl.size k.fr.size, fun i hi hx => (k.fr.block i (Nat.lt_of_lt_of_le hi hl.size) (fun e => hx (h.own i hi e))).trans (hl.block i hi (fun e => e))⟩, fun i hi hx => h.own i hi (k.own i (Nat.lt_of_lt_of_le hi hl.size) hx), k.sb, k.qb, k.len⟩
/-- A block of another kind. -/
theorem PM.notX (h : PM w p) {k : Nat} {cs : Array Value} {t : TypeId} {f : Nat × Nat} (hk : w.heap[k]? = some (.cells cs t f)) (h1 : t ≠ 354) (h2 : t ≠ 5) (h3 : t ≠ 358) (h4 : t ≠ 102) (h5 : t ≠ 172) : ¬ PX w p k := fun e => by
  obtain ⟨fv, hr⟩ := h.sm.r
  obtain ⟨fq, hq⟩ := h.rq
  rcases e with e | e
  · exact hr.notX hk h1 h2 h3 e
  · exact hq.notX hk h4 h5 e
theorem PM.bounds (h : PM w p) (hl : p.Q.fs.length ≤ 2800000000000) : p.R.fs.length ≤ 64 ∧ 1 ≤ p.R.first ∧ p.R.first ≤ 2900000000000 ∧ taken p.R.fs ≤ 64 := by
  have h1 := h.same.len
  have h2 := h.fit.tidy
  have h3 := h2.len
  have h4 := h.fit.first
  have h5 := h2.taken
  have h6 := h.fit.g64
  exact ⟨h3, h4, by omega, by omega⟩
end

theorem putP_num (R : PR) (d : Bs) : (putP R d).2.first + (putP R d).2.fs.length ≤ R.first + R.fs.length + 1 := by
  unfold putP
  split
  · simp
  · split
    · simp
    · split
      · simp
      · simp; omega
theorem takeP_num (R : PR) : (takeP R).2.2.first + (takeP R).2.2.fs.length ≤ R.first + R.fs.length + 1 := by
  unfold takeP
  split
  · simp [setSt_len]
  · simp
theorem relP_num (R : PR) (n : Int) : (relP R n).2.first + (relP R n).2.fs.length ≤ R.first + R.fs.length + 1 := by
  unfold relP
  split
  · simp
  · rename_i i _
    obtain ⟨k, s1, s2, s3, _⟩ := pop_suffix (setSt R.fs i 2) R.first
    simp only
    rw [s1, s2, List.length_drop]
    rw [setSt_len] at s3 ⊢
    omega
theorem shutP_num (R : PR) : (shutP R).2.first + (shutP R).2.fs.length ≤ R.first + R.fs.length + 1 := by
  unfold shutP
  split <;> simp

set_option maxHeartbeats 4000000 in
theorem numq_any (e : Int) (w : World) : Calls Tryz.prog 30 #[.int .i64 e] w fun ev w' => ev = .returned (.int .i64 e) ∧ w' = w := by
  go_enter Tryz.func30, Tryz.ntmps30
  go_wp2_with fail
  go_ret
  exact ⟨rfl, rfl⟩

set_option maxHeartbeats 8000000 in
set_option maxRecDepth 100000 in
theorem sameRoom_any (t n m : Nat) (b : Bool) (w : World) : Calls Tryz.prog 91 #[.agg #[.int .i64 t, .int .i64 n, .int .i64 m, .bool b], .agg #[.int .i64 t, .int .i64 n, .int .i64 m, .bool b]] w fun e w' => e = .returned (.bool true) ∧ Fr Zero w w' := by
  go_enter Tryz.func91, Tryz.ntmps91
  go_wp2_with fail
  go_ret
  exact ⟨rfl, (Fr.alloc _ _ _).trans (Fr.alloc _ _ _)⟩

end Go.Proofs.YtnhkalnihjkoeaaGreatDoor.Q
