/- A queue in memory, beside its ring. -/
import Derived.Test.YtnhkalnihjkoeaaQQue
namespace Go.Proofs.Ytnhkalnihjkoeaa
open Go.RowKit

def strC (l : List Bs) : List Value := l.map fun d => .string (ba d)
def natC (l : List Nat) : List Value := l.map fun n => .int .i64 (n : Nat)
theorem infoS : (Try.prog.info? 9).map (fun i => (i.zero, i.size, i.bytes)) = some (some (.string ⟨#[]⟩), 1, 16) := by kernel_rfl
theorem infoI : (Try.prog.info? 3).map (fun i => (i.zero, i.size, i.bytes)) = some (some (.int .i64 0), 1, 8) := by kernel_rfl

/-- A queue in memory. -/
structure QM (w : World) (qb : Nat) (N : Nat) (waits held : List Bs) (nums : List Nat) (wv hv nv : Value) : Prop where
  q : w.heap[qb]? = some (.cells #[wv, hv, nv, .int .i64 N] 32 (0, 0))
  rw_ : PRow w 9 1 wv waits.length (strC waits)
  rh : PRow w 9 1 hv held.length (strC held)
  rn : PRow w 3 1 nv nums.length (natC nums)
  sep : ∀ g, blockOf wv = some g → blockOf hv ≠ some g

section
variable {w w' : World} {qb N : Nat} {waits held : List Bs} {nums : List Nat} {wv hv nv : Value}
theorem QM.at0 (h : QM w qb N waits held nums wv hv nv) : w.cell? ⟨qb, 0, none⟩ = some wv := by rw [cell_of_heap h.q]; rfl
theorem QM.at1 (h : QM w qb N waits held nums wv hv nv) : w.cell? ⟨qb, 1, none⟩ = some hv := by rw [cell_of_heap h.q]; rfl
theorem QM.at2 (h : QM w qb N waits held nums wv hv nv) : w.cell? ⟨qb, 2, none⟩ = some nv := by rw [cell_of_heap h.q]; rfl
theorem QM.at3 (h : QM w qb N waits held nums wv hv nv) : w.cell? ⟨qb, 3, none⟩ = some (.int .i64 N) := by rw [cell_of_heap h.q]; rfl
theorem QM.free (h : QM w qb N waits held nums wv hv nv) (o : Nat) : w.frozen? ⟨qb, o, none⟩ = false := free_of_heap h.q
theorem QM.lt (h : QM w qb N waits held nums wv hv nv) : qb < w.heap.size := lt_of_heap h.q
theorem PRow.type {ty : TypeId} {sz : Nat} {v : Value} {n : Nat} {xs : List Value} (h : PRow w ty sz v n xs) {g : Nat} (hg : blockOf v = some g) : ∃ cur, w.heap[g]? = some (.cells cur ty (0, 0)) := by
  rcases h.2 with ⟨q, _⟩ | ⟨fb, off, cap, cur, q1, q2, _⟩
  · rw [q] at hg; simp [blockOf] at hg
  · rw [q1] at hg; simp [blockOf] at hg; subst hg; exact ⟨cur, q2⟩
/-- A step that writes into no block of a queue's kinds. -/
theorem QM.keep {X : Nat → Prop} (h : QM w qb N waits held nums wv hv nv) (hf : Fr X w w') (hx : ∀ (k : Nat) (cs : Array Value) (t : TypeId) (f : Nat × Nat), w.heap[k]? = some (.cells cs t f) → (t = 32 ∨ t = 9 ∨ t = 3) → ¬ X k) : QM w' qb N waits held nums wv hv nv :=
  ⟨hf.keep h.q (hx _ _ _ _ h.q (.inl rfl)), h.rw_.keep hf (fun g hg => by obtain ⟨c, e⟩ := h.rw_.type hg; exact hx _ _ _ _ e (.inr (.inl rfl))), h.rh.keep hf (fun g hg => by obtain ⟨c, e⟩ := h.rh.type hg; exact hx _ _ _ _ e (.inr (.inl rfl))), h.rn.keep hf (fun g hg => by obtain ⟨c, e⟩ := h.rn.type hg; exact hx _ _ _ _ e (.inr (.inr rfl))), h.sep⟩
theorem QM.quiet (h : QM w qb N waits held nums wv hv nv) (hf : Fr Zero w w') : QM w' qb N waits held nums wv hv nv := h.keep hf (fun _ _ _ _ _ _ h => h)
theorem QM.ring (h : QM w qb N waits held nums wv hv nv) {sb rb yb : Nat} {R : PR} (hs : SM w sb rb yb R) (hf : RFr rb yb w w') : QM w' qb N waits held nums wv hv nv := by
  obtain ⟨fv, hr⟩ := hs.r
  refine h.keep hf.fr (fun k cs t f hk ht => hr.notX hk ?_ ?_ ?_)
  all_goals
    rcases ht with rfl | rfl | rfl <;> decide
end
/-- A step that writes into no block of a ring's kinds. -/
theorem SM.keep {X : Nat → Prop} {w w' : World} {sb rb yb : Nat} {R : PR} (h : SM w sb rb yb R) (hf : Fr X w w') (hx : ∀ (k : Nat) (cs : Array Value) (t : TypeId) (f : Nat × Nat), w.heap[k]? = some (.cells cs t f) → (t = 46 ∨ t = 55 ∨ t = 5 ∨ t = 62) → ¬ X k) : SM w' sb rb yb R ∧ ∀ k, RX w' rb yb k ↔ RX w rb yb k := by
  obtain ⟨fv, hr⟩ := h.r
  have hrb : ¬ X rb := hx _ _ _ _ hr.r (.inr (.inl rfl))
  have hr' : RM w' rb yb R fv := by
    refine ⟨hf.keep hr.r hrb, hf.keep hr.y (hx _ _ _ _ hr.y (.inr (.inr (.inl rfl)))), hr.f.keep hf (fun g hg => ?_), hr.g2, hr.g64, hr.len⟩
    rcases hr.f with ⟨q, _⟩ | ⟨fb, off, cap, cur, q1, q2, _⟩
    · rw [q] at hg; simp [blockOf] at hg
    · rw [q1] at hg; simp [blockOf] at hg; subst hg; exact hx _ _ _ _ q2 (.inr (.inr (.inr rfl)))
  refine ⟨⟨hf.keep h.s (hx _ _ _ _ h.s (.inl rfl)), fv, hr'⟩, fun k => ?_⟩
  unfold RX
  rw [hr'.at1, hr.at1]

/-- All of it: the ring, the queue, where they lie. -/
structure ST (w : World) (B sb rb yb qb : Nat) (R : PR) (N : Nat) (waits : List Bs) (held : List (Nat × Bs)) : Prop where
  sm : SM w sb rb yb R
  fit : Fit R
  qm : ∃ wv hv nv, QM w qb N waits (held.map (·.2)) (held.map (·.1)) wv hv nv ∧ (∀ g, blockOf wv = some g → B ≤ g) ∧ (∀ g, blockOf hv = some g → B ≤ g) ∧ (∀ g, blockOf nv = some g → B ≤ g)
  rel : QR R N waits held
  own : ∀ k, RX w rb yb k → B ≤ k
  qB : B ≤ qb
  size : B ≤ w.heap.size

theorem ST.bounds {w : World} {B sb rb yb qb N : Nat} {R : PR} {waits : List Bs} {held : List (Nat × Bs)} (h : ST w B sb rb yb qb R N waits held) : R.fs.length ≤ 64 ∧ 1 ≤ R.first ∧ R.first ≤ N + 1 ∧ waits.length ≤ 64 ∧ held.length ≤ 64 ∧ taken R.fs ≤ 64 := by
  have ht := h.fit.tidy
  have h1 := h.fit.first
  have h2 := h.rel.num
  have h3 := ht.len
  have h4 := h.fit.g64
  have h5 := ht.taken
  refine ⟨ht.len, h1, by omega, ?_, ?_, by omega⟩
  · rw [h.rel.waits, ← count_waits]
    exact Nat.le_trans (countOf_le _ _) h3
  · rw [h.rel.held, ← count_held]
    exact Nat.le_trans (countOf_le _ _) h3
theorem ST.quiet {w w' : World} {B sb rb yb qb N : Nat} {R : PR} {waits : List Bs} {held : List (Nat × Bs)} (h : ST w B sb rb yb qb R N waits held) (hf : Fr Zero w w') : ST w' B sb rb yb qb R N waits held := by
  obtain ⟨wv, hv, nv, q1, q2⟩ := h.qm
  have := h.sm.keep hf (fun _ _ _ _ _ _ h => h)
  exact ⟨this.1, h.fit, ⟨wv, hv, nv, q1.quiet hf, q2⟩, h.rel, fun k hk => h.own k ((this.2 k).1 hk), h.qB, Nat.le_trans h.size hf.size⟩
/-- A call of the ring. -/
theorem ST.ring {w w' : World} {B sb rb yb qb N : Nat} {R : PR} {waits : List Bs} {held : List (Nat × Bs)} (h : ST w B sb rb yb qb R N waits held) (hf : RFr rb yb w w') : Fr (From B) w w' ∧ (∀ k, RX w' rb yb k → B ≤ k) := by
  refine ⟨hf.fr.mono (fun k _ e => h.own k e), fun k hk => ?_⟩
  rcases Nat.lt_or_ge k w.heap.size with q | q
  · exact h.own k (hf.own k q hk)
  · exact Nat.le_trans h.size q

theorem QM.setw {w w' : World} {qb N : Nat} {waits waits' held : List Bs} {nums : List Nat} {wv hv nv v' : Value} (h : QM w qb N waits held nums wv hv nv) (hp : PRow w' 9 1 v' waits'.length (strC waits')) (hf : Fr (Owns wv) w w') (hv' : ∀ k, k < w.heap.size → blockOf v' = some k → blockOf wv = some k) :
    QM (w'.setCell ⟨qb, 0, none⟩ v') qb N waits' held nums v' hv nv := by
  have hq' : w'.heap[qb]? = _ := hf.keep h.q (fun e => h.rw_.ne h.q (by decide) e)
  have hS : Fr (One qb) w' (w'.setCell ⟨qb, 0, none⟩ v') := Fr.setCell _ _ _ _ rfl
  have hne : ∀ {ty : TypeId} {sz n : Nat} {v : Value} {xs : List Value}, PRow w' ty sz v n xs → ty ≠ 32 → ∀ g, blockOf v = some g → ¬ One qb g := fun hr ht g hg e => by
    have e' : g = qb := e
    rw [e'] at hg
    exact hr.ne hq' ht hg
  have hh : PRow w' 9 1 hv held.length (strC held) := h.rh.keep hf (fun g hg e => h.sep g e hg)
  have hn : PRow w' 3 1 nv nums.length (natC nums) := h.rn.keep hf (fun g hg e => by
    obtain ⟨c1, e1⟩ := h.rn.type hg
    exact h.rw_.ne e1 (by decide) e)
  refine ⟨by rw [heap_setCell_same hq']; rfl, hp.keep hS (hne hp (by decide)), hh.keep hS (hne hh (by decide)), hn.keep hS (hne hn (by decide)), fun g hg e => ?_⟩
  obtain ⟨c1, e1⟩ := h.rh.type e
  exact h.sep g (hv' g (lt_of_heap e1) hg) e
theorem QM.setN {w : World} {qb N : Nat} {waits held : List Bs} {nums : List Nat} {wv hv nv : Value} (h : QM w qb N waits held nums wv hv nv) (M : Nat) : QM (w.setCell ⟨qb, 3, none⟩ (.int .i64 M)) qb M waits held nums wv hv nv := by
  have hS : Fr (One qb) w (w.setCell ⟨qb, 3, none⟩ (.int .i64 M)) := Fr.setCell _ _ _ _ rfl
  have hne : ∀ {ty : TypeId} {sz n : Nat} {v : Value} {xs : List Value}, PRow w ty sz v n xs → ty ≠ 32 → ∀ g, blockOf v = some g → ¬ One qb g := fun hr ht g hg e => by
    have e' : g = qb := e
    rw [e'] at hg
    exact hr.ne h.q ht hg
  exact ⟨by rw [heap_setCell_same h.q]; rfl, h.rw_.keep hS (hne h.rw_ (by decide)), h.rh.keep hS (hne h.rh (by decide)), h.rn.keep hS (hne h.rn (by decide)), h.sep⟩

end Go.Proofs.Ytnhkalnihjkoeaa
