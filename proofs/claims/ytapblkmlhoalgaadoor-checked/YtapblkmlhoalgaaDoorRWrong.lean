/- The other reader's wrong. -/
import Derived.Test.YtapblkmlhoalgaaDoorRNamed
namespace Go.Proofs.YtapblkmlhoalgaaDoor
open Go.RowKit

def rowAt (tab : List RT) (x : Nat) : RT := (tab[x]?).getD ⟨0, [], [], []⟩
def textAt (l : List ByteArray) (k : Nat) : ByteArray := (l[k]?).getD ⟨#[]⟩
def numAt (l : List Nat) (k : Nat) : Nat := (l[k]?).getD 0

/-- Is the k-th name one of those ahead of it, from the j-th on? -/
def dupFrom (l : List ByteArray) (k : Nat) : Nat → Nat → Bool
  | 0, _ => false
  | m + 1, j => decide (textAt l j = textAt l k) || dupFrom l k m (j + 1)
def dup (l : List ByteArray) (k : Nat) : Bool := !l.isEmpty && dupFrom l k k 0

def rLoopW (rd : List RT → Nat → Option Nat × List RT) (t : RT) : Nat → Nat → List RT → Option Nat × List RT
  | 0, _, tab => (none, tab)
  | m + 1, k, tab =>
    if dup t.names k = true then (some (numAt t.ats k), tab) else
    match (rd tab (numAt t.of k)).1 with
    | some a => (some a, (rd tab (numAt t.of k)).2)
    | none => rLoopW rd t m (k + 1) (rd tab (numAt t.of k)).2

def rWrong (lines : List ByteArray) (roots : List Nat) (i : Nat) : Nat → List RT → Nat → Option Nat × List RT
  | 0 => fun tab _ => (none, tab)
  | f + 1 => fun tab x =>
    if (rowAt tab x).kind = 11 then
      match rNamed lines roots (textAt (rowAt tab x).names 0) i with
      | none => (some (numAt (rowAt tab x).ats 0), tab)
      | some to => (none, tab.set x ⟨11, [to], (rowAt tab x).names, (rowAt tab x).ats⟩)
    else rLoopW (rWrong lines roots i f) (rowAt tab x) (rowAt tab x).of.length 0 tab

/-- What a table must be, so that no look into it fails. -/
def W1 (tab : List RT) : Prop := ∀ (x : Nat) (t : RT), tab[x]? = some t → (t.kind ≠ 11 → (∀ y ∈ t.of, y < x) ∧ (t.names = [] ∨ (t.names.length = t.of.length ∧ t.ats.length = t.of.length))) ∧ (t.kind = 11 → t.names.length = 1 ∧ t.ats.length = 1)

theorem W1.set {tab : List RT} (h : W1 tab) {x to : Nat} {t : RT} (hx : tab[x]? = some t) (hk : t.kind = 11) : W1 (tab.set x ⟨11, [to], t.names, t.ats⟩) := by
  intro y u hu
  by_cases e : y = x
  · subst e
    have hlt : y < tab.length := (List.getElem?_eq_some_iff.1 hx).1
    rw [List.getElem?_set_self hlt] at hu
    cases hu
    exact ⟨fun h => absurd rfl h, fun _ => (h y t hx).2 hk⟩
  · rw [List.getElem?_set_ne (fun e' => e e'.symm)] at hu
    exact h y u hu

/-- The table keeps its length and form. -/
theorem rWrong_keeps (lines : List ByteArray) (roots : List Nat) (i : Nat) : ∀ (f : Nat) (tab : List RT) (x : Nat), W1 tab → x < tab.length → W1 (rWrong lines roots i f tab x).2 ∧ (rWrong lines roots i f tab x).2.length = tab.length := by
  intro f
  induction f with
  | zero => intro tab x h _; exact ⟨h, rfl⟩
  | succ f ih =>
    intro tab x h hx
    have hg : tab[x]? = some (rowAt tab x) := by unfold rowAt; simp [hx]
    simp only [rWrong]
    split
    · rename_i hk
      split
      · exact ⟨h, rfl⟩
      · exact ⟨h.set hg hk, by simp⟩
    · rename_i hk
      have hof := ((h x _ hg).1 hk).1
      have key : ∀ (m k : Nat) (tb : List RT), W1 tb → tb.length = tab.length → k + m = (rowAt tab x).of.length → W1 (rLoopW (rWrong lines roots i f) (rowAt tab x) m k tb).2 ∧ (rLoopW (rWrong lines roots i f) (rowAt tab x) m k tb).2.length = tab.length := by
        intro m
        induction m with
        | zero => intro k tb h1 h2 _; exact ⟨h1, h2⟩
        | succ m ihm =>
          intro k tb h1 h2 hm
          have hkl : k < (rowAt tab x).of.length := by omega
          have hy : numAt (rowAt tab x).of k < tb.length := by
            have : numAt (rowAt tab x).of k ∈ (rowAt tab x).of := by unfold numAt; simp [hkl]
            have := hof _ this
            omega
          have h3 := ih tb (numAt (rowAt tab x).of k) h1 hy
          simp only [rLoopW]
          split
          · exact ⟨h1, h2⟩
          · split
            · exact ⟨h3.1, h3.2.trans h2⟩
            · exact ihm (k + 1) _ h3.1 (h3.2.trans h2) (by omega)
      exact key _ 0 tab h rfl (by simp)

/-! ### Memory -/
theorem rvCells_set (l : List RV) : ∀ (x : Nat) (r : RV) (o : Value), l[x]? = some r → rvCells (l.set x ⟨r.k, o, r.n, r.a⟩) = (rvCells l).set (x * 4 + 1) o := by
  induction l with
  | nil => intro x r o h; simp at h
  | cons q l ih =>
    intro x r o h
    have e : ∀ (z : RV) (m : List RV), rvCells (z :: m) = .int .i64 z.k :: z.o :: z.n :: z.a :: rvCells m := fun z m => rfl
    cases x with
    | zero => simp at h; subst h; rfl
    | succ x =>
      rw [List.set_cons_succ, e, e, ih x r o (by simpa using h), show (x + 1) * 4 + 1 = (x * 4 + 1) + 1 + 1 + 1 + 1 by omega]
      rfl

theorem TabR.set {w : World} {X : Nat → Prop} {rows : List RV} {tab : List RT} (h : TabR w X rows tab) (x : Nat) {r : RV} {t : RT} (hr : RTR w X r t) : TabR w X (rows.set x r) (tab.set x t) := by
  refine ⟨by simp [h.1], fun j p q hp hq => ?_⟩
  by_cases e : j = x
  · subst e
    have h1 : j < rows.length := by
      have := (List.getElem?_eq_some_iff.1 hp).1
      simpa using this
    rw [List.getElem?_set_self h1] at hp
    rw [List.getElem?_set_self (by rw [← h.1]; exact h1)] at hq
    cases hp; cases hq
    exact hr
  · rw [List.getElem?_set_ne (fun e' => e e'.symm)] at hp hq
    exact h.2 j p q hp hq

/-- A row of the table, in memory. -/
theorem DS.row {w : World} {X : Nat → Prop} {db : Nat} {s : ByteArray} {n : Nat} {bad : Bool} {tv lv av rv : Value} {tab : List RT} (h : DS w X db s n bad tv lv av rv tab) {x : Nat} (hx : x < tab.length) :
    ∃ (g cap : Nat) (o nv a : Value), tv = .slice (some ⟨g, 0, none⟩) tab.length cap ∧ w.cell? ⟨g, x * 4, none⟩ = some (.int .i64 (rowAt tab x).kind) ∧ w.cell? ⟨g, x * 4 + 1, none⟩ = some o ∧ w.cell? ⟨g, x * 4 + 2, none⟩ = some nv ∧ w.cell? ⟨g, x * 4 + 3, none⟩ = some a ∧
      RTR w (XO X tv) ⟨(rowAt tab x).kind, o, nv, a⟩ (rowAt tab x) ∧ (∀ i, w.frozen? ⟨g, i, none⟩ = false) ∧
      (∀ (w' : World) (o' : Value) (t' : RT), Fr Zero w w' → RTR w' (XO X tv) ⟨(rowAt tab x).kind, o', nv, a⟩ t' → DS (w'.setCell ⟨g, x * 4 + 1, none⟩ o') X db s n bad tv lv av rv (tab.set x t')) := by
  obtain ⟨hD, rows, hO, hT⟩ := h
  have hxr : x < rows.length := by rw [hT.1]; exact hx
  obtain ⟨r, hr⟩ : ∃ r, rows[x]? = some r := ⟨rows[x], by simp [hxr]⟩
  have htx : tab[x]? = some (rowAt tab x) := by unfold rowAt; simp [hx]
  have hrt := hT.2 x r _ hr htx
  obtain ⟨rk, ro, rn, ra⟩ := r
  have hrk : rk = (rowAt tab x).kind := hrt.1
  subst hrk
  obtain ⟨q0, q1, q2, q3⟩ := rvCells_get rows x _ hr
  have hne := owned_neD hD hO (by decide)
  rcases hO.2 with ⟨_, e⟩ | ⟨g, cap, cur, htv, hbb, hcur, hrest⟩
  · omega
  · subst htv
    have hlen : ∀ j, j < 4 → x * 4 + j < rows.length * 4 := fun j hj => by omega
    refine ⟨g, cap, ro, rn, ra, by rw [hT.1], ?_, ?_, ?_, ?_, hrt, fun i => hO.frozenAt i, ?_⟩
    · rw [hO.cellAt (x * 4) (hlen 0 (by omega))]; exact q0
    · rw [hO.cellAt _ (hlen 1 (by omega))]; exact q1
    · rw [hO.cellAt _ (hlen 2 (by omega))]; exact q2
    · rw [hO.cellAt _ (hlen 3 (by omega))]; exact q3
    · intro w' o' t' hf hr'
      have hO' := ownsRow_keep hO hf (fun _ _ h => h)
      have hfS : Fr (One g) w' (w'.setCell ⟨g, x * 4 + 1, none⟩ o') := Fr.setCell _ _ _ _ rfl
      refine ⟨hfS.keep (hf.keep hD (fun h => h)) (fun e => hne g rfl e.symm), rows.set x ⟨(rowAt tab x).kind, o', rn, ra⟩, ?_, ?_⟩
      · rw [rvCells_set rows x ⟨(rowAt tab x).kind, ro, rn, ra⟩ o' hr, List.length_set]
        exact (hO'.stored (x * 4 + 1) o').1
      · exact ((hT.keep hf.of0).set x hr').keep (hfS.mono (fun k _ e => .inr (by have e' : k = g := e; rw [e']; rfl)))

end Go.Proofs.YtapblkmlhoalgaaDoor
