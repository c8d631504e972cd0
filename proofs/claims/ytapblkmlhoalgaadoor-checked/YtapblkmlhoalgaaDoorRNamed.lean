/- The other reader's named. -/
import Derived.Test.YtapblkmlhoalgaaDoorRLines
namespace Go.Proofs.YtapblkmlhoalgaaDoor
open Go.RowKit

/-- The root of the first line of a name. -/
def rFind (nm : ByteArray) : List (ByteArray × Nat) → Option Nat
  | [] => none
  | p :: r => if p.1 = nm then some p.2 else rFind nm r
def rNamed (lines : List ByteArray) (roots : List Nat) (nm : ByteArray) (i : Nat) : Option Nat := rFind nm ((lines.zip roots).take i)
def intOr (o : Option Nat) : Int := match o with
  | some x => (x : Int)
  | none => -1

theorem rFind_none {nm : ByteArray} {l : List (ByteArray × Nat)} : (∀ (j : Nat) (q : ByteArray × Nat), l[j]? = some q → q.1 ≠ nm) → rFind nm l = none := by
  induction l with
  | nil => intro _; rfl
  | cons p r ih =>
    intro h
    rw [rFind, if_neg (h 0 p rfl)]
    exact ih (fun j q hq => h (j + 1) q (by simpa using hq))
theorem rFind_some {nm : ByteArray} {l : List (ByteArray × Nat)} : ∀ (k : Nat) (p : ByteArray × Nat), l[k]? = some p → p.1 = nm → (∀ (j : Nat) (q : ByteArray × Nat), j < k → l[j]? = some q → q.1 ≠ nm) → rFind nm l = some p.2 := by
  induction l with
  | nil => intro k p h; simp at h
  | cons q r ih =>
    intro k p h he hn
    cases k with
    | zero => simp at h; subst h; rw [rFind, if_pos he]
    | succ k =>
      rw [rFind, if_neg (hn 0 q (by omega) rfl)]
      exact ih k p (by simpa using h) he (fun j q' hj hq => hn (j + 1) q' (by omega) (by simpa using hq))

theorem sl_cell {w : World} {e : TypeId} {g n cap k : Nat} {xs : List Value} {base : Nat} (h : w.ownsRow base e 1 (.slice (some ⟨g, 0, none⟩) n cap) n xs) (hk : k < n) : w.cell? ⟨g, k, none⟩ = xs[k]? := h.cellAt k (by omega)

set_option maxHeartbeats 2000000 in
theorem named_any {w : World} {B db : Nat} {s : ByteArray} {n : Nat} {bad : Bool} {tv lv av rv : Value} {lines : List ByteArray} {ats roots : List Nat} (hD : DB w db s n bad tv lv av rv) (hL : LD w B lv av rv lines ats roots) (hr : roots.length = lines.length) (hl : lines.length ≤ 1000) (nm : ByteArray) (i : Nat) (hi : i ≤ lines.length) :
    Calls Tryd.prog 10 #[.pointer (some ⟨db, 0, none⟩), .string nm, .int .i64 i] w fun e w' => e = .returned (.int .i64 (intOr (rNamed lines roots nm i))) ∧ w' = w := by
  have c3 := hD.at3
  have c5 := hD.at5
  have HL := hide hL
  have HR := hide hr
  clear hD hL hr
  by_cases h0 : lines = []
  · have hi0 : i = 0 := by rw [h0] at hi; simpa using hi
    have HE : Hid (rNamed lines roots nm i = none) := by show _ = _; rw [h0, hi0]; rfl
    subst hi0
    clear hi
    go_enter Tryd.func10, Tryd.ntmps10
    go_wp2_with fail
    refine wp_loop_rounds 1 ?_
    rw [rounds_succ]
    go_wp2_with fail
    go_ret
    rw [HE.out]
    exact ⟨rfl, rfl⟩
  · have hpos : 0 < lines.length := List.length_pos_iff.2 h0
    rcases HL.out.sl.2 with ⟨_, e⟩ | ⟨gl, cl, curl, el, _⟩
    · omega
    rcases HL.out.sr.2 with ⟨_, e⟩ | ⟨gr, cr, curr, er, _⟩
    · have := HR.out; omega
    have hol := HL.out.sl
    have hor := HL.out.sr
    subst el er
    have HOL := hide hol
    have HOR := hide hor
    clear hol hor HL h0
    go_enter Tryd.func10, Tryd.ntmps10
    go_wp2_with fail
    go_loop [7] (fun kv => ∃ k : Nat, k ≤ i ∧ kv = .int .i64 k ∧ Hid (∀ (j : Nat) (q : ByteArray × Nat), j < k → (lines.zip roots)[j]? = some q → q.1 ≠ nm)) (fun kv => i - (intOf kv).toNat)
    case atStart => exact ⟨0, by omega, rfl, fun j q hj => by omega⟩
    case round =>
      obtain ⟨k, hk, rfl, HN⟩ := hrel
      by_cases hlt : k < i
      · have hkl : k < lines.length := by omega
        have hkr : k < roots.length := by have := HR.out; omega
        have hcl : w.cell? ⟨gl, k, none⟩ = some (.string lines[k]) := by rw [sl_cell HOL.out hkl]; simp [texts, hkl]
        have hcr : w.cell? ⟨gr, k, none⟩ = some (.int .i64 (roots[k] : Nat)) := by rw [sl_cell HOR.out hkr]; simp [ints, hkr]
        have hrI : ((k : Nat) : Int) < ((roots.length : Nat) : Int) := by omega
        have hlI : ((k : Nat) : Int) < ((lines.length : Nat) : Int) := by omega
        have HZ : Hid ((lines.zip roots)[k]? = some (lines[k], roots[k])) := by show _ = _; rw [List.getElem?_eq_getElem (by simp; omega)]; simp
        by_cases hq : lines[k] = nm
        · have hb : (lines[k].toList == nm.toList) = true := by rw [strEq]; simp [hq]
          have HQ := hide hq
          clear hq
          generalize lines[k] = a at *
          generalize roots[k] = b at *
          go_wp2_with fail
          go_ret
          have e : rNamed lines roots nm i = some b := by
            unfold rNamed
            refine rFind_some k (a, b) ?_ HQ.out (fun j q hj hq => ?_)
            · rw [List.getElem?_take_of_lt hlt]; exact HZ.out
            · rw [List.getElem?_take_of_lt (by omega)] at hq; exact HN.out j q hj hq
          rw [e]
          exact ⟨rfl, rfl⟩
        · have hb : (lines[k].toList == nm.toList) = false := by rw [strEq]; simp [hq]
          have HQ := hide hq
          clear hq
          generalize lines[k] = a at *
          generalize roots[k] = b at *
          go_wp2_with fail
          go_round
          case rel =>
            refine ⟨k + 1, by omega, by go_num, fun j q hj hq => ?_⟩
            by_cases e : j < k
            · exact HN.out j q e hq
            · have : j = k := by omega
              subst this
              rw [HZ.out] at hq
              cases hq
              exact HQ.out
          case measure => simp [intOf]; omega
      · have hki : k = i := by omega
        subst hki
        have e : Hid (rNamed lines roots nm k = none) := by
          show _ = _
          unfold rNamed
          refine rFind_none (fun j q hq => ?_)
          by_cases hj : j < k
          · rw [List.getElem?_take_of_lt hj] at hq; exact HN.out j q hj hq
          · rw [List.getElem?_eq_none (by rw [List.length_take]; omega)] at hq; cases hq
        go_wp2_with fail
        go_ret
        rw [e.out]
        exact ⟨rfl, rfl⟩

end Go.Proofs.YtapblkmlhoalgaaDoor
