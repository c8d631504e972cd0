/- A queue's step that takes a frame. -/
import Derived.Test.YtnhkalnihjkoeaaQOnePut
namespace Go.Proofs.Ytnhkalnihjkoeaa
open Go.RowKit

theorem QM.seth {w w' : World} {qb N : Nat} {waits held held' : List Bs} {nums : List Nat} {wv hv nv v' : Value} (h : QM w qb N waits held nums wv hv nv) (hp : PRow w' 9 1 v' held'.length (strC held')) (hf : Fr (Owns hv) w w') (hv' : ∀ k, k < w.heap.size → blockOf v' = some k → blockOf hv = some k) :
    QM (w'.setCell ⟨qb, 1, none⟩ v') qb N waits held' nums wv v' nv := by
  have hq' : w'.heap[qb]? = _ := hf.keep h.q (fun e => h.rh.ne h.q (by decide) e)
  have hS : Fr (One qb) w' (w'.setCell ⟨qb, 1, none⟩ v') := Fr.setCell _ _ _ _ rfl
  have hne : ∀ {ty : TypeId} {sz n : Nat} {v : Value} {xs : List Value}, PRow w' ty sz v n xs → ty ≠ 32 → ∀ g, blockOf v = some g → ¬ One qb g := fun hr ht g hg e => by
    have e' : g = qb := e
    rw [e'] at hg
    exact hr.ne hq' ht hg
  have hh : PRow w' 9 1 wv waits.length (strC waits) := h.rw_.keep hf (fun g hg e => h.sep g hg e)
  have hn : PRow w' 3 1 nv nums.length (natC nums) := h.rn.keep hf (fun g hg e => by
    obtain ⟨c1, e1⟩ := h.rn.type hg
    exact h.rh.ne e1 (by decide) e)
  refine ⟨by rw [heap_setCell_same hq']; rfl, hh.keep hS (hne hh (by decide)), hp.keep hS (hne hp (by decide)), hn.keep hS (hne hn (by decide)), fun g hg e => ?_⟩
  obtain ⟨c1, e1⟩ := h.rw_.type hg
  exact h.sep g hg (hv' g (lt_of_heap e1) e)
theorem QM.setn {w w' : World} {qb N : Nat} {waits held : List Bs} {nums nums' : List Nat} {wv hv nv v' : Value} (h : QM w qb N waits held nums wv hv nv) (hp : PRow w' 3 1 v' nums'.length (natC nums')) (hf : Fr (Owns nv) w w') :
    QM (w'.setCell ⟨qb, 2, none⟩ v') qb N waits held nums' wv hv v' := by
  have hq' : w'.heap[qb]? = _ := hf.keep h.q (fun e => h.rn.ne h.q (by decide) e)
  have hS : Fr (One qb) w' (w'.setCell ⟨qb, 2, none⟩ v') := Fr.setCell _ _ _ _ rfl
  have hne : ∀ {ty : TypeId} {sz n : Nat} {v : Value} {xs : List Value}, PRow w' ty sz v n xs → ty ≠ 32 → ∀ g, blockOf v = some g → ¬ One qb g := fun hr ht g hg e => by
    have e' : g = qb := e
    rw [e'] at hg
    exact hr.ne hq' ht hg
  have hw : PRow w' 9 1 wv waits.length (strC waits) := h.rw_.keep hf (fun g hg e => by
    obtain ⟨c1, e1⟩ := h.rw_.type hg
    exact h.rn.ne e1 (by decide) e)
  have hh : PRow w' 9 1 hv held.length (strC held) := h.rh.keep hf (fun g hg e => by
    obtain ⟨c1, e1⟩ := h.rh.type hg
    exact h.rn.ne e1 (by decide) e)
  exact ⟨by rw [heap_setCell_same hq']; rfl, hw.keep hS (hne hw (by decide)), hh.keep hS (hne hh (by decide)), hp.keep hS (hne hp (by decide)), h.sep⟩
/-- The waiting row is cut. -/
theorem QM.cutw {w : World} {qb N : Nat} {waits waits' held : List Bs} {nums : List Nat} {wv hv nv v' : Value} (h : QM w qb N waits held nums wv hv nv) (hp : PRow w 9 1 v' waits'.length (strC waits')) (hb : blockOf v' = blockOf wv) :
    QM (w.setCell ⟨qb, 0, none⟩ v') qb N waits' held nums v' hv nv := h.setw hp (Fr.refl _ _) (fun k _ e => by rw [← hb]; exact e)

theorem strC_append (a b : List Bs) : strC (a ++ b) = strC a ++ strC b := by simp [strC]
theorem natC_append (a b : List Nat) : natC (a ++ b) = natC a ++ natC b := by simp [natC]
theorem strC_len (a : List Bs) : (strC a).length = a.length := by simp [strC]
theorem natC_len (a : List Nat) : (natC a).length = a.length := by simp [natC]

set_option maxHeartbeats 16000000 in
set_option maxRecDepth 100000 in
theorem one_take0 {w : World} {B sb rb yb qb N : Nat} {R : PR} {held : List (Nat × Bs)} (h : ST w B sb rb yb qb R N [] held) (hN : N ≤ 100000) (k a : Int) (hk1 : -9223372036854775808 ≤ k) (hk2 : k ≤ 9223372036854775807) (hp : pickN k 7 = 3 ∨ pickN k 7 = 4) (g : Value) :
    Calls Try.prog 6 #[.pointer (some ⟨qb, 0, none⟩), .pointer (some ⟨sb, 0, none⟩), g, .agg #[.int .i64 k, .int .i64 a]] w fun e w' => OnePost w B sb rb yb qb R N (fun ws hs n => ws = [] ∧ hs = held ∧ n = N) e w' := by
  have H := hide h
  have HF0 : Hid (Fr Zero w (w.alloc (.cells #[.int .i64 k, .int .i64 a] 35))) := Fr.alloc _ _ _
  have H0 := hide (h.quiet HF0.out)
  have hbn := h.bounds
  clear h
  go_enter Try.func6, Try.ntmps6
  go_wp2_with fail
  generalize w.alloc (.cells #[.int .i64 k, .int .i64 a] 35) = w0 at *
  refine (pick_any k hk1 hk2 7 (by omega) (by omega) _).mono ?_
  rintro e w1 ⟨rfl, e1⟩
  obtain rfl := e1.symm
  have HT := hide (H0.out.rel.take0 H0.out.fit)
  generalize pickN k 7 = P at *
  obtain rfl | rfl := hp
  all_goals
    go_wp2_with fail
    refine (stake_any H0.out.sm (by omega) (by omega)).mono ?_
    rw [HT.out]
    rintro e w2 ⟨rfl, hF2, hM2⟩
    obtain ⟨wv, hv, nv, hq, hqb1, hqb2, hqb3⟩ := H0.out.qm
    have hRX := H0.out.ring hF2
    have hq2 := hq.ring H0.out.sm hF2
    have k0 := hq2.at0
    obtain ⟨wa, wc, rfl⟩ := hq2.rw_.len
    have HST : Hid (ST w2 B sb rb yb qb R N [] held) := ⟨hM2, H0.out.fit, ⟨_, hv, nv, hq2, hqb1, hqb2, hqb3⟩, H0.out.rel, hRX.2, H0.out.qB, Nat.le_trans H0.out.size hF2.fr.size⟩
    have HFF : Hid (Fr (From B) w w2) := HF0.out.of0.trans hRX.1
    clear hq hq2 hM2 hF2 hRX
    simp only [List.length_nil] at k0
    go_wp2_with fail
    go_ret
    exact ⟨rfl, HFF, R, N, [], held, HST, rfl, by omega, rfl, rfl, rfl⟩

end Go.Proofs.Ytnhkalnihjkoeaa
