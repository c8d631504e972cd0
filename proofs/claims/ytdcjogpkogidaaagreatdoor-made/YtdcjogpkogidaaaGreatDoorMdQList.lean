/- Rows in memory that may be pieces of greater ones: what an append makes of them, what is cut off them. -/
import Derived.Deep.OwnRows
import Derived.Laws.OwnMore
import Derived.Test.YtdcjogpkogidaaaGreatDoorMdQPut
section
namespace Go.Proofs.YtdcjogpkogidaaaGreatDoor.Q
open Go.RowKit

def setSt (l : List PF) (i s : Nat) : List PF := l.modify i (fun f => { f with st := s })
theorem setSt_len (l : List PF) (i s : Nat) : (setSt l i s).length = l.length := by simp [setSt]
theorem setSt_cells {l : List PF} {i s : Nat} (hi : i < l.length) : fsCells (setSt l i s) = (fsCells l).set (i * 3 + 2) (.int .i64 s) := by
  induction l generalizing i with
  | nil => simp at hi
  | cons x l ih =>
    have e : fsCells (x :: l) = .int .i64 x.at_ :: .int .i64 x.takes :: .int .i64 x.st :: fsCells l := rfl
    rcases i with _ | i
    · rfl
    · have hi' : i < l.length := by simpa using hi
      have e2 : setSt (x :: l) (i + 1) s = x :: setSt l i s := by simp [setSt]
      rw [e2, show fsCells (x :: setSt l i s) = .int .i64 x.at_ :: .int .i64 x.takes :: .int .i64 x.st :: fsCells (setSt l i s) from rfl, ih hi', e, show (i + 1) * 3 + 2 = i * 3 + 2 + 1 + 1 + 1 by omega]
      simp only [List.set_cons_succ]

theorem RM.setst {w : World} {rb yb fb off cap : Nat} {R : PR} (h : RM w rb yb R (.slice (some ⟨fb, off, none⟩) R.fs.length cap)) {i : Nat} (hi : i < R.fs.length) (s : Nat) :
    RM (w.setCell ⟨fb, off + i * 3 + 2, none⟩ (.int .i64 s)) rb yb { R with fs := setSt R.fs i s } (.slice (some ⟨fb, off, none⟩) R.fs.length cap) ∧ RFr rb yb w (w.setCell ⟨fb, off + i * 3 + 2, none⟩ (.int .i64 s)) := by
  have hS : Fr (One fb) w (w.setCell ⟨fb, off + i * 3 + 2, none⟩ (.int .i64 s)) := Fr.setCell _ _ _ _ rfl
  have hM : RM (w.setCell ⟨fb, off + i * 3 + 2, none⟩ (.int .i64 s)) rb yb { R with fs := setSt R.fs i s } (.slice (some ⟨fb, off, none⟩) R.fs.length cap) := by
    refine ⟨hS.keep h.r (fun e => h.fner (g := fb) rfl (by have e' : rb = fb := e; exact e'.symm)), hS.keep h.y (fun e => h.fne (g := fb) rfl (by have e' : yb = fb := e; exact e'.symm)), ?_, h.g2, h.g64, h.len⟩
    rcases h.f with ⟨q, _⟩ | ⟨fb', off', cap', cur, q1, q2, q3, q4, q5, q6⟩
    · simp at q
    · simp at q1
      obtain ⟨⟨rfl, rfl⟩, rfl⟩ := q1
      refine .inr ⟨fb, off, cap, _, by rw [setSt_len], heap_setCell_same q2, by rw [setSt_len]; exact q3, by simpa using q4, q5, fun j u hj => ?_⟩
      rw [setSt_cells hi, List.getElem?_set] at hj
      rw [Array.getElem?_setIfInBounds]
      by_cases e : i * 3 + 2 = j
      · subst e
        rw [if_pos rfl] at hj
        rw [fsCells_length, if_pos (by omega)] at hj
        rw [if_pos (by omega), if_pos (by omega)]
        exact hj
      · rw [if_neg e] at hj
        rw [if_neg (by omega)]
        exact q6 j u hj
  exact ⟨hM, RFr.of h hM (hS.mono (fun k _ e => .inr (.inr (by have e' : k = fb := e; rw [e']; rfl)))) (fun _ _ e => e)⟩
def takeP (R : PR) : Nat × Nat × PR := match waitI R.fs with
  | some i => (R.first + i, 0, { R with fs := setSt R.fs i 1 })
  | none => (0, if R.shut then 12 else 11, R)

set_option maxHeartbeats 8000000 in
set_option maxRecDepth 100000 in
theorem take_any {w : World} {rb yb : Nat} {R : PR} {fv : Value} (h : RM w rb yb R fv) (hl : R.fs.length ≤ 1000000) (hfl : R.first ≤ 3000000000000) :
    Calls Tryz.prog 97 #[.pointer (some ⟨rb, 0, none⟩)] w fun e w' => e = .returned (.tuple #[.int .i64 (takeP R).1, .int .i64 (takeP R).2.1]) ∧ RFr rb yb w w' ∧ ∃ fv', RM w' rb yb (takeP R).2.2 fv' := by
  have h1 := h.at1
  have H := hide h
  have hlt := h.lt
  obtain ⟨fa, fc, rfl⟩ := h.f.len
  clear h
  go_enter Tryz.func97, Tryz.ntmps97
  go_wp2_with fail
  refine (indexFunc_any H.out.f hl).mono ?_
  rintro e w1 ⟨rfl, hF1⟩
  have HF1 := hide hF1
  have H1 := hide (H.out.quiet hF1)
  clear hF1 h1
  have k1 := H1.out.at1
  have k2 := H1.out.at2
  have k4 := H1.out.at4
  rcases hq : waitI R.fs with _ | i
  · have HU : Hid (takeP R = (0, if R.shut then 12 else 11, R)) := by show _ = _; unfold takeP; rw [hq]
    simp only [idxI]
    clear hq
    cases hs : R.shut with
    | true =>
      rw [hs] at k4 HU
      clear hs
      go_wp2_with fail
      go_ret2
      rw [HU.out]
      exact ⟨rfl, RFr.quiet HF1.out hlt, _, H1.out⟩
    | false =>
      rw [hs] at k4 HU
      clear hs
      go_wp2_with fail
      go_ret2
      rw [HU.out]
      exact ⟨rfl, RFr.quiet HF1.out hlt, _, H1.out⟩
  · have HU : Hid (takeP R = (R.first + i, 0, { R with fs := setSt R.fs i 1 })) := by show _ = _; unfold takeP; rw [hq]
    obtain ⟨hi, _, _⟩ := List.findIdx?_eq_some_iff_getElem.1 hq
    obtain ⟨f, hf⟩ : ∃ f, R.fs[i]? = some f := ⟨R.fs[i], by simp⟩
    obtain ⟨fb, off, cap, e1, c1, c2, c3, c4⟩ := H1.out.f.at_ hf
    obtain ⟨rfl, _, rfl⟩ : fa = some ⟨fb, off, none⟩ ∧ True ∧ fc = cap := by simp at e1; exact ⟨e1.1, trivial, e1.2⟩
    have HE := hide (H1.out.setst hi 1)
    have hI : (i : Int) < (R.fs.length : Int) := by omega
    have hI0 : (0 : Int) ≤ (i : Int) := by omega
    have z2 : (w1.setCell ⟨fb, off + i * 3 + 2, none⟩ (.int .i64 1)).cell? ⟨rb, 2, none⟩ = some (.int .i64 R.first) := HE.out.1.at2
    have c5 := c4 (off + i * 3 + 2)
    simp only [idxI]
    clear hq hf e1
    go_wp2_with fail
    go_ret2
    rw [HU.out]
    exact ⟨by simp, (RFr.quiet HF1.out hlt).trans HE.out.2, _, HE.out.1⟩

end Go.Proofs.YtdcjogpkogidaaaGreatDoor.Q
end
section
namespace Go.Proofs.YtdcjogpkogidaaaGreatDoor.Q
open Go.RowKit

theorem FRow.tail {w : World} {v : Value} {f : PF} {l : List PF} (h : FRow w v (f :: l)) : ∃ fb off cap, v = .slice (some ⟨fb, off, none⟩) (l.length + 1) cap ∧ 0 < cap ∧ w.cell? ⟨fb, off + 2, none⟩ = some (.int .i64 f.st) ∧ (cap = 1 → FRow w (.slice (some ⟨fb, off, none⟩) l.length 0) l) ∧ (1 < cap → FRow w (.slice (some ⟨fb, off + 3, none⟩) l.length (cap - 1)) l) := by
  rcases h with ⟨_, h⟩ | ⟨fb, off, cap, cur, rfl, h2, h3, h4, h5, h6⟩
  · simp at h
  · have e : fsCells (f :: l) = .int .i64 f.at_ :: .int .i64 f.takes :: .int .i64 f.st :: fsCells l := rfl
    simp only [List.length_cons] at h3
    refine ⟨fb, off, cap, by simp, by omega, ?_, fun hc => ?_, fun hc => ?_⟩
    · rw [cell_of_heap h2]
      exact h6 2 _ (by rw [e]; rfl)
    · have hl : l = [] := List.eq_nil_of_length_eq_zero (by omega)
      subst hl
      exact .inr ⟨fb, off, 0, cur, rfl, h2, by simp, by omega, by unfold maxLen; omega, fun j u hj => by simp [fsCells] at hj⟩
    · refine .inr ⟨fb, off + 3, cap - 1, cur, rfl, h2, by omega, by omega, by omega, fun j u hj => ?_⟩
      have := h6 (j + 3) u (by rw [e]; exact hj)
      rw [show off + 3 + j = off + (j + 3) by omega]
      exact this

end Go.Proofs.YtdcjogpkogidaaaGreatDoor.Q
end
section
namespace Go.Proofs.YtdcjogpkogidaaaGreatDoor.Q
open Go.RowKit

theorem Fr.four (X : Nat → Prop) (w : World) (b : Nat) (v0 v1 v2 v3 : Value) (hx : X b) : Fr X w ((((w.setCell ⟨b, 0, none⟩ v0).setCell ⟨b, 1, none⟩ v1).setCell ⟨b, 2, none⟩ v2).setCell ⟨b, 3, none⟩ v3) :=
  (((Fr.setCell X w ⟨b, 0, none⟩ v0 hx).trans (Fr.setCell X _ ⟨b, 1, none⟩ v1 hx)).trans (Fr.setCell X _ ⟨b, 2, none⟩ v2 hx)).trans (Fr.setCell X _ ⟨b, 3, none⟩ v3 hx)
theorem heap_four {w : World} {b : Nat} {a0 a1 a2 a3 : Value} {t : TypeId} {f : Nat × Nat} (h : w.heap[b]? = some (.cells #[a0, a1, a2, a3] t f)) (v0 v1 v2 v3 : Value) :
    ((((w.setCell ⟨b, 0, none⟩ v0).setCell ⟨b, 1, none⟩ v1).setCell ⟨b, 2, none⟩ v2).setCell ⟨b, 3, none⟩ v3).heap[b]? = some (.cells #[v0, v1, v2, v3] t f) := by
  rw [heap_setCell_same (heap_setCell_same (heap_setCell_same (heap_setCell_same h)))]; rfl
theorem heap_four_ne {w : World} {b k : Nat} (hk : k ≠ b) (v0 v1 v2 v3 : Value) :
    ((((w.setCell ⟨b, 0, none⟩ v0).setCell ⟨b, 1, none⟩ v1).setCell ⟨b, 2, none⟩ v2).setCell ⟨b, 3, none⟩ v3).heap[k]? = w.heap[k]? := by
  rw [Below.heap_setCell _ _ _ _ hk, Below.heap_setCell _ _ _ _ hk, Below.heap_setCell _ _ _ _ hk, Below.heap_setCell _ _ _ _ hk]

end Go.Proofs.YtdcjogpkogidaaaGreatDoor.Q
end
section
namespace Go.Proofs.YtdcjogpkogidaaaGreatDoor.Q
open Go.RowKit

/-- A ring as package sluice has it. -/
structure SM (w : World) (sb rb yb : Nat) (R : PR) : Prop where
  s : w.heap[sb]? = some (.cells #[.pointer (some ⟨rb, 0, none⟩)] 205 (0, 0))
  r : ∃ fv, RM w rb yb R fv

theorem SM.at0 {w : World} {sb rb yb : Nat} {R : PR} (h : SM w sb rb yb R) : w.cell? ⟨sb, 0, none⟩ = some (.pointer (some ⟨rb, 0, none⟩)) := by rw [cell_of_heap h.s]; rfl

theorem SM.lt {w : World} {sb rb yb : Nat} {R : PR} (h : SM w sb rb yb R) : rb < w.heap.size := by obtain ⟨fv, h1⟩ := h.r; exact h1.lt

theorem SM.quiet {w w' : World} {sb rb yb : Nat} {R : PR} (h : SM w sb rb yb R) (hf : Fr Zero w w') : SM w' sb rb yb R := by
  obtain ⟨fv, h1⟩ := h.r
  exact ⟨hf.keep h.s (fun h => h), fv, h1.quiet hf⟩

theorem RM.notX {w : World} {rb yb : Nat} {R : PR} {fv : Value} (h : RM w rb yb R fv) {k : Nat} {cs : Array Value} {t : TypeId} {f : Nat × Nat} (hk : w.heap[k]? = some (.cells cs t f)) (h1 : t ≠ 262) (h2 : t ≠ 5) (h3 : t ≠ 266) : ¬ RX w rb yb k := fun e => by
  rcases RX.of h e with e | e | e
  · rw [e, h.r] at hk; simp at hk; exact h1 hk.2.1.symm
  · rw [e, h.y] at hk; simp at hk; exact h2 hk.2.1.symm
  · rcases h.f with ⟨q, _⟩ | ⟨fb, off, cap, cur, q1, q2, _⟩
    · rw [q] at e; simp [blockOf] at e
    · rw [q1] at e
      simp [blockOf] at e
      rw [← e, q2] at hk
      simp at hk
      exact h3 hk.2.1.symm

theorem SM.next {w w' : World} {sb rb yb : Nat} {R R' : PR} {fv' : Value} (h : SM w sb rb yb R) (hf : RFr rb yb w w') (h' : RM w' rb yb R' fv') : SM w' sb rb yb R' := by
  obtain ⟨fv, h1⟩ := h.r
  exact ⟨hf.fr.keep h.s (h1.notX h.s (by decide) (by decide) (by decide)), fv', h'⟩

end Go.Proofs.YtdcjogpkogidaaaGreatDoor.Q
end
section
namespace Go.Proofs.YtdcjogpkogidaaaGreatDoor.Q
open Go.RowKit

/-- A row of n values of sz cells each, from some cell of a block on. -/
def PRow (w : World) (ty : TypeId) (sz : Nat) (v : Value) (n : Nat) (xs : List Value) : Prop :=
  xs.length = n * sz ∧ ((v = .slice none 0 0 ∧ n = 0) ∨ ∃ (fb off cap : Nat) (cur : Array Value), v = .slice (some ⟨fb, off, none⟩) n cap ∧ w.heap[fb]? = some (.cells cur ty (0, 0)) ∧ n ≤ cap ∧ off + cap * sz ≤ cur.size ∧ cap ≤ maxLen ∧ ∀ j u, xs[j]? = some u → cur[off + j]? = some u)

section
variable {w w' : World} {ty : TypeId} {sz : Nat} {v : Value} {n : Nat} {xs : List Value}
theorem PRow.keep {X : Nat → Prop} (h : PRow w ty sz v n xs) (hf : Fr X w w') (hx : ∀ g, blockOf v = some g → ¬ X g) : PRow w' ty sz v n xs := by
  obtain ⟨h0, h⟩ := h
  refine ⟨h0, ?_⟩
  rcases h with h | ⟨fb, off, cap, cur, h1, h2, h3⟩
  · exact .inl h
  · exact .inr ⟨fb, off, cap, cur, h1, hf.keep h2 (hx fb (by rw [h1]; rfl)), h3⟩
theorem PRow.nil (w : World) (ty : TypeId) (sz : Nat) : PRow w ty sz (.slice none 0 0) 0 [] := ⟨by simp, .inl ⟨rfl, rfl⟩⟩
theorem PRow.len (h : PRow w ty sz v n xs) : ∃ a cap, v = .slice a n cap := by
  rcases h.2 with ⟨rfl, rfl⟩ | ⟨fb, off, cap, cur, rfl, _⟩
  · exact ⟨none, 0, rfl⟩
  · exact ⟨_, cap, rfl⟩
theorem PRow.at_ (h : PRow w ty sz v n xs) {j : Nat} {u : Value} (hj : xs[j]? = some u) : ∃ fb off cap, v = .slice (some ⟨fb, off, none⟩) n cap ∧ w.cell? ⟨fb, off + j, none⟩ = some u := by
  obtain ⟨h0, h⟩ := h
  rcases h with ⟨_, rfl⟩ | ⟨fb, off, cap, cur, rfl, h2, _, _, _, h6⟩
  · have := (List.getElem?_eq_some_iff.1 hj).1
    omega
  · exact ⟨fb, off, cap, rfl, by rw [cell_of_heap h2]; exact h6 _ _ hj⟩
theorem PRow.ne (h : PRow w ty sz v n xs) {k : Nat} {cs : Array Value} {t : TypeId} {f : Nat × Nat} (hk : w.heap[k]? = some (.cells cs t f)) (ht : ty ≠ t) : blockOf v ≠ some k := fun e => by
  rcases h.2 with ⟨q, _⟩ | ⟨fb, off, cap, cur, q1, q2, _⟩
  · rw [q] at e; simp [blockOf] at e
  · rw [q1] at e
    simp [blockOf] at e
    rw [e, hk] at q2
    simp at q2
    exact ht q2.2.1.symm
/-- The first m of it. -/
theorem PRow.take (h : PRow w ty sz v n xs) {m : Nat} (hm : m ≤ n) : ∃ a cap, v = .slice a n cap ∧ (0 < n → n ≤ cap ∧ PRow w ty sz (.slice a m cap) m (xs.take (m * sz))) := by
  obtain ⟨h0, h⟩ := h
  rcases h with ⟨rfl, rfl⟩ | ⟨fb, off, cap, cur, rfl, h2, h3, h4, h5, h6⟩
  · exact ⟨none, 0, rfl, fun h => by omega⟩
  · refine ⟨_, cap, rfl, fun _ => ⟨h3, ?_, .inr ⟨fb, off, cap, cur, rfl, h2, by omega, h4, h5, fun j u hj => ?_⟩⟩⟩
    · rw [List.length_take, h0]
      exact Nat.min_eq_left (Nat.mul_le_mul_right _ hm)
    · rw [List.getElem?_take] at hj
      split at hj
      · exact h6 j u hj
      · simp at hj
/-- What is left behind the first m. -/
theorem PRow.drop (h : PRow w ty sz v n xs) {m : Nat} (hm : m ≤ n) (h0n : 0 < n) : ∃ fb off cap, v = .slice (some ⟨fb, off, none⟩) n cap ∧ n ≤ cap ∧ (m < cap → PRow w ty sz (.slice (some ⟨fb, off + m * sz, none⟩) (n - m) (cap - m)) (n - m) (xs.drop (m * sz))) ∧ (m = cap → PRow w ty sz (.slice (some ⟨fb, off, none⟩) 0 0) 0 (xs.drop (m * sz))) := by
  obtain ⟨h0, h⟩ := h
  rcases h with ⟨_, h⟩ | ⟨fb, off, cap, cur, rfl, h2, h3, h4, h5, h6⟩
  · omega
  · have hms : m * sz ≤ n * sz := Nat.mul_le_mul_right _ hm
    refine ⟨fb, off, cap, rfl, h3, fun hmc => ⟨?_, .inr ⟨fb, off + m * sz, cap - m, cur, rfl, h2, by omega, ?_, by omega, fun j u hj => ?_⟩⟩, fun hmc => ⟨?_, .inr ⟨fb, off, 0, cur, rfl, h2, by omega, by omega, by unfold maxLen; omega, fun j u hj => ?_⟩⟩⟩
    · rw [List.length_drop, h0, Nat.sub_mul]
    · have e : (cap - m) * sz = cap * sz - m * sz := Nat.sub_mul _ _ _
      have : m * sz ≤ cap * sz := Nat.mul_le_mul_right _ (by omega)
      omega
    · rw [List.getElem?_drop] at hj
      have := h6 _ u hj
      rw [show off + m * sz + j = off + (m * sz + j) by omega]
      exact this
    · rw [List.length_drop, h0]
      have : m = n := by omega
      subst this
      simp
    · rw [List.getElem?_drop] at hj
      have hl := (List.getElem?_eq_some_iff.1 hj).1
      have : m = n := by omega
      subst this
      omega
end

/-- An append. -/
theorem run_pappend {w : World} {t ty : TypeId} {sz bytes : Nat} {z : Value} (ht : Tryz.prog.underlying t = some (.slice ty)) (hinfo : (Tryz.prog.info? ty).map (fun i => (i.zero, i.size, i.bytes)) = some (some z, sz, bytes)) (hzc : z.cells.size = sz) {v : Value} {n : Nat} {xs : List Value} (h : PRow w ty sz v n xs) (tx tr : TypeId) (x : Value) (m : Nat) (news : List Value) (hs : Src Tryz.prog sz tx x m news w) (hl : (n + m) * bytes ≤ 140737488355328) (h63 : n + m ≤ 4000000000000) :
    ∃ v' w', (Builtin.append_ #[t, tx] tr #[v, x]).run Tryz.prog w = .ok v' w' ∧ PRow w' ty sz v' (n + m) (xs ++ news) ∧ Fr (Owns v) w w' ∧ (∀ k, k < w.heap.size → blockOf v' = some k → blockOf v = some k) := by
  obtain ⟨i, hi, hz, hsize, hby⟩ := info_parts hinfo
  have hs' := hs
  rw [← hsize] at hs'
  have hnl := hs.newsLen
  obtain ⟨h0, h⟩ := h
  have hxl : (xs ++ news).length = (n + m) * sz := by rw [List.length_append, h0, hnl, Nat.add_mul]
  have grown : ∀ (base : Option Addr) (cap : Nat), cap < n + m → v = .slice base n cap → (Builtin.firstCells i.size n (.slice base n cap)).run Tryz.prog w.drew = .ok xs.toArray w.drew →
      ∃ v' w', (Builtin.append_ #[t, tx] tr #[v, x]).run Tryz.prog w = .ok v' w' ∧ PRow w' ty sz v' (n + m) (xs ++ news) ∧ Fr (Owns v) w w' ∧ (∀ k, k < w.heap.size → blockOf v' = some k → blockOf v = some k) := by
    intro base cap hcap hsv hold
    subst hsv
    have hr := run_append_grow_src (P := Tryz.prog) w t tx tr ty i z ht hi hz base n cap xs hold x m news hs' hcap (by omega) (by rw [hby]; exact growslice_fits hcap hl)
    have hge := grownCap_ge w (n + m) cap ty
    have hcm : grownCap w (n + m) cap ty ≤ maxLen := grownCap_le_maxLen w (n + m) cap ty (by unfold maxLen; omega)
    refine ⟨_, _, hr, ⟨hxl, .inr ⟨w.heap.size, 0, grownCap w (n + m) cap ty, _, rfl, heap_alloc_new w.drew _, hge, ?_, hcm, fun j u hj => ?_⟩⟩, ⟨rfl, rfl, rfl, by simp, fun k hk _ => Below.heap_alloc w.drew _ _ hk⟩, fun k hk e => by simp [blockOf] at e; omega⟩
    · simp only [Array.size_append, List.size_toArray, size_zeroCells, hxl, hzc]
      have e : (grownCap w (n + m) cap ty - (n + m)) * sz = grownCap w (n + m) cap ty * sz - (n + m) * sz := Nat.sub_mul _ _ _
      have e2 : (n + m) * sz ≤ grownCap w (n + m) cap ty * sz := Nat.mul_le_mul_right _ hge
      omega
    · rw [Nat.zero_add]
      have hjl : j < (xs ++ news).length := (List.getElem?_eq_some_iff.1 hj).1
      rw [Array.getElem?_append_left (by simpa using hjl)]
      simpa using hj
  rcases h with ⟨rfl, rfl⟩ | ⟨fb, off, cap, cur, rfl, h2, h3, h4, h5, h6⟩
  · have hx0 : xs = [] := List.eq_nil_of_length_eq_zero (by omega)
    subst hx0
    by_cases hm : m = 0
    · subst hm
      have hn0 : news = [] := List.eq_nil_of_length_eq_zero (by omega)
      subst hn0
      refine ⟨.slice none 0 0, w, ?_, PRow.nil _ _ _, Fr.refl _ _, fun k _ e => e⟩
      have hc := hs'.cells
      have hl0 := hs'.len w
      rcases hs'.kind with ⟨e', hk⟩ | hk <;> simp [Builtin.append_, run_underlying ht, run_underlying hk, sizeOf, typeInfo, hi, hl0, hc]
    · exact grown none 0 (by omega) rfl (run_firstCells_none w.drew i.size 0 0 0)
  · by_cases hroom : n + m ≤ cap
    · have hns : n * i.size + news.length = (n + m) * i.size := by rw [hnl, hsize, Nat.add_mul]
      have hcc : (n + m) * i.size ≤ cap * i.size := Nat.mul_le_mul_right _ hroom
      have hfit : off + n * i.size + news.length ≤ cur.size := by rw [hsize] at hns hcc ⊢; omega
      have hst := run_storeCells_at Tryz.prog fb (off + n * i.size) ty news 0 cur w h2 (by simpa using hfit) hs.one
      simp only [Nat.add_zero] at hst
      have hr : (Builtin.append_ #[t, tx] tr #[.slice (some ⟨fb, off, none⟩) n cap, x]).run Tryz.prog w = .ok (.slice (some ⟨fb, off, none⟩) (n + m) cap) (w.setRow fb (cur.toList.take (off + n * i.size) ++ news ++ cur.toList.drop (off + n * i.size + news.length)).toArray) := by
        rcases hs'.kind with ⟨e', hk⟩ | hk <;> simp [Builtin.append_, run_underlying ht, run_underlying hk, sizeOf, typeInfo, hi, hs'.len, hroom, hs'.cells, Addr.add_lit, hst]
      refine ⟨_, _, hr, ⟨hxl, .inr ⟨fb, off, cap, _, rfl, setRow_heap w fb cur _ ty _ h2, hroom, ?_, h5, fun j u hj => ?_⟩⟩, ⟨rfl, rfl, rfl, by simp, fun k _ hk => setRow_other w fb k _ (fun e => hk (by subst e; rfl))⟩, fun k _ e => by simpa [blockOf] using e⟩
      · simp only [List.size_toArray, List.length_append, List.length_take, List.length_drop, Array.length_toList]
        omega
      · rw [hsize] at hfit ⊢
        have hcl : (cur.toList.take (off + n * sz)).length = off + n * sz := by
          have e : cur.toList.length = cur.size := Array.length_toList
          rw [List.length_take, e]
          exact Nat.min_eq_left (by omega)
        rw [List.getElem?_toArray]
        rcases Nat.lt_or_ge j (n * sz) with q | q
        · rw [List.getElem?_append_left (by rw [List.length_append, hcl]; omega), List.getElem?_append_left (by rw [hcl]; omega), List.getElem?_take_of_lt (by omega)]
          rw [List.getElem?_append_left (by rw [h0]; exact q)] at hj
          rw [Array.getElem?_toList]
          exact h6 j u hj
        · rw [List.getElem?_append_right (by rw [h0]; exact q), h0] at hj
          have hj3 : j - n * sz < news.length := (List.getElem?_eq_some_iff.1 hj).1
          rw [List.getElem?_append_left (by rw [List.length_append, hcl]; omega), List.getElem?_append_right (by rw [hcl]; omega), hcl, show off + j - (off + n * sz) = j - n * sz by omega]
          exact hj
    · exact grown _ cap (by omega) rfl (run_firstCells_some w.drew i.size n _ _ _ xs (by rw [h0, hsize]) (fun j u hj => by
        have e : (⟨fb, off, none⟩ : Addr).add j = ⟨fb, off + j, none⟩ := by simp [Addr.add]
        rw [e]
        show w.cell? _ = _
        rw [cell_of_heap h2]
        exact h6 j u hj))

theorem wpList_pappend {w : World} {ops : Array Oper} {rest : List Oper} {o : Oper} {a : Act} {Q : Exit → Act → World → Prop}
    (hg : o.guard = none) (s x : Operand) (t tx : TypeId) (hop : o.op = Op.call { callee := Callee.builtin Builtin.append, args := #[s, x], argTypes := #[t, tx] })
    {ty : TypeId} {sz bytes : Nat} {z : Value} (ht : Tryz.prog.underlying t = some (.slice ty)) (hinfo : (Tryz.prog.info? ty).map (fun i => (i.zero, i.size, i.bytes)) = some (some z, sz, bytes)) (hzc : z.cells.size = sz)
    {sv xv : Value} {n : Nat} {xs : List Value} (m : Nat) (news : List Value) (hs : a.eval s = sv) (hx : a.eval x = xv) (h : PRow w ty sz sv n xs) (hsrc : Src Tryz.prog sz tx xv m news w) (hl : (n + m) * bytes ≤ 140737488355328) (h63 : n + m ≤ 4000000000000)
    (hK : ∀ v' w', PRow w' ty sz v' (n + m) (xs ++ news) → Fr (Owns sv) w w' → (∀ k, k < w.heap.size → blockOf v' = some k → blockOf sv = some k) → wpList Tryz.prog ops Q rest (a.put o.dst v') w') :
    wpList Tryz.prog ops Q (o :: rest) a w := by
  refine wpList_plain hg fun K hK' => ?_
  obtain ⟨v', w', hrun, r1, r2, r3⟩ := run_pappend ht hinfo hzc h tx o.type xv m news hsrc hl h63
  unfold Oper.wp
  simp [execOp, hop, resolve, invoke, builtin, hs, hx, hrun, Result.andThen]
  exact hK' _ _ (hK v' w' r1 r2 r3)
end Go.Proofs.YtdcjogpkogidaaaGreatDoor.Q
end
