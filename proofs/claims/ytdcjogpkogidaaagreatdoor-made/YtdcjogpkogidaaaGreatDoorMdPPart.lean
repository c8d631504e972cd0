/- The part that a path leads to. -/
import Derived.Test.YtdcjogpkogidaaaGreatDoorMdPSplit
namespace Go.Proofs.YtdcjogpkogidaaaGreatDoor
open Go.RowKit Go.Shelf
attribute [local go_sem] Oper.semAt_some

/-- The part that steps lead to; where there is none, how many were gone. -/
def partP : PV → List Bs → Nat → Option PV × Nat
  | v, [], _ => (some v, 0)
  | v, st :: l, n => match behindP v st with
    | none => (none, n)
    | some u => partP u l (n + 1)
def goneP : PV → List Bs → Option PV
  | v, [] => some v
  | v, st :: l => (behindP v st).bind fun u => goneP u l
theorem goneP_snoc (x : Bs) : ∀ (l : List Bs) (v : PV), goneP v (l ++ [x]) = (goneP v l).bind fun u => behindP u x := by
  intro l
  induction l with
  | nil => intro v; simp [goneP]
  | cons st l ih =>
    intro v
    simp only [List.cons_append, goneP]
    rcases behindP v st with _ | u
    · rfl
    · simp only [Option.bind_some]; exact ih u
theorem partP_gone : ∀ (l m : List Bs) (v u : PV) (n : Nat), goneP v l = some u → partP v (l ++ m) n = partP u m (n + l.length) := by
  intro l
  induction l with
  | nil => intro m v u n h; simp [goneP] at h; subst h; simp
  | cons st l ih =>
    intro m v u n h
    simp only [goneP] at h
    rcases hb : behindP v st with _ | x
    · rw [hb] at h; simp at h
    · rw [hb] at h
      simp only [Option.bind_some] at h
      simp only [List.cons_append, partP, hb]
      rw [ih m x u (n + 1) h, List.length_cons]
      congr 1
      omega

/-- What Part tells. -/
def PathPost (w : World) (r : Option PV × Nat) (e : Ending) (w' : World) : Prop :=
  Fr Zero w w' ∧ ((∃ (u : PV) (c : VC) (k : Nat) (t : PT), r = (some u, 0) ∧ e = .returned (.tuple #[c.val, .int .i64 0, .bool true]) ∧ VR w Zero c u ∧ (∃ o n j, c.sv = .slice o n j) ∧ WFT k t ∧ Valid k t u) ∨ ∃ n : Nat, r = (none, n) ∧ e = .returned (.tuple #[zeroV, .int .i64 n, .bool false]))

/-- Between two rounds. -/
structure PJ (w : World) (v : PV) (b l D K : Nat) (r : Loop) (pre : List Bs) (W : World) : Prop where
  gone : ∃ (u : PV) (c : VC) (k : Nat) (t : PT), goneP v pre = some u ∧ VR w Zero c u ∧ (∃ o n j, c.sv = .slice o n j) ∧ WFT k t ∧ Valid k t u ∧ W.heap[b]? = some (.cells c.cells.toArray 96 (0, 0)) ∧ k + pre.length = K
  r4 : W.heap[b + 1]? = some (.cells #[.pointer none, .int .i64 0, .string ⟨#[]⟩, .slice none 0 0] 96 (0, 0))
  r5 : W.heap[b + 2]? = some (.cells #[.int .i64 0] 3 (0, 0))
  r6 : W.heap[b + 3]? = some (.cells #[.bool false] 4 (0, 0))
  num : W.heap[b + 4]? = some (.cells #[.int .i64 pre.length] 3 (0, 0))
  lp : W.heap[l]? = some (.loop r)
  df : W.heap[D]? = some (.deferred (some []))
  fr : Fr Zero w W

/-- A round left the loop. -/
structure PK (w : World) (v : PV) (b l D : Nat) (r : Loop) (pre : List Bs) (W : World) : Prop where
  gone : ∃ (pr : List Bs) (x : Bs) (u : PV), pre = pr ++ [x] ∧ goneP v pr = some u ∧ behindP u x = none ∧ W.heap[b + 2]? = some (.cells #[.int .i64 pr.length] 3 (0, 0))
  r4 : W.heap[b + 1]? = some (.cells #[.pointer none, .int .i64 0, .string ⟨#[]⟩, .slice none 0 0] 96 (0, 0))
  r6 : W.heap[b + 3]? = some (.cells #[.bool false] 4 (0, 0))
  lp : W.heap[l]? = some (.loop { r with state := .done, pending := some .ret })
  df : W.heap[D]? = some (.deferred (some []))
  fr : Fr Zero w W

theorem Fr.putObj {w W : World} (h : Fr Zero w W) {l : Nat} (hl : w.heap.size ≤ l) (ob : Obj) : Fr Zero w (W.putObj l ob) :=
  ⟨h.os, h.tape, h.output, by have e : (W.putObj l ob).heap.size = W.heap.size := by simp [World.putObj]
                              rw [e]; exact h.size, fun i hi hx => (World.putObj_heap_other (by omega)).trans (h.block i hi hx)⟩
theorem PJ.put {w : World} {v : PV} {b l D K : Nat} {r r' : Loop} {pre : List Bs} {W : World} (h : PJ w v b l D K r pre W) (hb : b + 4 < l) (hD : D ≠ l) (hw : w.heap.size ≤ l) : PJ w v b l D K r' pre (W.putObj l (.loop r')) := by
  have hlt : l < W.heap.size := (Array.getElem?_eq_some_iff.1 h.lp).1
  obtain ⟨u, c, k, t, h1, h2, h3, h4, h5, h6, h7⟩ := h.gone
  exact ⟨⟨u, c, k, t, h1, h2, h3, h4, h5, (World.putObj_heap_other (by omega)).trans h6, h7⟩, (World.putObj_heap_other (by omega)).trans h.r4, (World.putObj_heap_other (by omega)).trans h.r5, (World.putObj_heap_other (by omega)).trans h.r6, (World.putObj_heap_other (by omega)).trans h.num, World.putObj_heap_same hlt, (World.putObj_heap_other hD).trans h.df, h.fr.putObj hw _⟩
theorem KeepB.put {sp sv ss l : Nat} (W : World) (ob : Obj) (h1 : sp ≠ l) (h2 : sv ≠ l) (h3 : ss ≠ l) : KeepB sp sv ss W (W.putObj l ob) := ⟨World.putObj_heap_other h1, World.putObj_heap_other h2, World.putObj_heap_other h3⟩
theorem KeepB.trans {sp sv ss : Nat} {A B C : World} (h : KeepB sp sv ss A B) (k : KeepB sp sv ss B C) : KeepB sp sv ss A C := ⟨k.1.trans h.1, k.2.1.trans h.2.1, k.2.2.trans h.2.2⟩

theorem pj_next {w : World} {v u u2 : PV} {l D K k' : Nat} {t' : PT} {r : Loop} {pre : List Bs} {x : Bs} {W2 : World} {ua ea : Addr} {un en : Int} {ub eb : Bs} {uo eo : Option Addr} {uj uk ej ek sp sv ss : Nat} (hs1 : r.state = .ready) (hs2 : r.pending = none)
    (hg : goneP v pre = some u) (hsome : behindP u x = some u2) (hvr : VR w Zero ⟨ea, en, eb, .slice eo ej ek⟩ u2) (hW : WFT k' t') (hVal : Valid k' t' u2) (hk : k' + 1 + pre.length = K)
    (H4 : W2.heap[w.heap.size + 1]? = some (.cells #[.pointer none, .int .i64 0, .string ⟨#[]⟩, .slice none 0 0] 96 (0, 0))) (H5 : W2.heap[w.heap.size + 2]? = some (.cells #[.int .i64 0] 3 (0, 0))) (H6 : W2.heap[w.heap.size + 3]? = some (.cells #[.bool false] 4 (0, 0)))
    (HN : W2.heap[w.heap.size + 4]? = some (.cells #[.int .i64 pre.length] 3 (0, 0))) (HC : W2.heap[w.heap.size]? = some (.cells #[.pointer (some ua), .int .i64 un, .string (ba ub), .slice uo uj uk] 96 (0, 0)))
    (HL : W2.heap[l]? = some (.loop { r with state := .busy })) (HD : W2.heap[D]? = some (.deferred (some []))) (HF : Fr Zero w W2) (hl : w.heap.size + 4 < l) (hD : w.heap.size + 4 < D) (hDl : D ≠ l) (hb : w.heap.size + 4 < sp ∧ w.heap.size + 4 < sv ∧ w.heap.size + 4 < ss) (hbl : sp ≠ l ∧ sv ≠ l ∧ ss ≠ l) (hbs : sp < W2.heap.size ∧ sv < W2.heap.size ∧ ss < W2.heap.size) (W3 : World)
    (hW3 : W3 = (((((W2.setCell ⟨w.heap.size, 0, none⟩ (.pointer (some ea))).setCell ⟨w.heap.size, 1, none⟩ (.int .i64 en)).setCell ⟨w.heap.size, 2, none⟩ (.string (ba eb))).setCell ⟨w.heap.size, 3, none⟩ (.slice eo ej ek)).setCell ⟨w.heap.size + 4, 0, none⟩ (.int .i64 ((pre.length : Int) + 1))).alloc (.cells #[.pointer (some ea), .int .i64 en, .string (ba eb), .slice eo ej ek] 96)) :
    W3.heap[l]? = some (.loop { r with state := .busy }) ∧ PJ w v w.heap.size l D K r (pre ++ [x]) (W3.putObj l (.loop { ({ r with state := .busy } : Loop) with state := .ready, pending := none })) ∧ KeepB sp sv ss W2 (W3.putObj l (.loop { ({ r with state := .busy } : Loop) with state := .ready, pending := none })) := by
  have er : ({ ({ r with state := .busy } : Loop) with state := .ready, pending := none } : Loop) = r := by
    rw [← hs2, ← hs1]
  have hoth : ∀ i, i ≠ w.heap.size → i ≠ w.heap.size + 4 → i < W2.heap.size → W3.heap[i]? = W2.heap[i]? := fun i h1 h2 h3 => by
    rw [hW3, Below.heap_alloc _ _ _ (by simp; exact h3), Below.heap_setCell _ _ _ _ h2, heap_four_ne h1]
  have hbk : W3.heap[w.heap.size]? = some (.cells #[.pointer (some ea), .int .i64 en, .string (ba eb), .slice eo ej ek] 96 (0, 0)) := by
    have hlt := lt_of_heap HC
    rw [hW3, Below.heap_alloc _ _ _ (by simp; exact hlt), Below.heap_setCell _ _ _ _ (by show w.heap.size ≠ w.heap.size + 4; omega)]
    exact heap_four HC _ _ _ _
  have hnm : W3.heap[w.heap.size + 4]? = some (.cells #[.int .i64 ((pre ++ [x]).length : Nat)] 3 (0, 0)) := by
    have hlt := lt_of_heap HN
    rw [hW3, Below.heap_alloc _ _ _ (by simp; exact hlt), heap_setCell_same ((heap_four_ne (by omega) _ _ _ _).trans HN)]
    simp
  have hlW : l < W2.heap.size := (Array.getElem?_eq_some_iff.1 HL).1
  have hDW : D < W2.heap.size := (Array.getElem?_eq_some_iff.1 HD).1
  have e4 := lt_of_heap H4
  have e5 := lt_of_heap H5
  have e6 := lt_of_heap H6
  have hsz : W3.heap.size = W2.heap.size + 1 := by rw [hW3]; simp
  have hF3 : Fr Zero w W3 := by
    rw [hW3]
    exact ((HF.past (Fr.four (fun b => w.heap.size ≤ b) W2 w.heap.size _ _ _ _ (Nat.le_refl _))).past (Fr.setCell (fun b => w.heap.size ≤ b) _ _ _ (by show w.heap.size ≤ w.heap.size + 4; omega))).trans (Fr.alloc _ _ _)
  have hl3 : W3.heap[l]? = some (.loop { r with state := .busy }) := (hoth l (by omega) (by omega) hlW).trans HL
  refine ⟨hl3, ?_, ?_⟩
  · rw [er]
    refine ⟨⟨u2, ⟨ea, en, eb, .slice eo ej ek⟩, k', t', ?_, hvr, ⟨_, _, _, rfl⟩, hW, hVal, (World.putObj_heap_other (by omega)).trans hbk, by simp; omega⟩, (World.putObj_heap_other (by omega)).trans ((hoth _ (by omega) (by omega) e4).trans H4), (World.putObj_heap_other (by omega)).trans ((hoth _ (by omega) (by omega) e5).trans H5), (World.putObj_heap_other (by omega)).trans ((hoth _ (by omega) (by omega) e6).trans H6), (World.putObj_heap_other (by omega)).trans hnm, World.putObj_heap_same (by omega), (World.putObj_heap_other hDl).trans ((hoth _ (by omega) (by omega) hDW).trans HD), hF3.putObj (by omega) _⟩
    rw [goneP_snoc, hg]
    exact hsome
  · exact ⟨(World.putObj_heap_other hbl.1).trans (hoth _ (by omega) (by omega) hbs.1), (World.putObj_heap_other hbl.2.1).trans (hoth _ (by omega) (by omega) hbs.2.1), (World.putObj_heap_other hbl.2.2).trans (hoth _ (by omega) (by omega) hbs.2.2)⟩

theorem pk_next {w : World} {v u : PV} {l D : Nat} {r : Loop} {pre : List Bs} {x : Bs} {W2 : World} (hg : goneP v pre = some u) (hnone : behindP u x = none)
    (H4 : W2.heap[w.heap.size + 1]? = some (.cells #[.pointer none, .int .i64 0, .string ⟨#[]⟩, .slice none 0 0] 96 (0, 0))) (H5 : W2.heap[w.heap.size + 2]? = some (.cells #[.int .i64 0] 3 (0, 0))) (H6 : W2.heap[w.heap.size + 3]? = some (.cells #[.bool false] 4 (0, 0)))
    (HL : W2.heap[l]? = some (.loop { r with state := .busy })) (HD : W2.heap[D]? = some (.deferred (some []))) (HF : Fr Zero w W2) (hl : w.heap.size + 4 < l) (hD : w.heap.size + 4 < D) (hDl : D ≠ l) (A W3 : World)
    (hA : A = ((((((W2.setCell ⟨w.heap.size + 1, 0, none⟩ (.pointer none)).setCell ⟨w.heap.size + 1, 1, none⟩ (.int .i64 0)).setCell ⟨w.heap.size + 1, 2, none⟩ (.string ⟨#[]⟩)).setCell ⟨w.heap.size + 1, 3, none⟩ (.slice none 0 0)).setCell ⟨w.heap.size + 2, 0, none⟩ (.int .i64 (pre.length : Int))).setCell ⟨w.heap.size + 3, 0, none⟩ (.bool false)).alloc (.cells #[.pointer none, .int .i64 0, .string ⟨#[]⟩, .slice none 0 0] 96)) (hW3 : W3 = A.drew) :
    W3.heap[l]? = some (.loop { r with state := .busy }) ∧ PK w v w.heap.size l D r (pre ++ [x]) (W3.putObj l (.loop { ({ r with state := .busy } : Loop) with state := .done, pending := some .ret })) := by
  have hh : W3.heap = A.heap := by rw [hW3]; rfl
  have hoth : ∀ i, i ≠ w.heap.size + 1 → i ≠ w.heap.size + 2 → i ≠ w.heap.size + 3 → i < W2.heap.size → W3.heap[i]? = W2.heap[i]? := fun i h1 h2 h3 h4 => by
    rw [hh, hA, Below.heap_alloc _ _ _ (by simp; exact h4), Below.heap_setCell _ _ _ _ h3, Below.heap_setCell _ _ _ _ h2, heap_four_ne h1]
  have e4 := lt_of_heap H4
  have e5 := lt_of_heap H5
  have e6 := lt_of_heap H6
  have h4 : W3.heap[w.heap.size + 1]? = some (.cells #[.pointer none, .int .i64 0, .string ⟨#[]⟩, .slice none 0 0] 96 (0, 0)) := by
    rw [hh, hA, Below.heap_alloc _ _ _ (by simp; exact e4), Below.heap_setCell _ _ _ _ (by show w.heap.size + 1 ≠ w.heap.size + 3; omega), Below.heap_setCell _ _ _ _ (by show w.heap.size + 1 ≠ w.heap.size + 2; omega)]
    exact heap_four H4 _ _ _ _
  have h5 : W3.heap[w.heap.size + 2]? = some (.cells #[.int .i64 (pre.length : Nat)] 3 (0, 0)) := by
    rw [hh, hA, Below.heap_alloc _ _ _ (by simp; exact e5), Below.heap_setCell _ _ _ _ (by show w.heap.size + 2 ≠ w.heap.size + 3; omega), heap_setCell_same ((heap_four_ne (by omega) _ _ _ _).trans H5)]
    rfl
  have h6 : W3.heap[w.heap.size + 3]? = some (.cells #[.bool false] 4 (0, 0)) := by
    rw [hh, hA, Below.heap_alloc _ _ _ (by simp; exact e6), heap_setCell_same ((Below.heap_setCell _ _ _ _ (by show w.heap.size + 3 ≠ w.heap.size + 2; omega)).trans ((heap_four_ne (by omega) _ _ _ _).trans H6))]
    rfl
  have hlW : l < W2.heap.size := (Array.getElem?_eq_some_iff.1 HL).1
  have hDW : D < W2.heap.size := (Array.getElem?_eq_some_iff.1 HD).1
  have hsz : W3.heap.size = W2.heap.size + 1 := by
    rw [hh, hA]
    simp
  have hF3 : Fr Zero w W3 := by
    rw [hW3, hA]
    exact ((((HF.past (Fr.four (fun b => w.heap.size ≤ b) W2 (w.heap.size + 1) _ _ _ _ (Nat.le_succ _))).past (Fr.setCell (fun b => w.heap.size ≤ b) _ _ _ (by show w.heap.size ≤ w.heap.size + 2; omega))).past (Fr.setCell (fun b => w.heap.size ≤ b) _ _ _ (by show w.heap.size ≤ w.heap.size + 3; omega))).trans (Fr.alloc _ _ _)).trans (Fr.drew _ _)
  have hl3 : W3.heap[l]? = some (.loop { r with state := .busy }) := (hoth l (by omega) (by omega) (by omega) hlW).trans HL
  exact ⟨hl3, ⟨⟨pre, x, u, rfl, hg, hnone, (World.putObj_heap_other (by omega)).trans h5⟩, (World.putObj_heap_other (by omega)).trans h4, (World.putObj_heap_other (by omega)).trans h6, World.putObj_heap_same (by omega), (World.putObj_heap_other hDl).trans ((hoth _ (by omega) (by omega) (by omega) hDW).trans HD), hF3.putObj (by omega) _⟩⟩

theorem part_out {w W3 : World} {D : Nat} {y0 y1 y2 y3 z0 z1 x0 x1 x2 x3 y z : Value} (H4 : W3.heap[w.heap.size + 1]? = some (.cells #[y0, y1, y2, y3] 96 (0, 0))) (H5 : W3.heap[w.heap.size + 2]? = some (.cells #[z0] 3 (0, 0))) (H6 : W3.heap[w.heap.size + 3]? = some (.cells #[z1] 4 (0, 0))) (HD : W3.heap[D]? = some (.deferred (some []))) (hD : w.heap.size + 4 < D) (HF : Fr Zero w W3) (W4 : World)
    (hW4 : W4 = (((((W3.setCell ⟨w.heap.size + 1, 0, none⟩ x0).setCell ⟨w.heap.size + 1, 1, none⟩ x1).setCell ⟨w.heap.size + 1, 2, none⟩ x2).setCell ⟨w.heap.size + 1, 3, none⟩ x3).setCell ⟨w.heap.size + 2, 0, none⟩ y).setCell ⟨w.heap.size + 3, 0, none⟩ z) :
    W4.heap[D]? = some (.deferred (some [])) ∧ W4.heap[w.heap.size + 1]? = some (.cells #[x0, x1, x2, x3] 96 (0, 0)) ∧ W4.heap[w.heap.size + 2]? = some (.cells #[y] 3 (0, 0)) ∧ W4.heap[w.heap.size + 3]? = some (.cells #[z] 4 (0, 0)) ∧ Fr Zero w W4 := by
  refine ⟨?_, ?_, ?_, ?_, ?_⟩
  · rw [hW4, Below.heap_setCell _ _ _ _ (by show D ≠ w.heap.size + 3; omega), Below.heap_setCell _ _ _ _ (by show D ≠ w.heap.size + 2; omega), heap_four_ne (by omega)]
    exact HD
  · rw [hW4, Below.heap_setCell _ _ _ _ (by show w.heap.size + 1 ≠ w.heap.size + 3; omega), Below.heap_setCell _ _ _ _ (by show w.heap.size + 1 ≠ w.heap.size + 2; omega)]
    exact heap_four H4 _ _ _ _
  · rw [hW4, Below.heap_setCell _ _ _ _ (by show w.heap.size + 2 ≠ w.heap.size + 3; omega), heap_setCell_same ((heap_four_ne (by omega) _ _ _ _).trans H5)]
    rfl
  · rw [hW4, heap_setCell_same ((Below.heap_setCell _ _ _ _ (by show w.heap.size + 3 ≠ w.heap.size + 2; omega)).trans ((heap_four_ne (by omega) _ _ _ _).trans H6))]
    rfl
  · rw [hW4]
    exact ((HF.past (Fr.four (fun b => w.heap.size ≤ b) W3 (w.heap.size + 1) _ _ _ _ (Nat.le_succ _))).past (Fr.setCell (fun b => w.heap.size ≤ b) _ _ _ (by show w.heap.size ≤ w.heap.size + 2; omega))).past (Fr.setCell (fun b => w.heap.size ≤ b) _ _ _ (by show w.heap.size ≤ w.heap.size + 3; omega))

set_option maxHeartbeats 16000000 in
set_option maxRecDepth 100000 in
theorem path_any (w : World) (c : VC) (v : PV) (k : Nat) (t : PT) (hV : VR w Zero c v) (hc : ∃ o n j, c.sv = .slice o n j) (hW : WFT k t) (hVal : Valid k t v) (hP : PowT w) (hK9 : k ≤ 100000) (path : ByteArray) (hne : path ≠ ⟨#[]⟩) (hpl : path.size ≤ 9223372036854775807) :
    Calls Tryz.prog 42 #[c.val, .string path] w fun e w' => PathPost w (partP v (splitP path.data.toList) 0) e w' := by
  obtain ⟨ca, cn, cb, csv⟩ := c
  obtain ⟨o, nn, jj, hs⟩ := hc
  simp only at hs
  subst hs
  have HV := hide hV
  have HW := hide hW
  have HVal := hide hVal
  have HP := hide hP
  have hpe2 : path.toList.isEmpty = false := by
    cases hq : path.toList with
    | nil =>
      rw [ByteArray.toList_eq] at hq
      exact absurd (bytes_data (by rw [hq])) hne
    | cons x l => rfl
  clear hV hW hVal hP
  simp only [VC.val]
  refine (callsIn_wide (n := 3)).1 ?_
  refine callsIn_of_wp_marks Tryz.func42 rfl trivial ?_ rfl
  simp only [Tryz.ntmps42, List.size_toArray, List.length_cons, List.length_nil, Nat.reduceAdd, Nat.reduceSub, Array.replicate_succ, Array.replicate_zero, List.push_toArray, List.append_toArray, List.nil_append, List.cons_append]
  have HF5 : Hid (Fr Zero w (((((w.alloc (.cells #[.pointer (some ca), .int .i64 cn, .string (ba cb), .slice o nn jj] 96)).alloc (.cells #[.pointer none, .int .i64 0, .string ⟨#[]⟩, .slice none 0 0] 96)).alloc (.cells #[.int .i64 0] 3)).alloc (.cells #[.bool false] 4)).alloc (.cells #[.int .i64 0] 3))) := ((((Fr.alloc _ _ _).trans (Fr.alloc _ _ _)).trans (Fr.alloc _ _ _)).trans (Fr.alloc _ _ _)).trans (Fr.alloc _ _ _)
  have HO0 : Hid ((((((w.alloc (.cells #[.pointer (some ca), .int .i64 cn, .string (ba cb), .slice o nn jj] 96)).alloc (.cells #[.pointer none, .int .i64 0, .string ⟨#[]⟩, .slice none 0 0] 96)).alloc (.cells #[.int .i64 0] 3)).alloc (.cells #[.bool false] 4)).alloc (.cells #[.int .i64 0] 3)).heap[w.heap.size + 0]? = some (.cells #[.pointer (some ca), .int .i64 cn, .string (ba cb), .slice o nn jj] 96 (0, 0))) := (Below.heap_alloc _ _ _ (by simp <;> omega)).trans ((Below.heap_alloc _ _ _ (by simp <;> omega)).trans ((Below.heap_alloc _ _ _ (by simp <;> omega)).trans ((Below.heap_alloc _ _ _ (by simp <;> omega)).trans (heap_new_at (by simp) _))))
  have HO1 : Hid ((((((w.alloc (.cells #[.pointer (some ca), .int .i64 cn, .string (ba cb), .slice o nn jj] 96)).alloc (.cells #[.pointer none, .int .i64 0, .string ⟨#[]⟩, .slice none 0 0] 96)).alloc (.cells #[.int .i64 0] 3)).alloc (.cells #[.bool false] 4)).alloc (.cells #[.int .i64 0] 3)).heap[w.heap.size + 1]? = some (.cells #[.pointer none, .int .i64 0, .string ⟨#[]⟩, .slice none 0 0] 96 (0, 0))) := (Below.heap_alloc _ _ _ (by simp <;> omega)).trans ((Below.heap_alloc _ _ _ (by simp <;> omega)).trans ((Below.heap_alloc _ _ _ (by simp <;> omega)).trans (heap_new_at (by simp) _)))
  have HO2 : Hid ((((((w.alloc (.cells #[.pointer (some ca), .int .i64 cn, .string (ba cb), .slice o nn jj] 96)).alloc (.cells #[.pointer none, .int .i64 0, .string ⟨#[]⟩, .slice none 0 0] 96)).alloc (.cells #[.int .i64 0] 3)).alloc (.cells #[.bool false] 4)).alloc (.cells #[.int .i64 0] 3)).heap[w.heap.size + 2]? = some (.cells #[.int .i64 0] 3 (0, 0))) := (Below.heap_alloc _ _ _ (by simp <;> omega)).trans ((Below.heap_alloc _ _ _ (by simp <;> omega)).trans (heap_new_at (by simp) _))
  have HO3 : Hid ((((((w.alloc (.cells #[.pointer (some ca), .int .i64 cn, .string (ba cb), .slice o nn jj] 96)).alloc (.cells #[.pointer none, .int .i64 0, .string ⟨#[]⟩, .slice none 0 0] 96)).alloc (.cells #[.int .i64 0] 3)).alloc (.cells #[.bool false] 4)).alloc (.cells #[.int .i64 0] 3)).heap[w.heap.size + 3]? = some (.cells #[.bool false] 4 (0, 0))) := (Below.heap_alloc _ _ _ (by simp <;> omega)).trans (heap_new_at (by simp) _)
  have HO4 : Hid ((((((w.alloc (.cells #[.pointer (some ca), .int .i64 cn, .string (ba cb), .slice o nn jj] 96)).alloc (.cells #[.pointer none, .int .i64 0, .string ⟨#[]⟩, .slice none 0 0] 96)).alloc (.cells #[.int .i64 0] 3)).alloc (.cells #[.bool false] 4)).alloc (.cells #[.int .i64 0] 3)).heap[w.heap.size + 4]? = some (.cells #[.int .i64 0] 3 (0, 0))) := heap_new_at (by simp) _
  have hs5 : (((((w.alloc (.cells #[.pointer (some ca), .int .i64 cn, .string (ba cb), .slice o nn jj] 96)).alloc (.cells #[.pointer none, .int .i64 0, .string ⟨#[]⟩, .slice none 0 0] 96)).alloc (.cells #[.int .i64 0] 3)).alloc (.cells #[.bool false] 4)).alloc (.cells #[.int .i64 0] 3)).heap.size = w.heap.size + 5 := by simp
  gi_wp2
  generalize ((((w.alloc (.cells #[.pointer (some ca), .int .i64 cn, .string (ba cb), .slice o nn jj] 96)).alloc (.cells #[.pointer none, .int .i64 0, .string ⟨#[]⟩, .slice none 0 0] 96)).alloc (.cells #[.int .i64 0] 3)).alloc (.cells #[.bool false] 4)).alloc (.cells #[.int .i64 0] 3) = w5 at *
  refine ⟨trivial, (callsIn_wide.2 (SplitSeq_any path w5)).mono ?_⟩
  rintro e w6 ⟨rfl, hF6, hB6⟩
  rw [hs5]
  rw [hs5] at hB6
  have HF6 := hide (HF5.out.trans hF6)
  have HB6 := hide hB6
  have hs6 := hF6.size
  have HX0 := hide (hF6.keep HO0.out (fun h => h))
  have HX1 := hide (hF6.keep HO1.out (fun h => h))
  have HX2 := hide (hF6.keep HO2.out (fun h => h))
  have HX3 := hide (hF6.keep HO3.out (fun h => h))
  have HX4 := hide (hF6.keep HO4.out (fun h => h))
  have hb6 := lt_of_heap hB6.s
  clear hF6 hB6 HF5 HO0 HO1 HO2 HO3 HO4
  gi_wp2
  refine loop_in rfl (by omega) rfl trivial (enters_of Tryz.func179 (by kernel_rfl) rfl) ?_
  intro r g1 g2 g3 g4 g5 g6 g7
  have hA7 : Fr Zero w6 ((w6.alloc (.deferred (some []))).alloc (.loop r)) := (Fr.alloc _ _ _).trans (Fr.alloc _ _ _)
  have HL7 : Hid (((w6.alloc (.deferred (some []))).alloc (.loop r)).heap[w6.heap.size + 1]? = some (.loop r)) := by
    have := World.alloc_heap_new (w6.alloc (.deferred (some []))) (.loop r)
    rwa [World.size_alloc] at this
  have HD7 : Hid (((w6.alloc (.deferred (some []))).alloc (.loop r)).heap[w6.heap.size]? = some (.deferred (some []))) := (Below.heap_alloc _ _ _ (by simp)).trans (World.alloc_heap_new w6 _)
  have HJ7 : Hid (PJ w v w.heap.size (w6.heap.size + 1) w6.heap.size k r [] ((w6.alloc (.deferred (some []))).alloc (.loop r))) :=
    ⟨⟨v, ⟨ca, cn, cb, .slice o nn jj⟩, k, t, rfl, HV.out, ⟨_, _, _, rfl⟩, HW.out, HVal.out, hA7.keep HX0.out (fun h => h), rfl⟩, hA7.keep HX1.out (fun h => h), hA7.keep HX2.out (fun h => h), hA7.keep HX3.out (fun h => h), hA7.keep HX4.out (fun h => h), HL7.out, HD7.out, HF6.out.trans hA7⟩
  have HB7 : Hid (Boxes ((w6.alloc (.deferred (some []))).alloc (.loop r)) (w.heap.size + 5 + 1) (w.heap.size + 5) (w.heap.size + 5 + 2) path.data.toList) := ⟨hA7.keep HB6.out.p (fun h => h), hA7.keep HB6.out.v (fun h => h), hA7.keep HB6.out.s (fun h => h)⟩
  clear hA7 HL7 HD7 HX0 HX1 HX2 HX3 HX4 HB6 HF6
  generalize (w6.alloc (.deferred (some []))).alloc (.loop r) = w7 at *
  refine (callsIn_wide.2 (callsIn_wide.1 (split1_in (w6.heap.size + 1) (w.heap.size + 5 + 1) (w.heap.size + 5) (w.heap.size + 5 + 2) (by omega) (by omega) path.data.toList (by rw [Array.length_toList]; exact hpl) (PJ w v w.heap.size (w6.heap.size + 1) w6.heap.size k r) (PK w v w.heap.size (w6.heap.size + 1) w6.heap.size r) ?hY ?hJ w7 HB7.out HJ7.out))).mono ?fin
  case hJ =>
    intro pre W u h
    have hS : ∀ i, i ≠ w.heap.size + 5 → (W.setCell ⟨w.heap.size + 5, 0, none⟩ u).heap[i]? = W.heap[i]? := fun i hi => Below.heap_setCell _ _ _ _ hi
    obtain ⟨u', c', k', t', h1, h2, h3, h4, h5, h6, h7⟩ := h.gone
    exact ⟨⟨u', c', k', t', h1, h2, h3, h4, h5, (hS _ (by omega)).trans h6, h7⟩, (hS _ (by omega)).trans h.r4, (hS _ (by omega)).trans h.r5, (hS _ (by omega)).trans h.r6, (hS _ (by omega)).trans h.num, (hS _ (by omega)).trans h.lp, (hS _ (by omega)).trans h.df, h.fr.past (Fr.setCell (fun b => w.heap.size ≤ b) _ _ _ (by show w.heap.size ≤ w.heap.size + 5; omega))⟩
  case hY =>
    intro pre x W h
    have HH := hide h
    refine loop_round h.lp (by rw [g4]; rfl) g7 ?_
    rw [g3, g4, g5, g6]
    have HP2 := hide (h.put (r' := { r with state := .busy }) (by omega) (by omega) (by omega))
    have HKB := hide (KeepB.put W (.loop { r with state := .busy }) (l := w6.heap.size + 1) (sp := w.heap.size + 5 + 1) (sv := w.heap.size + 5) (ss := w.heap.size + 5 + 2) (by omega) (by omega) (by omega))
    have HBR := hide (run_beginRound (P := Tryz.prog) h.lp g1)
    obtain ⟨u, ⟨ua, un, ub, usv⟩, k', t', hg, hvr, ⟨uo, uj, uk, hus⟩, hw', hv', hcell, hkk⟩ := HP2.out.gone
    simp only at hus
    subst hus
    have HG := hide hg
    have HVR := hide hvr
    have HW' := hide hw'
    have HV' := hide hv'
    have HG1 := hide g1
    have HG2 := hide g2
    clear h hg hvr hw' hv' g1 g2 g3 g4 g5 g6
    refine (fun (hA : ∀ KK : Act → World → Prop, KK _ W → Code.wpIn (Fence.wide.inRound (w6.heap.size + 1)) 0 Tryz.prog _ (Exit.then KK (fun _ _ _ => False)) _ W) => hA _ ?_) (fun KK hKK => by gi_wp2; exact hKK)
    refine ⟨_, HBR.out, ?_⟩
    clear HBR
    generalize W.putObj (w6.heap.size + 1) (.loop { r with state := .busy }) = W1 at *
    have b0 : W1.cell? ⟨w.heap.size, 0, none⟩ = some (.pointer (some ua)) := by rw [cell_of_heap hcell]; rfl
    have b1 : W1.cell? ⟨w.heap.size, 1, none⟩ = some (.int .i64 un) := by rw [cell_of_heap hcell]; rfl
    have b2 : W1.cell? ⟨w.heap.size, 2, none⟩ = some (.string (ba ub)) := by rw [cell_of_heap hcell]; rfl
    have b3 : W1.cell? ⟨w.heap.size, 3, none⟩ = some (.slice uo uj uk) := by rw [cell_of_heap hcell]; rfl
    have HC := hide hcell
    clear hcell
    obtain ⟨hso, hsl, hkid⟩ := HV'.out.stepOk HW'.out
    have HSO := hide hso
    have HKD := hide hkid
    clear hso hkid
    gi_wp2
    refine ⟨trivial, rfl, (CallsIn.inRound (w6.heap.size + 1) (callsIn_wide.2 (behind_any w W1 HP2.out.fr ⟨ua, un, ub, .slice uo uj uk⟩ u HVR.out HP.out HSO.out (by omega) (ba x)))).mono ?_⟩
    rintro e W2 ⟨hF2, hcs⟩
    rw [ba_list] at hcs
    have HF2 := hide hF2
    have H4 := hide (hF2.keep HP2.out.r4 (fun h => h))
    have H5 := hide (hF2.keep HP2.out.r5 (fun h => h))
    have H6 := hide (hF2.keep HP2.out.r6 (fun h => h))
    have HN := hide (hF2.keep HP2.out.num (fun h => h))
    have HC2 := hide (hF2.keep HC.out (fun h => h))
    have HLP : Hid (W2.heap[w6.heap.size + 1]? = some (.loop { r with state := .busy })) := (hF2.block _ (Array.getElem?_eq_some_iff.1 HP2.out.lp).1 (fun h => h)).trans HP2.out.lp
    have HDF : Hid (W2.heap[w6.heap.size]? = some (.deferred (some []))) := (hF2.block _ (Array.getElem?_eq_some_iff.1 HP2.out.df).1 (fun h => h)).trans HP2.out.df
    have HFW := hide (HP2.out.fr.trans hF2)
    clear b0 b1 b2 b3 hF2
    rcases hcs with ⟨hnone, rfl⟩ | ⟨u2, c2, hsome, hmem, rfl, hvr2, hsl2⟩
    · have n0 : W2.cell? ⟨w.heap.size + 1 + 1 + 1 + 1, 0, none⟩ = some (.int .i64 pre.length) := by rw [cell_of_heap HN.out]; rfl
      have r0 : W2.cell? ⟨w.heap.size + 1, 0, none⟩ = some (.pointer none) := by rw [cell_of_heap H4.out]; rfl
      have r1 : W2.cell? ⟨w.heap.size + 1, 1, none⟩ = some (.int .i64 0) := by rw [cell_of_heap H4.out]; rfl
      have r2 : W2.cell? ⟨w.heap.size + 1, 2, none⟩ = some (.string ⟨#[]⟩) := by rw [cell_of_heap H4.out]; rfl
      have r3 : W2.cell? ⟨w.heap.size + 1, 3, none⟩ = some (.slice none 0 0) := by rw [cell_of_heap H4.out]; rfl
      have r5 : W2.cell? ⟨w.heap.size + 1 + 1, 0, none⟩ = some (.int .i64 0) := by rw [cell_of_heap H5.out]; rfl
      have r6 : W2.cell? ⟨w.heap.size + 1 + 1 + 1, 0, none⟩ = some (.bool false) := by rw [cell_of_heap H6.out]; rfl
      have rf : ∀ i, W2.frozen? ⟨w.heap.size + 1, i, none⟩ = false := fun i => free_of_heap H4.out
      have rf0 := rf 0
      have rf1 := rf 1
      have rf2 := rf 2
      have rf3 := rf 3
      have rf5 : W2.frozen? ⟨w.heap.size + 1 + 1, 0, none⟩ = false := free_of_heap H5.out
      have rf6 : W2.frozen? ⟨w.heap.size + 1 + 1 + 1, 0, none⟩ = false := free_of_heap H6.out
      have hnl : w.heap.size + 1 + 1 + 1 + 1 < W2.heap.size := lt_of_heap HN.out
      have hn4 : w.heap.size + 1 < W2.heap.size := lt_of_heap H4.out
      have hn5 : w.heap.size + 1 + 1 < W2.heap.size := lt_of_heap H5.out
      have hn6 : w.heap.size + 1 + 1 + 1 < W2.heap.size := lt_of_heap H6.out
      have HNO := hide hnone
      clear hnone rf
      unfold zeroV
      gi_wp2
      have hmx : Tryz.prog.follows .mixedOrders = true := by kernel_rfl
      gi_region_with_o (fail)
      all_goals gi_wp2
      all_goals
        obtain ⟨q1, q2⟩ := pk_next (x := x) HG.out HNO.out H4.out H5.out H6.out HLP.out HDF.out HFW.out (by omega) (by omega) (by omega) _ _ rfl rfl
        exact ⟨_, _, run_endRound (some .ret) q1, .inr ⟨rfl, q2⟩⟩
    · have n0 : W2.cell? ⟨w.heap.size + 1 + 1 + 1 + 1, 0, none⟩ = some (.int .i64 pre.length) := by rw [cell_of_heap HN.out]; rfl
      have nf : W2.frozen? ⟨w.heap.size + 1 + 1 + 1 + 1, 0, none⟩ = false := free_of_heap HN.out
      have cf : ∀ i, W2.frozen? ⟨w.heap.size, i, none⟩ = false := fun i => free_of_heap HC2.out
      have cf0 := cf 0
      have cf1 := cf 1
      have cf2 := cf 2
      have cf3 := cf 3
      have d0 : W2.cell? ⟨w.heap.size, 0, none⟩ = some (.pointer (some ua)) := by rw [cell_of_heap HC2.out]; rfl
      have d1 : W2.cell? ⟨w.heap.size, 1, none⟩ = some (.int .i64 un) := by rw [cell_of_heap HC2.out]; rfl
      have d2 : W2.cell? ⟨w.heap.size, 2, none⟩ = some (.string (ba ub)) := by rw [cell_of_heap HC2.out]; rfl
      have d3 : W2.cell? ⟨w.heap.size, 3, none⟩ = some (.slice uo uj uk) := by rw [cell_of_heap HC2.out]; rfl
      have hwl : w.heap.size < W2.heap.size := lt_of_heap HC2.out
      have hnl : w.heap.size + 1 + 1 + 1 + 1 < W2.heap.size := lt_of_heap HN.out
      obtain ⟨ea, en, eb, esv⟩ := c2
      obtain ⟨eo, ej, ek, hes⟩ := hsl2
      simp only at hes
      subst hes
      have HS := hide hsome
      have HM := hide hmem
      have HE2 := hide hvr2
      clear hsome hmem hvr2 cf
      simp only [VC.val]
      have hprl : (pre.length : Int) ≤ 100000 := by omega
      obtain ⟨t2, hw2, hv2⟩ := HKD.out u2 HM.out
      have HWA := hide hw2
      have HVA := hide hv2
      have hk1 : 1 ≤ k' := by
        rcases k' with _ | k'
        · exact HW'.out.elim
        · omega
      have hz1 : w6.heap.size < W1.heap.size := (Array.getElem?_eq_some_iff.1 HP2.out.df).1
      have hz2 := HF2.out.size
      clear hw2 hv2
      gi_wp2
      obtain ⟨q1, q2, q3⟩ := pj_next (K := k) (k' := k' - 1) (sp := w.heap.size + 5 + 1) (sv := w.heap.size + 5) (ss := w.heap.size + 5 + 2) HG1.out HG2.out HG.out HS.out HE2.out HWA.out HVA.out (by omega) H4.out H5.out H6.out HN.out HC2.out HLP.out HDF.out HFW.out (by omega) (by omega) (by omega) (by omega) (by omega) (by omega) _ rfl
      refine ⟨_, _, run_endRound none q1, .inl ⟨rfl, q2, HKB.out.trans (KeepB.trans ⟨HF2.out.block _ (by omega) (fun h => h), HF2.out.block _ (by omega) (fun h => h), HF2.out.block _ (by omega) (fun h => h)⟩ q3)⟩⟩
  case fin =>
    rintro e W2 ⟨⟨vv, rfl⟩, hJ | ⟨pre, hpre, hK⟩⟩
    · have hE := run_endLoop (P := Tryz.prog) hJ.lp (by rw [g1]; simp)
      rw [g2] at hE
      refine ⟨none, _, hE, ?_⟩
      have HQ : Hid (PJ w v w.heap.size (w6.heap.size + 1) w6.heap.size k { r with state := .exhausted, pending := none } (splitP path.data.toList) (W2.putObj (w6.heap.size + 1) (.loop { r with state := .exhausted, pending := none }))) := hJ.put (by omega) (by omega) (by omega)
      clear hE g1 g2 g3 g4 g5 g6 g7
      generalize W2.putObj (w6.heap.size + 1) (.loop { r with state := .exhausted, pending := none }) = W3 at *
      obtain ⟨u, ⟨ua, un, ub, usv⟩, k', t', hg, hvr, ⟨uo, uj, uk, hus⟩, hw', hv', hcell, hkk⟩ := HQ.out.gone
      simp only at hus
      subst hus
      have HPP : Hid (partP v (splitP path.data.toList) 0 = (some u, 0)) := by
        show _ = _
        have := partP_gone (splitP path.data.toList) [] v u 0 hg
        rw [List.append_nil] at this
        rw [this]
        rfl
      have HVR := hide hvr
      have HWW := hide hw'
      have HVV := hide hv'
      have d0 : W3.cell? ⟨w.heap.size, 0, none⟩ = some (.pointer (some ua)) := by rw [cell_of_heap hcell]; rfl
      have d1 : W3.cell? ⟨w.heap.size, 1, none⟩ = some (.int .i64 un) := by rw [cell_of_heap hcell]; rfl
      have d2 : W3.cell? ⟨w.heap.size, 2, none⟩ = some (.string (ba ub)) := by rw [cell_of_heap hcell]; rfl
      have d3 : W3.cell? ⟨w.heap.size, 3, none⟩ = some (.slice uo uj uk) := by rw [cell_of_heap hcell]; rfl
      have r0 : W3.cell? ⟨w.heap.size + 1, 0, none⟩ = some (.pointer none) := by rw [cell_of_heap HQ.out.r4]; rfl
      have r1 : W3.cell? ⟨w.heap.size + 1, 1, none⟩ = some (.int .i64 0) := by rw [cell_of_heap HQ.out.r4]; rfl
      have r2 : W3.cell? ⟨w.heap.size + 1, 2, none⟩ = some (.string ⟨#[]⟩) := by rw [cell_of_heap HQ.out.r4]; rfl
      have r3 : W3.cell? ⟨w.heap.size + 1, 3, none⟩ = some (.slice none 0 0) := by rw [cell_of_heap HQ.out.r4]; rfl
      have r5 : W3.cell? ⟨w.heap.size + 1 + 1, 0, none⟩ = some (.int .i64 0) := by rw [cell_of_heap HQ.out.r5]; rfl
      have r6 : W3.cell? ⟨w.heap.size + 1 + 1 + 1, 0, none⟩ = some (.bool false) := by rw [cell_of_heap HQ.out.r6]; rfl
      have rf : ∀ i, W3.frozen? ⟨w.heap.size + 1, i, none⟩ = false := fun i => free_of_heap HQ.out.r4
      have rf0 := rf 0
      have rf1 := rf 1
      have rf2 := rf 2
      have rf3 := rf 3
      have rf5 : W3.frozen? ⟨w.heap.size + 1 + 1, 0, none⟩ = false := free_of_heap HQ.out.r5
      have rf6 : W3.frozen? ⟨w.heap.size + 1 + 1 + 1, 0, none⟩ = false := free_of_heap HQ.out.r6
      clear hg hvr hw' hv' hcell rf
      gi_wp2
      obtain ⟨q1, q2, q3, q4, q5⟩ := part_out (x0 := .pointer (some ua)) (x1 := .int .i64 un) (x2 := .string (ba ub)) (x3 := .slice uo uj uk) (y := .int .i64 0) (z := .bool true) HQ.out.r4 HQ.out.r5 HQ.out.r6 HQ.out.df (by omega) HQ.out.fr _ rfl
      have HQ1 := hide q1
      have HQ2 := hide q2
      have HQ3 := hide q3
      have HQ4 := hide q4
      have HQ5 := hide q5
      clear q1 q2 q3 q4 q5 d0 d1 d2 d3 r0 r1 r2 r3 r5 r6 rf0 rf1 rf2 rf3 rf5 rf6
      generalize (((((W3.setCell ⟨w.heap.size + 1, 0, none⟩ (.pointer (some ua))).setCell ⟨w.heap.size + 1, 1, none⟩ (.int .i64 un)).setCell ⟨w.heap.size + 1, 2, none⟩ (.string (ba ub))).setCell ⟨w.heap.size + 1, 3, none⟩ (.slice uo uj uk)).setCell ⟨w.heap.size + 2, 0, none⟩ (.int .i64 0)).setCell ⟨w.heap.size + 3, 0, none⟩ (.bool true) = W4 at *
      refine ⟨by simp, .inl ⟨_, _, rfl, run_takeDeferred HQ1.out, ?_⟩⟩
      have h1 : (W4.putObj w6.heap.size (.deferred none)).heap[w.heap.size + 1]? = _ := (World.putObj_heap_other (by omega)).trans HQ2.out
      have h2 : (W4.putObj w6.heap.size (.deferred none)).heap[w.heap.size + 2]? = _ := (World.putObj_heap_other (by omega)).trans HQ3.out
      have h3 : (W4.putObj w6.heap.size (.deferred none)).heap[w.heap.size + 3]? = _ := (World.putObj_heap_other (by omega)).trans HQ4.out
      have HFE := hide (HQ5.out.putObj (l := w6.heap.size) (by omega) (.deferred none))
      generalize W4.putObj w6.heap.size (.deferred none) = W5 at *
      have c0 := cell_of_heap (o := 0) h1
      have c1 := cell_of_heap (o := 1) h1
      have c2 := cell_of_heap (o := 2) h1
      have c3 := cell_of_heap (o := 3) h1
      have c4 : W5.cell? ⟨w.heap.size + 1 + 1, 0, none⟩ = _ := cell_of_heap (o := 0) h2
      have c5 : W5.cell? ⟨w.heap.size + 1 + 1 + 1, 0, none⟩ = _ := cell_of_heap (o := 0) h3
      refine ⟨.tuple #[.agg #[.pointer (some ua), .int .i64 un, .string (ba ub), .slice uo uj uk], .int .i64 0, .bool true], ?_, HFE.out, .inl ⟨u, ⟨ua, un, ub, .slice uo uj uk⟩, k', t', HPP.out, rfl, HVR.out, ⟨_, _, _, rfl⟩, HWW.out, HVV.out⟩⟩
      rw [results_cells3 rfl]
      go_simp
      try rfl
    · have hE := run_endLoop (P := Tryz.prog) hK.lp (by simp)
      refine ⟨some .ret, _, hE, ?_⟩
      obtain ⟨pr, x, u, hpr, hg, hno, h5⟩ := hK.gone
      have HPP : Hid (partP v (splitP path.data.toList) 0 = (none, pr.length)) := by
        obtain ⟨m, hm⟩ := hpre
        show _ = _
        rw [← hm, hpr, List.append_assoc, partP_gone pr _ v u 0 hg]
        simp only [List.cons_append, List.nil_append, partP, hno]
        simp
      have hlt : w6.heap.size + 1 < W2.heap.size := (Array.getElem?_eq_some_iff.1 hK.lp).1
      have HQ1 : Hid ((W2.putObj (w6.heap.size + 1) (.loop { ({ r with state := .done, pending := some .ret } : Loop) with state := .exhausted })).heap[w6.heap.size]? = some (.deferred (some []))) := (World.putObj_heap_other (by omega)).trans hK.df
      have HQ2 : Hid ((W2.putObj (w6.heap.size + 1) (.loop { ({ r with state := .done, pending := some .ret } : Loop) with state := .exhausted })).heap[w.heap.size + 1]? = _) := (World.putObj_heap_other (by omega)).trans hK.r4
      have HQ3 : Hid ((W2.putObj (w6.heap.size + 1) (.loop { ({ r with state := .done, pending := some .ret } : Loop) with state := .exhausted })).heap[w.heap.size + 2]? = _) := (World.putObj_heap_other (by omega)).trans h5
      have HQ4 : Hid ((W2.putObj (w6.heap.size + 1) (.loop { ({ r with state := .done, pending := some .ret } : Loop) with state := .exhausted })).heap[w.heap.size + 3]? = _) := (World.putObj_heap_other (by omega)).trans hK.r6
      have HQ5 := hide (hK.fr.putObj (l := w6.heap.size + 1) (by omega) (.loop { ({ r with state := .done, pending := some .ret } : Loop) with state := .exhausted }))
      clear hE hpr hg hno h5 hpre hK g1 g2 g3 g4 g5 g6 g7
      generalize W2.putObj (w6.heap.size + 1) (.loop { ({ r with state := .done, pending := some .ret } : Loop) with state := .exhausted }) = W4 at *
      simp only
      gi_wp2
      refine ⟨by simp, .inl ⟨_, _, rfl, run_takeDeferred HQ1.out, ?_⟩⟩
      have h1 : (W4.putObj w6.heap.size (.deferred none)).heap[w.heap.size + 1]? = _ := (World.putObj_heap_other (by omega)).trans HQ2.out
      have h2 : (W4.putObj w6.heap.size (.deferred none)).heap[w.heap.size + 2]? = _ := (World.putObj_heap_other (by omega)).trans HQ3.out
      have h3 : (W4.putObj w6.heap.size (.deferred none)).heap[w.heap.size + 3]? = _ := (World.putObj_heap_other (by omega)).trans HQ4.out
      have HFE := hide (HQ5.out.putObj (l := w6.heap.size) (by omega) (.deferred none))
      generalize W4.putObj w6.heap.size (.deferred none) = W5 at *
      have c0 := cell_of_heap (o := 0) h1
      have c1 := cell_of_heap (o := 1) h1
      have c2 := cell_of_heap (o := 2) h1
      have c3 := cell_of_heap (o := 3) h1
      have c4 : W5.cell? ⟨w.heap.size + 1 + 1, 0, none⟩ = _ := cell_of_heap (o := 0) h2
      have c5 : W5.cell? ⟨w.heap.size + 1 + 1 + 1, 0, none⟩ = _ := cell_of_heap (o := 0) h3
      refine ⟨.tuple #[zeroV, .int .i64 pr.length, .bool false], ?_, HFE.out, .inr ⟨pr.length, HPP.out, rfl⟩⟩
      rw [results_cells3 rfl]
      unfold zeroV
      go_simp
      try rfl

end Go.Proofs.YtdcjogpkogidaaaGreatDoor
