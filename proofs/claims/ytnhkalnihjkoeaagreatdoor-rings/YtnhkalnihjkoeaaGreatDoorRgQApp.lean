/- A frame more behind a row of frames. -/
import Derived.OwnWalk
import Derived.Test.YtnhkalnihjkoeaaGreatDoorRgQBytes
namespace Go.Proofs.YtnhkalnihjkoeaaGreatDoor.Q
open Go.RowKit

def Owns (v : Value) : Nat → Prop := fun k => blockOf v = some k

theorem fsCells_snoc (l : List PF) (f : PF) : fsCells (l ++ [f]) = fsCells l ++ fcells f := by simp [fsCells]

theorem src_frame {w : World} {n : Nat} (f : PF) {t : TypeId} (h : w.heap[n]? = some (.cells #[.int .i64 f.at_, .int .i64 f.takes, .int .i64 f.st] t (0, 0))) : Src Tryz.prog 3 352 (.slice (some ⟨n, 0, none⟩) 1 1) 1 (fcells f) w := by
  refine Src.ofSlice w Tryz.underlying352 _ _ _ _ rfl (fun j u hj => ?_) (fun u hu => ?_)
  · have e : (⟨n, 0, none⟩ : Addr).add j = ⟨n, j, none⟩ := by simp [Addr.add]; omega
    rw [e, cell_of_heap h]
    simpa [fcells] using hj
  · simp [fcells] at hu
    rcases hu with rfl | rfl | rfl <;> rfl

theorem infoF : (Tryz.prog.info? 358).map (fun i => (i.zero, i.size, i.bytes)) = some (some (.agg #[.int .i64 0, .int .i64 0, .int .i64 0]), 3, 24) := by kernel_rfl
theorem run_fappend {w : World} {v : Value} {l : List PF} (h : FRow w v l) (tx ty : TypeId) (x : Value) (f : PF) (hs : Src Tryz.prog 3 tx x 1 (fcells f) w) (hl : l.length ≤ 1000000) :
    ∃ v' w', (Builtin.append_ #[352, tx] ty #[v, x]).run Tryz.prog w = .ok v' w' ∧ FRow w' v' (l ++ [f]) ∧ Fr (Owns v) w w' ∧ ∀ k, k < w.heap.size → blockOf v' = some k → blockOf v = some k := by
  obtain ⟨i, hi, hz, hsize, hby⟩ := info_parts infoF
  have ht : Tryz.prog.underlying 352 = some (.slice 358) := Tryz.underlying352
  have hs' := hs
  rw [← hsize] at hs'
  have hfl : (fcells f).length = 3 := rfl
  have grown : ∀ (base : Option Addr) (cap : Nat), cap < l.length + 1 → v = .slice base l.length cap → (Builtin.firstCells i.size l.length (.slice base l.length cap)).run Tryz.prog w.drew = .ok (fsCells l).toArray w.drew →
      ∃ v' w', (Builtin.append_ #[352, tx] ty #[v, x]).run Tryz.prog w = .ok v' w' ∧ FRow w' v' (l ++ [f]) ∧ Fr (Owns v) w w' ∧ ∀ k, k < w.heap.size → blockOf v' = some k → blockOf v = some k := by
    intro base cap hcap hsv hold
    subst hsv
    have hr := run_append_grow_src (P := Tryz.prog) w 352 tx ty 358 i _ ht hi hz base l.length cap (fsCells l) hold x 1 (fcells f) hs' hcap (by omega) (by rw [hby]; exact growslice_fits hcap (by omega))
    have hge := grownCap_ge w (l.length + 1) cap 358
    have hcm : grownCap w (l.length + 1) cap 358 ≤ maxLen := grownCap_le_maxLen w (l.length + 1) cap 358 (by unfold maxLen; omega)
    refine ⟨_, _, hr, .inr ⟨w.heap.size, 0, grownCap w (l.length + 1) cap 358, _, by rw [List.length_append]; rfl, heap_alloc_new w.drew _, by rw [List.length_append]; exact hge, ?_, hcm, fun j u hj => ?_⟩, ⟨rfl, rfl, rfl, by simp, fun k hk _ => Below.heap_alloc w.drew _ _ hk⟩, fun k hk e => by simp [blockOf] at e; omega⟩
    · simp only [Array.size_append, List.size_toArray, size_zeroCells, List.length_append, fsCells_length, hfl, Value.cells]
      simp
      omega
    · rw [fsCells_snoc] at hj
      rw [Nat.zero_add]
      have hjl : j < (fsCells l ++ fcells f).length := (List.getElem?_eq_some_iff.1 hj).1
      rw [Array.getElem?_append_left (by simpa using hjl)]
      simpa using hj
  rcases h with ⟨rfl, rfl⟩ | ⟨fb, off, cap, cur, rfl, h2, h3, h4, h5, h6⟩
  · exact grown none 0 (by simp) rfl (run_firstCells_none w.drew i.size 0 0 0)
  · by_cases hroom : l.length + 1 ≤ cap
    · have hfit : off + l.length * i.size + (fcells f).length ≤ cur.size := by rw [hfl, hsize]; omega
      have hst := run_storeCells_at Tryz.prog fb (off + l.length * i.size) 358 (fcells f) 0 cur w h2 (by simpa using hfit) hs.one
      simp only [Nat.add_zero] at hst
      have hr : (Builtin.append_ #[352, tx] ty #[.slice (some ⟨fb, off, none⟩) l.length cap, x]).run Tryz.prog w = .ok (.slice (some ⟨fb, off, none⟩) (l.length + 1) cap) (w.setRow fb (cur.toList.take (off + l.length * i.size) ++ fcells f ++ cur.toList.drop (off + l.length * i.size + (fcells f).length)).toArray) := by
        rcases hs'.kind with ⟨e', hk⟩ | hk <;> simp [Builtin.append_, run_underlying ht, run_underlying hk, sizeOf, typeInfo, hi, hs'.len, hroom, hs'.cells, Addr.add_lit, hst]
      refine ⟨_, _, hr, .inr ⟨fb, off, cap, _, by rw [List.length_append]; rfl, setRow_heap w fb cur _ 358 _ h2, by rw [List.length_append]; exact hroom, ?_, h5, fun j u hj => ?_⟩, ⟨rfl, rfl, rfl, by simp, fun k _ hk => setRow_other w fb k _ (fun e => hk (by subst e; rfl))⟩, fun k _ e => by simpa [blockOf] using e⟩
      · simp only [List.size_toArray, List.length_append, List.length_take, List.length_drop, Array.length_toList]
        omega
      · rw [fsCells_snoc] at hj
        rw [hsize] at hfit ⊢
        have hcl : (cur.toList.take (off + l.length * 3)).length = off + l.length * 3 := by
          have e : cur.toList.length = cur.size := Array.length_toList
          rw [List.length_take, e]
          exact Nat.min_eq_left (by omega)
        rw [List.getElem?_toArray]
        rcases Nat.lt_or_ge j (l.length * 3) with q | q
        · rw [List.getElem?_append_left (by rw [List.length_append, hcl]; omega), List.getElem?_append_left (by rw [hcl]; omega), List.getElem?_take_of_lt (by omega)]
          rw [List.getElem?_append_left (by rw [fsCells_length]; exact q)] at hj
          rw [Array.getElem?_toList]
          exact h6 j u hj
        · rw [List.getElem?_append_right (by rw [fsCells_length]; exact q), fsCells_length] at hj
          have hj3 : j - l.length * 3 < (fcells f).length := (List.getElem?_eq_some_iff.1 hj).1
          rw [hfl] at hj3
          rw [List.getElem?_append_left (by rw [List.length_append, hcl, hfl]; omega), List.getElem?_append_right (by rw [hcl]; omega), hcl, show off + j - (off + l.length * 3) = j - l.length * 3 by omega]
          exact hj
    · exact grown _ cap (by omega) rfl (run_firstCells_some w.drew i.size l.length _ _ _ (fsCells l) (by rw [fsCells_length, hsize]) (fun j u hj => by
        have e : (⟨fb, off, none⟩ : Addr).add j = ⟨fb, off + j, none⟩ := by simp [Addr.add]
        rw [e]
        show w.cell? _ = _
        rw [cell_of_heap h2]
        exact h6 j u hj))

theorem wpList_fappend {w : World} {ops : Array Oper} {rest : List Oper} {o : Oper} {a : Act} {Q : Exit → Act → World → Prop}
    (hg : o.guard = none) (s x : Operand) (tx : TypeId) (hop : o.op = Op.call { callee := Callee.builtin Builtin.append, args := #[s, x], argTypes := #[352, tx] })
    {sv xv : Value} {l : List PF} (f : PF) (hs : a.eval s = sv) (hx : a.eval x = xv) (h : FRow w sv l) (hsrc : Src Tryz.prog 3 tx xv 1 (fcells f) w) (hl : l.length ≤ 1000000)
    (hK : ∀ v' w', FRow w' v' (l ++ [f]) → Fr (Owns sv) w w' → (∀ k, k < w.heap.size → blockOf v' = some k → blockOf sv = some k) → wpList Tryz.prog ops Q rest (a.put o.dst v') w') :
    wpList Tryz.prog ops Q (o :: rest) a w := by
  refine wpList_plain hg fun K hK' => ?_
  obtain ⟨v', w', hrun, r1, r2, r3⟩ := run_fappend h tx o.type xv f hsrc hl
  unfold Oper.wp
  simp [execOp, hop, resolve, invoke, builtin, hs, hx, hrun, Result.andThen]
  exact hK' _ _ (hK v' w' r1 r2 r3)

end Go.Proofs.YtnhkalnihjkoeaaGreatDoor.Q
