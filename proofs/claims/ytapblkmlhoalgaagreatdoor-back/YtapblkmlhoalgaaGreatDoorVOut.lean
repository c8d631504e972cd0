/- How bytes are appended to a row of bytes: a byte, two, those of a string. -/
import Derived.Test.YtapblkmlhoalgaaGreatDoorVHex
import Derived.Deep.AppendSrc
namespace Go.Proofs.YtapblkmlhoalgaaGreatDoor
open Go.RowKit

/-- All from B on. -/
def From (B : Nat) : Nat → Prop := fun k => B ≤ k
/-- The block of a slice. -/
def Owned (sv : Value) : Nat → Prop := fun k => sv.ownBlock = some k

theorem run_out {w : World} {B : Nat} {sv : Value} {acc : Bs} (h : BO w B sv acc) (hB : B ≤ w.heap.size) (tx ty : TypeId) (x : Value) (more : Bs) (hs : Src Tryz.prog 1 tx x more.length (Lib.byteCells more) w) (hl : acc.length + more.length ≤ 140737488355328) :
    ∃ v' w', (Builtin.append_ #[32, tx] ty #[sv, x]).run Tryz.prog w = .ok v' w' ∧ BO w' B v' (acc ++ more) ∧ Fr (Owned sv) w w' := by
  obtain ⟨i, hi, hz, hsize, hby⟩ := info_parts Tryz.info5
  have ht : Tryz.prog.underlying 32 = some (.slice 5) := Tryz.underlying32
  have hlen : (Lib.byteCells (acc ++ more)).length = (acc ++ more).length * 1 := by simp [Lib.byteCells]
  have hbc : Lib.byteCells (acc ++ more) = Lib.byteCells acc ++ Lib.byteCells more := by simp [Lib.byteCells]
  have hml : (Lib.byteCells more).length = more.length := by simp [Lib.byteCells]
  have hal : (Lib.byteCells acc).length = acc.length := by simp [Lib.byteCells]
  have h63 : acc.length + more.length ≤ maxLen := by unfold maxLen; omega
  have hs' := hs
  rw [← hsize] at hs'
  -- what a new row is
  have grown : ∀ (base : Option Addr) (cap : Nat), cap < acc.length + more.length → sv = .slice base acc.length cap → (Builtin.firstCells i.size acc.length (.slice base acc.length cap)).run Tryz.prog w.drew = .ok (Lib.byteCells acc).toArray w.drew →
      ∃ v' w', (Builtin.append_ #[32, tx] ty #[sv, x]).run Tryz.prog w = .ok v' w' ∧ BO w' B v' (acc ++ more) ∧ Fr (Owned sv) w w' := by
    intro base cap hcap hsv hold
    subst hsv
    have hr := run_append_grow_src (P := Tryz.prog) w 32 tx ty 5 i (.int .u8 0) ht hi hz base acc.length cap (Lib.byteCells acc) hold x more.length (Lib.byteCells more) hs' hcap (by omega) (by rw [hby]; exact growslice_fits hcap (by omega))
    have hge := grownCap_ge w (acc.length + more.length) cap 5
    have hcm : grownCap w (acc.length + more.length) cap 5 ≤ maxLen := grownCap_le_maxLen w (acc.length + more.length) cap 5 h63
    refine ⟨_, _, hr, ⟨⟨hlen, .inr ⟨w.heap.size, _, _, by rw [List.length_append], Nat.zero_le _, heap_alloc_new w.drew _, by rw [List.length_append]; exact hge, hcm, ?_, ?_⟩⟩, fun g hg => ?_⟩, ⟨rfl, rfl, rfl, by simp, fun k hk _ => Below.heap_alloc w.drew _ _ hk⟩⟩
    · simp only [Array.size_append, List.size_toArray, size_zeroCells, List.length_append, hal, hml, Value.cells]
      simp
      omega
    · rw [hbc, ← hlen, hbc]
      simp only [Array.toList_append]
      exact List.take_left
    · simp [Value.ownBlock] at hg
      omega
  rcases h.own.2 with ⟨rfl, e⟩ | ⟨g, cap, cur, rfl, hbg, hg, hnc, hcm, hcs, htake⟩
  · by_cases hm : more.length = 0
    · have hm0 : more = [] := List.eq_nil_of_length_eq_zero hm
      have ha0 : acc = [] := List.eq_nil_of_length_eq_zero e
      subst hm0 ha0
      refine ⟨.slice none 0 0, w, ?_, BO.nil _ _, Fr.refl _ _⟩
      have hc := hs'.cells
      have hl0 := hs'.len w
      simp [Lib.byteCells] at hc hl0
      rcases hs'.kind with ⟨e', hk⟩ | hk <;> simp [Builtin.append_, run_underlying ht, run_underlying hk, sizeOf, typeInfo, hi, hl0, hc]
    · exact grown none 0 (by omega) (by rw [e]) (by rw [e]; have ha0 : acc = [] := List.eq_nil_of_length_eq_zero e; subst ha0; exact run_firstCells_none w.drew i.size 0 0 0)
  · by_cases hroom : acc.length + more.length ≤ cap
    · have hfit : acc.length * i.size + (Lib.byteCells more).length ≤ cur.size := by rw [hml, hcs, hsize]; omega
      have hst := run_storeCells_at Tryz.prog g (acc.length * i.size) 5 (Lib.byteCells more) 0 cur w hg (by simpa using hfit) hs.one
      simp only [Nat.add_zero] at hst
      have hr : (Builtin.append_ #[32, tx] ty #[.slice (some ⟨g, 0, none⟩) acc.length cap, x]).run Tryz.prog w = .ok (.slice (some ⟨g, 0, none⟩) (acc.length + more.length) cap) (w.setRow g (cur.toList.take (acc.length * i.size) ++ Lib.byteCells more ++ cur.toList.drop (acc.length * i.size + (Lib.byteCells more).length)).toArray) := by
        rcases hs'.kind with ⟨e', hk⟩ | hk <;> simp [Builtin.append_, run_underlying ht, run_underlying hk, sizeOf, typeInfo, hi, hs'.len, hroom, hs'.cells, Addr.add_lit, hst]
      refine ⟨_, _, hr, ⟨⟨hlen, .inr ⟨g, cap, _, by rw [List.length_append], Nat.zero_le _, setRow_heap w g cur _ 5 _ hg, by rw [List.length_append]; exact hroom, hcm, ?_, ?_⟩⟩, fun g' hg' => ?_⟩, ⟨rfl, rfl, rfl, by simp, fun k _ hk => setRow_other w g k _ (fun e => hk (by subst e; rfl))⟩⟩
      · simp only [List.size_toArray, List.length_append, List.length_take, List.length_drop, Array.length_toList]
        omega
      · rw [hbc, hsize, htake, ← hlen, hbc]
        exact List.take_left
      · simp [Value.ownBlock] at hg'
        subst hg'
        exact h.from_ _ rfl
    · exact grown _ cap (by omega) rfl (run_firstCells_some w.drew i.size acc.length _ _ _ (Lib.byteCells acc) (by rw [hal, hsize]; omega) (by simpa using h.own.cells (g := g) rfl))

theorem wpList_out {w : World} {ops : Array Oper} {rest : List Oper} {o : Oper} {a : Act} {Q : Exit → Act → World → Prop}
    (hg : o.guard = none) (s x : Operand) (tx : TypeId) (hop : o.op = Op.call { callee := Callee.builtin Builtin.append, args := #[s, x], argTypes := #[32, tx] })
    {B : Nat} {sv xv : Value} {acc : Bs} (more : Bs) (hs : a.eval s = sv) (hx : a.eval x = xv) (h : BO w B sv acc) (hsrc : Src Tryz.prog 1 tx xv more.length (Lib.byteCells more) w) (hB : B ≤ w.heap.size) (hl : acc.length + more.length ≤ 140737488355328)
    (hK : ∀ v' w', BO w' B v' (acc ++ more) → Fr (From B) w w' → Fr (Owned sv) w w' → wpList Tryz.prog ops Q rest (a.put o.dst v') w') :
    wpList Tryz.prog ops Q (o :: rest) a w := by
  refine wpList_plain hg fun K hK' => ?_
  obtain ⟨v', w', hrun, r1, r2⟩ := run_out h hB tx o.type xv more hsrc hl
  unfold Oper.wp
  simp [execOp, hop, resolve, invoke, builtin, hs, hx, hrun, Result.andThen]
  exact hK' _ _ (hK v' w' r1 (r2.mono (fun k _ e => h.from_ k e)) r2)

theorem step_out {ops : Array Oper} {o : Oper} {a : Act} {w : World} {K : Act → World → Prop} {Q : Exit → Act → World → Prop} {E : Prop}
    (hg : o.guard = none) (s x : Operand) (tx : TypeId) (hop : o.op = Op.call { callee := Callee.builtin Builtin.append, args := #[s, x], argTypes := #[32, tx] })
    {B : Nat} {sv xv : Value} {acc : Bs} (more : Bs) (hs : a.eval s = sv) (hx : a.eval x = xv) (h : BO w B sv acc) (hsrc : Src Tryz.prog 1 tx xv more.length (Lib.byteCells more) w) (hB : B ≤ w.heap.size) (hl : acc.length + more.length ≤ 140737488355328)
    (hK : ∀ v' w', BO w' B v' (acc ++ more) → Fr (From B) w w' → Fr (Owned sv) w w' → K (a.put o.dst v') w') :
    if Region.wanted o (yielded ops a.tmps) = true then Oper.wp Tryz.prog o a w K Q else E := by
  have hw : Region.wanted o (yielded ops a.tmps) = true := by simp [Region.wanted, hg]
  rw [if_pos hw]
  obtain ⟨v', w', hrun, r1, r2⟩ := run_out h hB tx o.type xv more hsrc hl
  unfold Oper.wp
  simp [execOp, hop, resolve, invoke, builtin, hs, hx, hrun, Result.andThen]
  exact hK v' w' r1 (r2.mono (fun k _ e => h.from_ k e)) r2

theorem src_at {w' : World} {n : Nat} {b : UInt8} {t : TypeId} (h : w'.heap[n]? = some (.cells #[.int .u8 b.toNat] t (0, 0))) : Src Tryz.prog 1 32 (.slice (some ⟨n, 0, none⟩) 1 1) [b].length (Lib.byteCells [b]) w' := by
  refine Src.ofSlice w' Tryz.underlying32 _ _ _ _ rfl (fun j u hj => ?_) (fun u hu => ?_)
  · match j, hj with
    | 0, hj => simp [Lib.byteCells] at hj; subst hj; rw [show (⟨n, 0, none⟩ : Addr).add 0 = ⟨n, 0, none⟩ by simp [Addr.add]]; rw [cell_of_heap h]; rfl
    | j + 1, hj => simp [Lib.byteCells] at hj
  · simp [Lib.byteCells] at hu; subst hu; rfl
theorem src_one {w w' : World} {b : UInt8} {t : TypeId} (he : w'.heap = (w.alloc (.cells #[.int .u8 b.toNat] t)).heap) : Src Tryz.prog 1 32 (.slice (some ⟨w.heap.size, 0, none⟩) 1 1) [b].length (Lib.byteCells [b]) w' :=
  src_at (by rw [he]; exact heap_new_at rfl _)
theorem src_two {w w' : World} {b c : UInt8} {t : TypeId} (he : w'.heap = (w.alloc (.cells #[.int .u8 b.toNat, .int .u8 c.toNat] t)).heap) : Src Tryz.prog 1 32 (.slice (some ⟨w.heap.size, 0, none⟩) 2 2) [b, c].length (Lib.byteCells [b, c]) w' := by
  refine Src.ofSlice w' Tryz.underlying32 _ _ _ _ rfl (fun j u hj => ?_) (fun u hu => ?_)
  · exact news_heap he j u (by simpa [Lib.byteCells] using hj)
  · simp [Lib.byteCells] at hu; rcases hu with rfl | rfl <;> rfl
theorem src_str (w : World) (more : Bs) : Src Tryz.prog 1 9 (.string (ba more)) more.length (Lib.byteCells more) w := by
  have h := Src.ofString (P := Tryz.prog) w (tx := 9) Tryz.underlying9 (ba more)
  rw [ba_size] at h
  have e : Go.byteCells (ba more) = Lib.byteCells more := by simp [Go.byteCells, Lib.byteCells, ba]
  rw [e] at h
  exact h

end Go.Proofs.YtapblkmlhoalgaaGreatDoor
