/- The reference's reader of texts in memory; its small calls. -/
import Derived.Test.YtnhkalnihjkoeaaGreatDoorDCount
namespace Go.Proofs.YtnhkalnihjkoeaaGreatDoor
open Go.RowKit

/-- The reader's block: what is left, the bytes so far, whether it can stand. -/
structure MB (w : World) (mb db : Nat) (s : ByteArray) (l : Bs) (bad : Bool) (ov : Value) : Prop where
  len : l.length ≤ s.size
  tail : tl s (pos s l) = l
  block : w.heap[mb]? = some (.cells #[.pointer (some ⟨db, 0, none⟩), .string s, .int .i64 (pos s l), ov, .bool bad] 207 (0, 0))

section
variable {w w' : World} {mb db : Nat} {s : ByteArray} {l : Bs} {bad : Bool} {ov : Value}
theorem MB.at0 (h : MB w mb db s l bad ov) : w.cell? ⟨mb, 0, none⟩ = some (.pointer (some ⟨db, 0, none⟩)) := by rw [cell_of_heap h.block]; rfl
theorem MB.at1 (h : MB w mb db s l bad ov) : w.cell? ⟨mb, 1, none⟩ = some (.string s) := by rw [cell_of_heap h.block]; rfl
theorem MB.at2 (h : MB w mb db s l bad ov) : w.cell? ⟨mb, 2, none⟩ = some (.int .i64 (pos s l)) := by rw [cell_of_heap h.block]; rfl
theorem MB.at3 (h : MB w mb db s l bad ov) : w.cell? ⟨mb, 3, none⟩ = some ov := by rw [cell_of_heap h.block]; rfl
theorem MB.at4 (h : MB w mb db s l bad ov) : w.cell? ⟨mb, 4, none⟩ = some (.bool bad) := by rw [cell_of_heap h.block]; rfl
theorem MB.free (h : MB w mb db s l bad ov) (o : Nat) : w.frozen? ⟨mb, o, none⟩ = false := free_of_heap h.block
theorem MB.lt (h : MB w mb db s l bad ov) : mb < w.heap.size := lt_of_heap h.block
theorem MB.keep (h : MB w mb db s l bad ov) {X : Nat → Prop} (hf : Fr X w w') (hx : ¬ X mb) : MB w' mb db s l bad ov := ⟨h.len, h.tail, hf.keep h.block hx⟩
theorem MB.posle (_h : MB w mb db s l bad ov) : pos s l ≤ s.size := Nat.sub_le _ _
theorem MB.next {b : UInt8} {r : Bs} (h : MB w mb db s (b :: r) bad ov) : pos s (b :: r) < s.size ∧ pos s r = pos s (b :: r) + 1 ∧ tl s (pos s r) = r ∧ (∀ hn : pos s (b :: r) < s.size, s[pos s (b :: r)] = b) := by
  have hl := h.len
  have ht := h.tail
  simp only [List.length_cons] at hl
  have hp : pos s (b :: r) < s.size := by simp only [pos, List.length_cons]; omega
  have hp1 : pos s r = pos s (b :: r) + 1 := by simp only [pos, List.length_cons]; omega
  rw [tl_cons hp] at ht
  simp only [List.cons.injEq] at ht
  exact ⟨hp, hp1, by rw [hp1]; exact ht.2, fun _ => ht.1⟩
theorem MB.end (h : MB w mb db s [] bad ov) : pos s [] = s.size := by have := h.len; simp [pos]
theorem MB.move {r : Bs} (h : MB w mb db s l bad ov) (hl : r.length ≤ s.size) (ht : tl s (pos s r) = r) : MB (w.setCell ⟨mb, 2, none⟩ (.int .i64 (pos s r))) mb db s r bad ov := by
  refine ⟨hl, ht, ?_⟩
  rw [heap_setCell_same h.block]; rfl
theorem MB.mark (h : MB w mb db s l bad ov) (b : Bool) : MB (w.setCell ⟨mb, 4, none⟩ (.bool b)) mb db s l b ov := by
  refine ⟨h.len, h.tail, ?_⟩
  rw [heap_setCell_same h.block]; rfl
theorem MB.outs (h : MB w mb db s l bad ov) (v : Value) : MB (w.setCell ⟨mb, 3, none⟩ v) mb db s l bad v := by
  refine ⟨h.len, h.tail, ?_⟩
  rw [heap_setCell_same h.block]; rfl
end

/-- The reader and what it has written: all from B on. -/
def MS (w : World) (B mb db : Nat) (s : ByteArray) (l : Bs) (bad : Bool) (out : Bs) : Prop := ∃ ov, MB w mb db s l bad ov ∧ B ≤ mb ∧ BO w B ov out

/-- What a call of the reader may write. -/
def MX (w : World) (mb : Nat) : Nat → Prop := fun k => k = mb ∨ ∃ v, w.cell? ⟨mb, 3, none⟩ = some v ∧ v.ownBlock = some k
structure MFr (mb : Nat) (w w' : World) : Prop where
  fr : Fr (MX w mb) w w'
  own : ∀ k, k < w.heap.size → MX w' mb k → MX w mb k
theorem MFr.refl (mb : Nat) (w : World) : MFr mb w w := ⟨Fr.refl _ _, fun _ _ h => h⟩
theorem MFr.trans {mb : Nat} {a b c : World} (h : MFr mb a b) (k : MFr mb b c) : MFr mb a c :=
  ⟨⟨k.fr.os.trans h.fr.os, k.fr.tape.trans h.fr.tape, k.fr.output.trans h.fr.output, Nat.le_trans h.fr.size k.fr.size, fun i hi hx => (k.fr.block i (Nat.lt_of_lt_of_le hi h.fr.size) (fun e => hx (h.own i hi e))).trans (h.fr.block i hi hx)⟩,
    fun i hi e => h.own i hi (k.own i (Nat.lt_of_lt_of_le hi h.fr.size) e)⟩
theorem MX.same {w w' : World} {mb : Nat} (h3 : w'.cell? ⟨mb, 3, none⟩ = w.cell? ⟨mb, 3, none⟩) (k : Nat) : MX w' mb k ↔ MX w mb k := by unfold MX; rw [h3]
theorem MFr.quiet {mb : Nat} {w w' : World} (hf : Fr Zero w w') (hb : mb < w.heap.size) : MFr mb w w' :=
  ⟨hf.of0, fun k _ h => (MX.same (hf.cell hb (fun h => h)) k).1 h⟩
theorem MFr.cells {mb db db' : Nat} {w w' : World} {s s' : ByteArray} {l r : Bs} {bad bad' : Bool} {ov : Value} (h : MB w mb db s l bad ov) (h' : MB w' mb db' s' r bad' ov) (hf : Fr (One mb) w w') : MFr mb w w' :=
  ⟨hf.mono (fun _ _ e => .inl e), fun k _ e => (MX.same (h'.at3.trans h.at3.symm) k).1 e⟩
theorem MX.of {w : World} {mb db : Nat} {s : ByteArray} {l : Bs} {bad : Bool} {ov : Value} (h : MB w mb db s l bad ov) {k : Nat} (hk : MX w mb k) : k = mb ∨ ov.ownBlock = some k := by
  rcases hk with e | ⟨v, e1, e2⟩
  · exact .inl e
  · rw [h.at3] at e1; simp at e1; subst e1; exact .inr e2
theorem BO.ne {w : World} {B mb : Nat} {ov : Value} {out : Bs} {cs : Array Value} {ty : TypeId} {fz : Nat × Nat} (h : BO w B ov out) (hb : w.heap[mb]? = some (.cells cs ty fz)) (hne : 5 ≠ ty) : ov.ownBlock ≠ some mb := own_ne h.own hb hne

section
variable {w w' : World} {B mb db : Nat} {s : ByteArray} {l r : Bs} {bad bad' : Bool} {out out' : Bs} {ov v' : Value}
theorem MS.from (h : MS w B mb db s l bad out) {k : Nat} (hk : MX w mb k) : B ≤ k := by
  obtain ⟨ov, h1, h2, h3⟩ := h
  rcases MX.of h1 hk with e | e
  · omega
  · exact h3.from_ k e
theorem MS.fromB (h : MS w B mb db s l bad out) (hf : MFr mb w w') : Fr (From B) w w' := hf.fr.mono (fun _ _ e => h.from e)
theorem MS.lt (h : MS w B mb db s l bad out) : mb < w.heap.size := by obtain ⟨ov, h1, _⟩ := h; exact h1.lt
theorem MS.len (h : MS w B mb db s l bad out) : l.length ≤ s.size := by obtain ⟨ov, h1, _⟩ := h; exact h1.len
theorem MS.block (h : MS w B mb db s l bad out) : ∃ ov, MB w mb db s l bad ov := by obtain ⟨ov, h1, _⟩ := h; exact ⟨ov, h1⟩
theorem MS.quiet (h : MS w B mb db s l bad out) (hf : Fr Zero w w') : MS w' B mb db s l bad out := by
  obtain ⟨ov, h1, h2, h3⟩ := h
  exact ⟨ov, h1.keep hf (fun h => h), h2, h3.keep hf (fun _ _ h => h)⟩
/-- The reader's own cells are written; what it has written stays. -/
theorem MS.seal (h1 : MB w mb db s l bad ov) (h2 : B ≤ mb) (h3 : BO w B ov out) (hb : MB w' mb db s r bad' ov) (hf : Fr (One mb) w w') : MS w' B mb db s r bad' out ∧ MFr mb w w' :=
  ⟨⟨ov, hb, h2, ⟨ownsRow_keep h3.own hf (fun g hg e => h3.ne h1.block (by decide) (by rw [hg]; exact congrArg some e)), h3.from_⟩⟩, MFr.cells h1 hb hf⟩
/-- What it has written grows. -/
theorem MS.grow (h1 : MB w mb db s l bad ov) (h2 : B ≤ mb) (h3 : BO w B ov out) (ho : BO w' B v' out') (hf : Fr (Owned ov) w w') (hv : ∀ k, k < w.heap.size → v'.ownBlock = some k → ov.ownBlock = some k) :
    MS (w'.setCell ⟨mb, 3, none⟩ v') B mb db s l bad out' ∧ MFr mb w (w'.setCell ⟨mb, 3, none⟩ v') := by
  have hb' : MB w' mb db s l bad ov := h1.keep hf (fun e => h3.ne h1.block (by decide) e)
  have hfS : Fr (One mb) w' (w'.setCell ⟨mb, 3, none⟩ v') := Fr.setCell _ _ _ _ rfl
  have hb2 := hb'.outs v'
  refine ⟨⟨v', hb2, h2, ⟨ownsRow_keep ho.own hfS (fun g hg e => ho.ne hb'.block (by decide) (by rw [hg]; exact congrArg some e)), ho.from_⟩⟩, ⟨(hf.mono (fun k _ e => .inr ⟨ov, h1.at3, e⟩)).trans (hfS.mono (fun _ _ e => .inl e)), fun k hk e => ?_⟩⟩
  rcases MX.of hb2 e with e | e
  · exact .inl e
  · exact .inr ⟨ov, h1.at3, hv k hk e⟩
end

theorem run_out2 {w : World} {B : Nat} {sv : Value} {acc : Bs} (h : BO w B sv acc) (hB : B ≤ w.heap.size) (tx ty : TypeId) (x : Value) (more : Bs) (hs : Src Tryz.prog 1 tx x more.length (Lib.byteCells more) w) (hl : acc.length + more.length ≤ 140737488355328) :
    ∃ v' w', (Builtin.append_ #[32, tx] ty #[sv, x]).run Tryz.prog w = .ok v' w' ∧ BO w' B v' (acc ++ more) ∧ Fr (Owned sv) w w' ∧ ∀ k, k < w.heap.size → v'.ownBlock = some k → sv.ownBlock = some k := by
  obtain ⟨i, hi, hz, hsize, hby⟩ := info_parts Tryz.info5
  have ht : Tryz.prog.underlying 32 = some (.slice 5) := Tryz.underlying32
  have hlen : (Lib.byteCells (acc ++ more)).length = (acc ++ more).length * 1 := by simp [Lib.byteCells]
  have hbc : Lib.byteCells (acc ++ more) = Lib.byteCells acc ++ Lib.byteCells more := by simp [Lib.byteCells]
  have hml : (Lib.byteCells more).length = more.length := by simp [Lib.byteCells]
  have hal : (Lib.byteCells acc).length = acc.length := by simp [Lib.byteCells]
  have h63 : acc.length + more.length ≤ maxLen := by unfold maxLen; omega
  have hs' := hs
  rw [← hsize] at hs'
  -- what a new row is
  have grown : ∀ (base : Option Addr) (cap : Nat), cap < acc.length + more.length → sv = .slice base acc.length cap → (Builtin.firstCells i.size acc.length (.slice base acc.length cap)).run Tryz.prog w.drew = .ok (Lib.byteCells acc).toArray w.drew →
      ∃ v' w', (Builtin.append_ #[32, tx] ty #[sv, x]).run Tryz.prog w = .ok v' w' ∧ BO w' B v' (acc ++ more) ∧ Fr (Owned sv) w w' ∧ ∀ k, k < w.heap.size → v'.ownBlock = some k → sv.ownBlock = some k := by
    intro base cap hcap hsv hold
    subst hsv
    have hr := run_append_grow_src (P := Tryz.prog) w 32 tx ty 5 i (.int .u8 0) ht hi hz base acc.length cap (Lib.byteCells acc) hold x more.length (Lib.byteCells more) hs' hcap (by omega) (by rw [hby]; exact growslice_fits hcap (by omega))
    have hge := grownCap_ge w (acc.length + more.length) cap 5
    have hcm : grownCap w (acc.length + more.length) cap 5 ≤ maxLen := grownCap_le_maxLen w (acc.length + more.length) cap 5 h63
    refine ⟨_, _, hr, ⟨⟨hlen, .inr ⟨w.heap.size, _, _, by rw [List.length_append], Nat.zero_le _, heap_alloc_new w.drew _, by rw [List.length_append]; exact hge, hcm, ?_, ?_⟩⟩, fun g hg => ?_⟩, ⟨rfl, rfl, rfl, by simp, fun k hk _ => Below.heap_alloc w.drew _ _ hk⟩, fun k hk e => by simp [Value.ownBlock] at e; omega⟩
    · simp only [Array.size_append, List.size_toArray, size_zeroCells, List.length_append, hal, hml, Value.cells]
      simp
      omega
    · rw [hbc, ← hlen, hbc]
      simp only [Array.toList_append]
      exact List.take_left
    · simp [Value.ownBlock] at hg
      omega
  rcases h.own.2 with ⟨rfl, e⟩ | ⟨g, cap, cur, rfl, hbg, hg, hnc, hcm, hcs, htake⟩
  · by_cases hm : more.length = 0
    · have hm0 : more = [] := List.eq_nil_of_length_eq_zero hm
      have ha0 : acc = [] := List.eq_nil_of_length_eq_zero e
      subst hm0 ha0
      refine ⟨.slice none 0 0, w, ?_, BO.nil _ _, Fr.refl _ _, fun k _ e => by simp [Value.ownBlock] at e⟩
      have hc := hs'.cells
      have hl0 := hs'.len w
      simp [Lib.byteCells] at hc hl0
      rcases hs'.kind with ⟨e', hk⟩ | hk <;> simp [Builtin.append_, run_underlying ht, run_underlying hk, sizeOf, typeInfo, hi, hl0, hc]
    · exact grown none 0 (by omega) (by rw [e]) (by rw [e]; have ha0 : acc = [] := List.eq_nil_of_length_eq_zero e; subst ha0; exact run_firstCells_none w.drew i.size 0 0 0)
  · by_cases hroom : acc.length + more.length ≤ cap
    · have hfit : acc.length * i.size + (Lib.byteCells more).length ≤ cur.size := by rw [hml, hcs, hsize]; omega
      have hst := run_storeCells_at Tryz.prog g (acc.length * i.size) 5 (Lib.byteCells more) 0 cur w hg (by simpa using hfit) hs.one
      simp only [Nat.add_zero] at hst
      have hr : (Builtin.append_ #[32, tx] ty #[.slice (some ⟨g, 0, none⟩) acc.length cap, x]).run Tryz.prog w = .ok (.slice (some ⟨g, 0, none⟩) (acc.length + more.length) cap) (w.setRow g (cur.toList.take (acc.length * i.size) ++ Lib.byteCells more ++ cur.toList.drop (acc.length * i.size + (Lib.byteCells more).length)).toArray) := by
        rcases hs'.kind with ⟨e', hk⟩ | hk <;> simp [Builtin.append_, run_underlying ht, run_underlying hk, sizeOf, typeInfo, hi, hs'.len, hroom, hs'.cells, Addr.add_lit, hst]
      refine ⟨_, _, hr, ⟨⟨hlen, .inr ⟨g, cap, _, by rw [List.length_append], Nat.zero_le _, setRow_heap w g cur _ 5 _ hg, by rw [List.length_append]; exact hroom, hcm, ?_, ?_⟩⟩, fun g' hg' => ?_⟩, ⟨rfl, rfl, rfl, by simp, fun k _ hk => setRow_other w g k _ (fun e => hk (by subst e; rfl))⟩, fun k _ e => by simpa [Value.ownBlock] using e⟩
      · simp only [List.size_toArray, List.length_append, List.length_take, List.length_drop, Array.length_toList]
        omega
      · rw [hbc, hsize, htake, ← hlen, hbc]
        exact List.take_left
      · simp [Value.ownBlock] at hg'
        subst hg'
        exact h.from_ _ rfl
    · exact grown _ cap (by omega) rfl (run_firstCells_some w.drew i.size acc.length _ _ _ (Lib.byteCells acc) (by rw [hal, hsize]; omega) (by simpa using h.own.cells (g := g) rfl))

theorem wpList_out2 {w : World} {ops : Array Oper} {rest : List Oper} {o : Oper} {a : Act} {Q : Exit → Act → World → Prop}
    (hg : o.guard = none) (s x : Operand) (tx : TypeId) (hop : o.op = Op.call { callee := Callee.builtin Builtin.append, args := #[s, x], argTypes := #[32, tx] })
    {B : Nat} {sv xv : Value} {acc : Bs} (more : Bs) (hs : a.eval s = sv) (hx : a.eval x = xv) (h : BO w B sv acc) (hsrc : Src Tryz.prog 1 tx xv more.length (Lib.byteCells more) w) (hB : B ≤ w.heap.size) (hl : acc.length + more.length ≤ 140737488355328)
    (hK : ∀ v' w', BO w' B v' (acc ++ more) → Fr (Owned sv) w w' → (∀ k, k < w.heap.size → v'.ownBlock = some k → sv.ownBlock = some k) → wpList Tryz.prog ops Q rest (a.put o.dst v') w') :
    wpList Tryz.prog ops Q (o :: rest) a w := by
  refine wpList_plain hg fun K hK' => ?_
  obtain ⟨v', w', hrun, r1, r2, r3⟩ := run_out2 h hB tx o.type xv more hsrc hl
  unfold Oper.wp
  simp [execOp, hop, resolve, invoke, builtin, hs, hx, hrun, Result.andThen]
  exact hK' _ _ (hK v' w' r1 r2 r3)

/-- The reader and a row of bytes of a call's own beside it. -/
structure MT (w wr : World) (mb db : Nat) (s : ByteArray) (ov : Value) (r : Bs) (bad : Bool) (sv : Value) (acc : Bs) : Prop where
  kb : MB wr mb db s r bad ov
  bo : BO wr w.heap.size sv acc
  fr : Fr (TX mb w) w wr
  lt : mb < w.heap.size
section
variable {w wr w' : World} {B mb db : Nat} {s : ByteArray} {ov : Value} {l r : Bs} {bad : Bool} {sv : Value} {acc out : Bs}
theorem MT.drewN (h : MT w wr mb db s ov r bad sv acc) (k : Nat) : MT w (wr.drewN k) mb db s ov r bad sv acc :=
  ⟨h.kb.keep (Fr.drewN Zero _ _) (fun h => h), h.bo.keep (Fr.drewN Zero _ _) (fun _ _ h => h), h.fr.trans (Fr.drewN _ _ _), h.lt⟩
theorem MT.alloc (h : MT w wr mb db s ov r bad sv acc) (o : Obj) : MT w (wr.alloc o) mb db s ov r bad sv acc :=
  ⟨h.kb.keep (Fr.alloc Zero _ _) (fun h => h), h.bo.alloc o, h.fr.trans (Fr.alloc _ _ _), h.lt⟩
theorem MT.more (h : MT w wr mb db s ov r bad sv acc) {v' : Value} {acc' : Bs} (hb : BO w' w.heap.size v' acc') (hf : Fr (From w.heap.size) wr w') : MT w w' mb db s ov r bad v' acc' :=
  ⟨h.kb.keep hf (fun e => by unfold From at e; have := h.lt; omega), hb, h.fr.trans (hf.mono (fun _ _ e => .inr e)), h.lt⟩
theorem MT.one (h : MT w wr mb db s ov r bad sv acc) {r' : Bs} {bad' : Bool} (hb : MB w' mb db s r' bad' ov) (hf : Fr (One mb) wr w') : MT w w' mb db s ov r' bad' sv acc :=
  ⟨hb, h.bo.keep hf (fun k hk e => by have e' : k = mb := e; have := h.lt; omega), h.fr.trans (hf.mono (fun _ _ e => .inl e)), h.lt⟩
theorem MT.size (h : MT w wr mb db s ov r bad sv acc) : w.heap.size ≤ wr.heap.size := h.fr.size
theorem BO.lt {B : Nat} (h : BO w B ov out) {k : Nat} (hk : ov.ownBlock = some k) : k < w.heap.size := (h.own.lt k hk).2
theorem MS.sealT {bad' : Bool} (h1 : MB w mb db s l bad ov) (h2 : B ≤ mb) (h3 : BO w B ov out) (hb : MB w' mb db s r bad' ov) (hf : Fr (TX mb w) w w') : MS w' B mb db s r bad' out ∧ MFr mb w w' ∧ BO w' B ov out := by
  have hk : BO w' B ov out := ⟨ownsRow_keep h3.own hf (fun g hg e => by
    rcases e with e | e
    · exact h3.ne h1.block (by decide) (by rw [hg]; exact congrArg some e)
    · have := h3.lt hg; omega), h3.from_⟩
  refine ⟨⟨ov, hb, h2, hk⟩, ⟨hf.mono (fun k hk e => ?_), fun k _ e => (MX.same (hb.at3.trans h1.at3.symm) k).1 e⟩, hk⟩
  rcases e with e | e
  · exact .inl e
  · omega
end

def hd (l : Bs) : Nat := match l with
  | [] => 0
  | b :: _ => b.toNat
theorem hd_lt (l : Bs) : hd l < 256 := by
  unfold hd
  split
  · omega
  · rename_i b _; exact b.toNat_lt

set_option maxHeartbeats 4000000 in
set_option maxRecDepth 100000 in
theorem mNext_any {w : World} {mb db : Nat} {s : ByteArray} {l : Bs} {bad : Bool} {ov : Value} (hb : MB w mb db s l bad ov) (_hs : s.size ≤ maxLen) :
    Calls Tryz.prog 172 #[.pointer (some ⟨mb, 0, none⟩)] w fun e w' => e = .returned (.int .u8 (if bad then 0 else hd l : Nat)) ∧ ∃ n, w' = w.drewN n := by
  have h1 := hb.at1
  have h2 := hb.at2
  have h4 := hb.at4
  have hps := hb.posle
  unfold maxLen at _hs
  cases bad with
  | true =>
    clear hb
    go_enter Tryz.func172, Tryz.ntmps172
    go_wp2_with fail
    go_quiet (fail)
    go_wp2_with fail
    go_ret
    exact ⟨rfl, _, rfl⟩
  | false =>
    rcases l with _ | ⟨b, r⟩
    · have he := hb.end
      have hge : ((s.size : Nat) : Int) ≤ ((pos s [] : Nat) : Int) := by omega
      have hgn : s.size ≤ pos s [] := by omega
      clear hb he
      go_enter Tryz.func172, Tryz.ntmps172
      go_wp2_with fail
      go_quiet (fail)
      go_wp2_with fail
      go_ret
      exact ⟨rfl, _, rfl⟩
    · obtain ⟨hp, hp1, htl, hgb⟩ := hb.next
      replace hgb := hgb hp
      have hpI : ((pos s (b :: r) : Nat) : Int) < ((s.size : Nat) : Int) := by omega
      have hdd : decide (s.size ≤ pos s (b :: r)) = false := decide_eq_false (by omega)
      clear hb hp1 htl
      go_enter Tryz.func172, Tryz.ntmps172
      go_wp2_with fail
      go_quiet (fail)
      go_wp2_with fail
      go_quiet (fail)
      go_wp2_with fail
      go_ret
      exact ⟨rfl, _, rfl⟩

def mMust (c : Nat) (l : Bs) (bad : Bool) : Bs × Bool := if bad then (l, true) else match rAcc c l with
  | some r => (r, false)
  | none => (l, true)

set_option maxHeartbeats 4000000 in
set_option maxRecDepth 100000 in
theorem mMustB {w : World} {mb db : Nat} {s : ByteArray} {l : Bs} {bad : Bool} {ov : Value} (hb : MB w mb db s l bad ov) (hs : s.size ≤ maxLen) (c : Nat) (hc : 0 < c) (hc2 : c < 256) :
    Calls Tryz.prog 173 #[.pointer (some ⟨mb, 0, none⟩), .int .u8 c] w fun e w' => Fr (One mb) w w' ∧ MB w' mb db s (mMust c l bad).1 (mMust c l bad).2 ov ∧ e = .returned (.tuple #[]) := by
  have HB := hide hb
  have HS : Hid (∀ (w' : World) (r : Bs) (bad' : Bool), MB w' mb db s r bad' ov → Fr (One mb) w w' → MB w' mb db s r bad' ov ∧ Fr (One mb) w w') := fun w' r bad' hb' hf' => ⟨hb', hf'⟩
  have hs' := hs
  unfold maxLen at hs'
  go_enter Tryz.func173, Tryz.ntmps173
  go_wp2_with fail
  refine (mNext_any hb hs).mono ?_
  rintro e w1 ⟨rfl, n1, e1⟩
  obtain rfl := e1.symm
  have hb1 := hb.keep (Fr.drewN Zero w n1) (fun h => h)
  have HB1 := hide hb1
  have h2 := hb1.at2
  have f2 := hb1.free 2
  have f4 := hb1.free 4
  have h4 := hb1.at4
  have HF1 : Hid (Fr (One mb) w (w.drewN n1)) := Fr.drewN _ _ _
  have hps := hb1.posle
  clear hb hb1
  generalize w.drewN n1 = w1 at *
  by_cases hx : (if bad = true then 0 else hd l) = c
  · have hbad : bad = false := by
      cases bad with
      | true => simp at hx; omega
      | false => rfl
    subst hbad
    simp only [Bool.false_eq_true, if_false] at hx ⊢
    rcases l with _ | ⟨b, r⟩
    · simp [hd] at hx; omega
    · obtain ⟨hp, hp1, htl, _⟩ := HB1.out.next
      simp only [hd] at hx
      have hx' : b.toNat = c := hx
      have hq : (((hd (b :: r) : Nat) : Int) == (c : Int)) = true := beq_iff_eq.2 (by simp only [hd]; omega)
      have hq0 : ((c : Int) == 0) = false := beq_eq_false_iff_ne.2 (by omega)
      have HU : Hid (mMust c (b :: r) false = (r, false)) := by show _ = _; simp [mMust, rAcc, hx']
      have hpe : ((pos s (b :: r) : Nat) : Int) + 1 = ((pos s r : Nat) : Int) := by omega
      have HTL := hide htl
      have HLR : Hid (r.length ≤ s.size) := by show _ ≤ _; have := HB1.out.len; simp at this; omega
      generalize hd (b :: r) = hv at *
      obtain rfl : hv = c := by have := beq_iff_eq.1 hq; omega
      clear hx htl hp1 hq
      go_wp2_with fail
      go_end0
      have := HS.out _ _ _ (HB1.out.move HLR.out HTL.out) (HF1.out.trans (Fr.setCell (One mb) _ _ _ rfl))
      rw [HU.out]
      exact ⟨this.2, this.1, rfl⟩
  · have hq : ((((if bad = true then 0 else hd l) : Nat) : Int) == (c : Int)) = false := beq_eq_false_iff_ne.2 (by omega)
    have HU : Hid (mMust c l bad = (l, true)) := by
      show _ = _
      cases bad with
      | true => simp [mMust]
      | false =>
        simp only [Bool.false_eq_true, if_false] at hx
        rcases l with _ | ⟨b, r⟩
        · simp [mMust, rAcc]
        · simp only [hd] at hx
          simp [mMust, rAcc, hx]
    generalize (if bad = true then 0 else hd l) = hv at *
    clear hx
    go_wp2_with fail
    refine bodyPost_ret (v := .tuple #[]) (by simp [results, Tryz.results173, go_sem]) rfl ?_
    have := HS.out _ _ _ (HB1.out.mark true) (HF1.out.trans (Fr.setCell (One mb) _ _ _ rfl))
    rw [HU.out]
    exact ⟨this.2, this.1, rfl⟩

theorem mMust_any {w : World} {B mb db : Nat} {s : ByteArray} {l : Bs} {bad : Bool} {out : Bs} (h : MS w B mb db s l bad out) (hs : s.size ≤ maxLen) (c : Nat) (hc : 0 < c) (hc2 : c < 256) :
    Calls Tryz.prog 173 #[.pointer (some ⟨mb, 0, none⟩), .int .u8 c] w fun e w' => MFr mb w w' ∧ MS w' B mb db s (mMust c l bad).1 (mMust c l bad).2 out ∧ e = .returned (.tuple #[]) := by
  obtain ⟨ov, hb, hB, ho⟩ := h
  refine (mMustB hb hs c hc hc2).mono ?_
  rintro e w' ⟨hf, hb', he⟩
  have := MS.seal hb hB ho hb' hf
  exact ⟨this.2, this.1, he⟩

set_option maxHeartbeats 4000000 in
set_option maxRecDepth 100000 in
theorem mPut_any {w : World} {B mb db : Nat} {s : ByteArray} {l : Bs} {bad : Bool} {out : Bs} (h : MS w B mb db s l bad out) (hB : B ≤ w.heap.size) (x : Int) (b : UInt8) (hx : x = b.toNat) (hl : out.length ≤ 1000000000) :
    Calls Tryz.prog 174 #[.pointer (some ⟨mb, 0, none⟩), .int .u8 x] w fun e w' => MFr mb w w' ∧ MS w' B mb db s l bad (out ++ [b]) ∧ e = .returned (.tuple #[]) := by
  subst hx
  obtain ⟨ov, hb, hBm, ho⟩ := h
  obtain ⟨oa, oc, rfl⟩ := ho.len
  have k3 := hb.at3
  have f3 := hb.free 3
  have hlt := hb.lt
  have HB := hide (hb.keep (Fr.alloc Zero w (.cells #[.int .u8 b.toNat] 5)) (fun h => h))
  have HO := hide (ho.alloc (.cells #[.int .u8 b.toNat] 5))
  have HBm := hide hBm
  clear hb ho hBm
  go_enter Tryz.func174, Tryz.ntmps174
  go_wp2_with (at_builtin; refine wpList_out2 rfl (.tmp 8) (.tmp 10) 32 rfl [b] rfl rfl HO.out (src_one rfl) ?hb1 ?hl1 ?_)
  case hb1 => simp; omega
  case hl1 => simp; omega
  intro v1 w1 hB1 hF1 hv1
  obtain ⟨va, vc, hva⟩ : ∃ a cap, v1 = .slice a (out.length + 1) cap := by simpa using hB1.len
  subst hva
  have HE := hide (MS.grow HB.out HBm.out HO.out hB1 hF1 (by simpa using hv1))
  have hb1 := HB.out.keep hF1 (fun e => HO.out.ne HB.out.block (by decide) e)
  have q3 := hb1.at3
  have qf := hb1.free 3
  clear hB1 hF1 hv1 hb1 k3 f3
  go_wp2_with fail
  go_end0
  exact ⟨(MFr.quiet (Fr.alloc Zero _ _) hlt).trans HE.out.2, HE.out.1, rfl⟩

end Go.Proofs.YtnhkalnihjkoeaaGreatDoor
