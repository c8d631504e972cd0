/- What a maker makes: numbers, texts, bytes, as they are written; the maker with all that it has told. -/
import Derived.Test.YtdcjogpkogidaaaGreatDoorMdMText
import Derived.Test.YtdcjogpkogidaaaGreatDoorMdDCount
section
namespace Go.Proofs.YtdcjogpkogidaaaGreatDoor
open Go.RowKit

/-- The reader's block: what is left, the bytes so far, whether it can stand. -/
structure MB (w : World) (mb db : Nat) (s : ByteArray) (l : Bs) (bad : Bool) (ov : Value) : Prop where
  len : l.length ≤ s.size
  tail : tl s (pos s l) = l
  block : w.heap[mb]? = some (.cells #[.pointer (some ⟨db, 0, none⟩), .string s, .int .i64 (pos s l), ov, .bool bad] 274 (0, 0))

section
variable {w w' : World} {mb db : Nat} {s : ByteArray} {l : Bs} {bad : Bool} {ov : Value}
theorem MB.at0 (h : MB w mb db s l bad ov) : w.cell? ⟨mb, 0, none⟩ = some (.pointer (some ⟨db, 0, none⟩)) := by rw [cell_of_heap h.block]; rfl
theorem MB.at1 (h : MB w mb db s l bad ov) : w.cell? ⟨mb, 1, none⟩ = some (.string s) := by rw [cell_of_heap h.block]; rfl
theorem MB.at2 (h : MB w mb db s l bad ov) : w.cell? ⟨mb, 2, none⟩ = some (.int .i64 (pos s l)) := by rw [cell_of_heap h.block]; rfl
theorem MB.at3 (h : MB w mb db s l bad ov) : w.cell? ⟨mb, 3, none⟩ = some ov := by rw [cell_of_heap h.block]; rfl
theorem MB.at4 (h : MB w mb db s l bad ov) : w.cell? ⟨mb, 4, none⟩ = some (.bool bad) := by rw [cell_of_heap h.block]; rfl
theorem MB.free (h : MB w mb db s l bad ov) (o : Nat) : w.frozen? ⟨mb, o, none⟩ = false := free_of_heap h.block
theorem MB.lt (h : MB w mb db s l bad ov) : mb < w.heap.size := lt_of_heap h.block
theorem MB.keep (h : MB w mb db s l bad ov) {X : Nat → Prop} (hf : Fr X w w') (hx : ¬ X mb) : MB w' mb db s l bad ov := ⟨h.len, h.tail, hf.keep h.block hx⟩
theorem MB.posle (_h : MB w mb db s l bad ov) : pos s l ≤ s.size := Nat.sub_le _ _
theorem MB.next {b : UInt8} {r : Bs} (h : MB w mb db s (b :: r) bad ov) : pos s (b :: r) < s.size ∧ pos s r = pos s (b :: r) + 1 ∧ tl s (pos s r) = r ∧ (∀ hn : pos s (b :: r) < s.size, s[pos s (b :: r)] = b) := by
  have hl := h.len
  have ht := h.tail
  simp only [List.length_cons] at hl
  have hp : pos s (b :: r) < s.size := by simp only [pos, List.length_cons]; omega
  have hp1 : pos s r = pos s (b :: r) + 1 := by simp only [pos, List.length_cons]; omega
  rw [tl_cons hp] at ht
  simp only [List.cons.injEq] at ht
  exact ⟨hp, hp1, by rw [hp1]; exact ht.2, fun _ => ht.1⟩
theorem MB.end (h : MB w mb db s [] bad ov) : pos s [] = s.size := by have := h.len; simp [pos]
theorem MB.move {r : Bs} (h : MB w mb db s l bad ov) (hl : r.length ≤ s.size) (ht : tl s (pos s r) = r) : MB (w.setCell ⟨mb, 2, none⟩ (.int .i64 (pos s r))) mb db s r bad ov := by
  refine ⟨hl, ht, ?_⟩
  rw [heap_setCell_same h.block]; rfl
theorem MB.outs (h : MB w mb db s l bad ov) (v : Value) : MB (w.setCell ⟨mb, 3, none⟩ v) mb db s l bad v := by
  refine ⟨h.len, h.tail, ?_⟩
  rw [heap_setCell_same h.block]; rfl
end

/-- The reader and what it has written: all from B on. -/
def MS (w : World) (B mb db : Nat) (s : ByteArray) (l : Bs) (bad : Bool) (out : Bs) : Prop := ∃ ov, MB w mb db s l bad ov ∧ B ≤ mb ∧ BO w B ov out

/-- What a call of the reader may write. -/
def MX (w : World) (mb : Nat) : Nat → Prop := fun k => k = mb ∨ ∃ v, w.cell? ⟨mb, 3, none⟩ = some v ∧ v.ownBlock = some k
structure MFr (mb : Nat) (w w' : World) : Prop where
  fr : Fr (MX w mb) w w'
  own : ∀ k, k < w.heap.size → MX w' mb k → MX w mb k
theorem MFr.refl (mb : Nat) (w : World) : MFr mb w w := ⟨Fr.refl _ _, fun _ _ h => h⟩
theorem MFr.trans {mb : Nat} {a b c : World} (h : MFr mb a b) (k : MFr mb b c) : MFr mb a c :=
  ⟨⟨k.fr.os.trans h.fr.os, k.fr.tape.trans h.fr.tape, k.fr.output.trans h.fr.output, Nat.le_trans h.fr.size k.fr.size, fun i hi hx => (k.fr.block i (Nat.lt_of_lt_of_le hi h.fr.size) (fun e => hx (h.own i hi e))).trans (h.fr.block i hi hx)⟩,
    fun i hi e => h.own i hi (k.own i (Nat.lt_of_lt_of_le hi h.fr.size) e)⟩
theorem MX.same {w w' : World} {mb : Nat} (h3 : w'.cell? ⟨mb, 3, none⟩ = w.cell? ⟨mb, 3, none⟩) (k : Nat) : MX w' mb k ↔ MX w mb k := by unfold MX; rw [h3]
theorem MFr.quiet {mb : Nat} {w w' : World} (hf : Fr Zero w w') (hb : mb < w.heap.size) : MFr mb w w' :=
  ⟨hf.of0, fun k _ h => (MX.same (hf.cell hb (fun h => h)) k).1 h⟩
theorem MFr.cells {mb db db' : Nat} {w w' : World} {s s' : ByteArray} {l r : Bs} {bad bad' : Bool} {ov : Value} (h : MB w mb db s l bad ov) (h' : MB w' mb db' s' r bad' ov) (hf : Fr (One mb) w w') : MFr mb w w' :=
  ⟨hf.mono (fun _ _ e => .inl e), fun k _ e => (MX.same (h'.at3.trans h.at3.symm) k).1 e⟩
theorem MX.of {w : World} {mb db : Nat} {s : ByteArray} {l : Bs} {bad : Bool} {ov : Value} (h : MB w mb db s l bad ov) {k : Nat} (hk : MX w mb k) : k = mb ∨ ov.ownBlock = some k := by
  rcases hk with e | ⟨v, e1, e2⟩
  · exact .inl e
  · rw [h.at3] at e1; simp at e1; subst e1; exact .inr e2
theorem BO.ne {w : World} {B mb : Nat} {ov : Value} {out : Bs} {cs : Array Value} {ty : TypeId} {fz : Nat × Nat} (h : BO w B ov out) (hb : w.heap[mb]? = some (.cells cs ty fz)) (hne : 5 ≠ ty) : ov.ownBlock ≠ some mb := own_ne h.own hb hne

section
variable {w w' : World} {B mb db : Nat} {s : ByteArray} {l r : Bs} {bad bad' : Bool} {out out' : Bs} {ov v' : Value}
theorem MS.from (h : MS w B mb db s l bad out) {k : Nat} (hk : MX w mb k) : B ≤ k := by
  obtain ⟨ov, h1, h2, h3⟩ := h
  rcases MX.of h1 hk with e | e
  · omega
  · exact h3.from_ k e
theorem MS.lt (h : MS w B mb db s l bad out) : mb < w.heap.size := by obtain ⟨ov, h1, _⟩ := h; exact h1.lt
theorem MS.len (h : MS w B mb db s l bad out) : l.length ≤ s.size := by obtain ⟨ov, h1, _⟩ := h; exact h1.len
theorem MS.block (h : MS w B mb db s l bad out) : ∃ ov, MB w mb db s l bad ov := by obtain ⟨ov, h1, _⟩ := h; exact ⟨ov, h1⟩
theorem MS.quiet (h : MS w B mb db s l bad out) (hf : Fr Zero w w') : MS w' B mb db s l bad out := by
  obtain ⟨ov, h1, h2, h3⟩ := h
  exact ⟨ov, h1.keep hf (fun h => h), h2, h3.keep hf (fun _ _ h => h)⟩
/-- What it has written grows. -/
theorem MS.grow (h1 : MB w mb db s l bad ov) (h2 : B ≤ mb) (h3 : BO w B ov out) (ho : BO w' B v' out') (hf : Fr (Owned ov) w w') (hv : ∀ k, k < w.heap.size → v'.ownBlock = some k → ov.ownBlock = some k) :
    MS (w'.setCell ⟨mb, 3, none⟩ v') B mb db s l bad out' ∧ MFr mb w (w'.setCell ⟨mb, 3, none⟩ v') := by
  have hb' : MB w' mb db s l bad ov := h1.keep hf (fun e => h3.ne h1.block (by decide) e)
  have hfS : Fr (One mb) w' (w'.setCell ⟨mb, 3, none⟩ v') := Fr.setCell _ _ _ _ rfl
  have hb2 := hb'.outs v'
  refine ⟨⟨v', hb2, h2, ⟨ownsRow_keep ho.own hfS (fun g hg e => ho.ne hb'.block (by decide) (by rw [hg]; exact congrArg some e)), ho.from_⟩⟩, ⟨(hf.mono (fun k _ e => .inr ⟨ov, h1.at3, e⟩)).trans (hfS.mono (fun _ _ e => .inl e)), fun k hk e => ?_⟩⟩
  rcases MX.of hb2 e with e | e
  · exact .inl e
  · exact .inr ⟨ov, h1.at3, hv k hk e⟩
end

theorem run_out2 {w : World} {B : Nat} {sv : Value} {acc : Bs} (h : BO w B sv acc) (hB : B ≤ w.heap.size) (tx ty : TypeId) (x : Value) (more : Bs) (hs : Src Tryz.prog 1 tx x more.length (Lib.byteCells more) w) (hl : acc.length + more.length ≤ 140737488355328) :
    ∃ v' w', (Builtin.append_ #[24, tx] ty #[sv, x]).run Tryz.prog w = .ok v' w' ∧ BO w' B v' (acc ++ more) ∧ Fr (Owned sv) w w' ∧ ∀ k, k < w.heap.size → v'.ownBlock = some k → sv.ownBlock = some k := by
  obtain ⟨i, hi, hz, hsize, hby⟩ := info_parts Tryz.info5
  have ht : Tryz.prog.underlying 24 = some (.slice 5) := Tryz.underlying24
  have hlen : (Lib.byteCells (acc ++ more)).length = (acc ++ more).length * 1 := by simp [Lib.byteCells]
  have hbc : Lib.byteCells (acc ++ more) = Lib.byteCells acc ++ Lib.byteCells more := by simp [Lib.byteCells]
  have hml : (Lib.byteCells more).length = more.length := by simp [Lib.byteCells]
  have hal : (Lib.byteCells acc).length = acc.length := by simp [Lib.byteCells]
  have h63 : acc.length + more.length ≤ maxLen := by unfold maxLen; omega
  have hs' := hs
  rw [← hsize] at hs'
  -- what a new row is
  have grown : ∀ (base : Option Addr) (cap : Nat), cap < acc.length + more.length → sv = .slice base acc.length cap → (Builtin.firstCells i.size acc.length (.slice base acc.length cap)).run Tryz.prog w.drew = .ok (Lib.byteCells acc).toArray w.drew →
      ∃ v' w', (Builtin.append_ #[24, tx] ty #[sv, x]).run Tryz.prog w = .ok v' w' ∧ BO w' B v' (acc ++ more) ∧ Fr (Owned sv) w w' ∧ ∀ k, k < w.heap.size → v'.ownBlock = some k → sv.ownBlock = some k := by
    intro base cap hcap hsv hold
    subst hsv
    have hr := run_append_grow_src (P := Tryz.prog) w 24 tx ty 5 i (.int .u8 0) ht hi hz base acc.length cap (Lib.byteCells acc) hold x more.length (Lib.byteCells more) hs' hcap (by omega) (by rw [hby]; exact growslice_fits hcap (by omega))
    have hge := grownCap_ge w (acc.length + more.length) cap 5
    have hcm : grownCap w (acc.length + more.length) cap 5 ≤ maxLen := grownCap_le_maxLen w (acc.length + more.length) cap 5 h63
    refine ⟨_, _, hr, ⟨⟨hlen, .inr ⟨w.heap.size, _, _, by rw [List.length_append], Nat.zero_le _, heap_alloc_new w.drew _, by rw [List.length_append]; exact hge, hcm, ?_, ?_⟩⟩, fun g hg => ?_⟩, ⟨rfl, rfl, rfl, by simp, fun k hk _ => Below.heap_alloc w.drew _ _ hk⟩, fun k hk e => by simp [Value.ownBlock] at e; omega⟩
    · simp only [Array.size_append, List.size_toArray, size_zeroCells, List.length_append, hal, hml, Value.cells]
      simp
      omega
    · rw [hbc, ← hlen, hbc]
      simp only [Array.toList_append]
      exact List.take_left
    · simp [Value.ownBlock] at hg
      omega
  rcases h.own.2 with ⟨rfl, e⟩ | ⟨g, cap, cur, rfl, hbg, hg, hnc, hcm, hcs, htake⟩
  · by_cases hm : more.length = 0
    · have hm0 : more = [] := List.eq_nil_of_length_eq_zero hm
      have ha0 : acc = [] := List.eq_nil_of_length_eq_zero e
      subst hm0 ha0
      refine ⟨.slice none 0 0, w, ?_, BO.nil _ _, Fr.refl _ _, fun k _ e => by simp [Value.ownBlock] at e⟩
      have hc := hs'.cells
      have hl0 := hs'.len w
      simp [Lib.byteCells] at hc hl0
      rcases hs'.kind with ⟨e', hk⟩ | hk <;> simp [Builtin.append_, run_underlying ht, run_underlying hk, sizeOf, typeInfo, hi, hl0, hc]
    · exact grown none 0 (by omega) (by rw [e]) (by rw [e]; have ha0 : acc = [] := List.eq_nil_of_length_eq_zero e; subst ha0; exact run_firstCells_none w.drew i.size 0 0 0)
  · by_cases hroom : acc.length + more.length ≤ cap
    · have hfit : acc.length * i.size + (Lib.byteCells more).length ≤ cur.size := by rw [hml, hcs, hsize]; omega
      have hst := run_storeCells_at Tryz.prog g (acc.length * i.size) 5 (Lib.byteCells more) 0 cur w hg (by simpa using hfit) hs.one
      simp only [Nat.add_zero] at hst
      have hr : (Builtin.append_ #[24, tx] ty #[.slice (some ⟨g, 0, none⟩) acc.length cap, x]).run Tryz.prog w = .ok (.slice (some ⟨g, 0, none⟩) (acc.length + more.length) cap) (w.setRow g (cur.toList.take (acc.length * i.size) ++ Lib.byteCells more ++ cur.toList.drop (acc.length * i.size + (Lib.byteCells more).length)).toArray) := by
        rcases hs'.kind with ⟨e', hk⟩ | hk <;> simp [Builtin.append_, run_underlying ht, run_underlying hk, sizeOf, typeInfo, hi, hs'.len, hroom, hs'.cells, Addr.add_lit, hst]
      refine ⟨_, _, hr, ⟨⟨hlen, .inr ⟨g, cap, _, by rw [List.length_append], Nat.zero_le _, setRow_heap w g cur _ 5 _ hg, by rw [List.length_append]; exact hroom, hcm, ?_, ?_⟩⟩, fun g' hg' => ?_⟩, ⟨rfl, rfl, rfl, by simp, fun k _ hk => setRow_other w g k _ (fun e => hk (by subst e; rfl))⟩, fun k _ e => by simpa [Value.ownBlock] using e⟩
      · simp only [List.size_toArray, List.length_append, List.length_take, List.length_drop, Array.length_toList]
        omega
      · rw [hbc, hsize, htake, ← hlen, hbc]
        exact List.take_left
      · simp [Value.ownBlock] at hg'
        subst hg'
        exact h.from_ _ rfl
    · exact grown _ cap (by omega) rfl (run_firstCells_some w.drew i.size acc.length _ _ _ (Lib.byteCells acc) (by rw [hal, hsize]; omega) (by simpa using h.own.cells (g := g) rfl))

theorem wpList_out2 {w : World} {ops : Array Oper} {rest : List Oper} {o : Oper} {a : Act} {Q : Exit → Act → World → Prop}
    (hg : o.guard = none) (s x : Operand) (tx : TypeId) (hop : o.op = Op.call { callee := Callee.builtin Builtin.append, args := #[s, x], argTypes := #[24, tx] })
    {B : Nat} {sv xv : Value} {acc : Bs} (more : Bs) (hs : a.eval s = sv) (hx : a.eval x = xv) (h : BO w B sv acc) (hsrc : Src Tryz.prog 1 tx xv more.length (Lib.byteCells more) w) (hB : B ≤ w.heap.size) (hl : acc.length + more.length ≤ 140737488355328)
    (hK : ∀ v' w', BO w' B v' (acc ++ more) → Fr (Owned sv) w w' → (∀ k, k < w.heap.size → v'.ownBlock = some k → sv.ownBlock = some k) → wpList Tryz.prog ops Q rest (a.put o.dst v') w') :
    wpList Tryz.prog ops Q (o :: rest) a w := by
  refine wpList_plain hg fun K hK' => ?_
  obtain ⟨v', w', hrun, r1, r2, r3⟩ := run_out2 h hB tx o.type xv more hsrc hl
  unfold Oper.wp
  simp [execOp, hop, resolve, invoke, builtin, hs, hx, hrun, Result.andThen]
  exact hK' _ _ (hK v' w' r1 r2 r3)

/-- The reader and a row of bytes of a call's own beside it. -/
structure MT (w wr : World) (mb db : Nat) (s : ByteArray) (ov : Value) (r : Bs) (bad : Bool) (sv : Value) (acc : Bs) : Prop where
  kb : MB wr mb db s r bad ov
  bo : BO wr w.heap.size sv acc
  fr : Fr (TX mb w) w wr
  lt : mb < w.heap.size
section
variable {w wr w' : World} {B mb db : Nat} {s : ByteArray} {ov : Value} {l r : Bs} {bad : Bool} {sv : Value} {acc out : Bs}
theorem MT.drewN (h : MT w wr mb db s ov r bad sv acc) (k : Nat) : MT w (wr.drewN k) mb db s ov r bad sv acc :=
  ⟨h.kb.keep (Fr.drewN Zero _ _) (fun h => h), h.bo.keep (Fr.drewN Zero _ _) (fun _ _ h => h), h.fr.trans (Fr.drewN _ _ _), h.lt⟩
theorem MT.alloc (h : MT w wr mb db s ov r bad sv acc) (o : Obj) : MT w (wr.alloc o) mb db s ov r bad sv acc :=
  ⟨h.kb.keep (Fr.alloc Zero _ _) (fun h => h), h.bo.alloc o, h.fr.trans (Fr.alloc _ _ _), h.lt⟩
theorem MT.more (h : MT w wr mb db s ov r bad sv acc) {v' : Value} {acc' : Bs} (hb : BO w' w.heap.size v' acc') (hf : Fr (From w.heap.size) wr w') : MT w w' mb db s ov r bad v' acc' :=
  ⟨h.kb.keep hf (fun e => by unfold From at e; have := h.lt; omega), hb, h.fr.trans (hf.mono (fun _ _ e => .inr e)), h.lt⟩
theorem MT.one (h : MT w wr mb db s ov r bad sv acc) {r' : Bs} {bad' : Bool} (hb : MB w' mb db s r' bad' ov) (hf : Fr (One mb) wr w') : MT w w' mb db s ov r' bad' sv acc :=
  ⟨hb, h.bo.keep hf (fun k hk e => by have e' : k = mb := e; have := h.lt; omega), h.fr.trans (hf.mono (fun _ _ e => .inl e)), h.lt⟩
theorem MT.size (h : MT w wr mb db s ov r bad sv acc) : w.heap.size ≤ wr.heap.size := h.fr.size
theorem BO.lt {B : Nat} (h : BO w B ov out) {k : Nat} (hk : ov.ownBlock = some k) : k < w.heap.size := (h.own.lt k hk).2
end

def hd (l : Bs) : Nat := match l with
  | [] => 0
  | b :: _ => b.toNat
end Go.Proofs.YtdcjogpkogidaaaGreatDoor
end
section
namespace Go.Proofs.YtdcjogpkogidaaaGreatDoor.Q
open Go.RowKit

theorem leNat_snoc : ∀ (l : Bs) (d : UInt8), leNat (l ++ [d]) = leNat l + 256 ^ l.length * d.toNat := by
  intro l
  induction l with
  | nil => intro d; simp [leNat]
  | cons b l ih =>
    intro d
    rw [List.cons_append]
    simp only [leNat, ih, List.length_cons, Nat.pow_succ]
    rw [Nat.mul_add, Nat.mul_comm (256 ^ l.length) 256, Nat.mul_assoc]
    omega
theorem leNat_lt : ∀ (l : Bs), leNat l < 256 ^ l.length := by
  intro l
  induction l with
  | nil => simp [leNat]
  | cons b l ih =>
    have := b.toNat_lt
    simp only [leNat, List.length_cons, Nat.pow_succ]
    omega
theorem be_digit (m : Nat) : ∀ k, k < 8 → (m * 256 ^ k % 18446744073709551616) / 72057594037927936 = m / 256 ^ (7 - k) % 256 := by
  intro k hk
  match k, hk with
  | 0, _ => simp; omega
  | 1, _ => simp; omega
  | 2, _ => simp; omega
  | 3, _ => simp; omega
  | 4, _ => simp; omega
  | 5, _ => simp; omega
  | 6, _ => simp; omega
  | 7, _ => simp; omega
theorem ofNat_mod (n : Nat) : UInt8.ofNat (n % 256) = UInt8.ofNat n := by
  apply UInt8.toNat_inj.1
  simp

/-- Strings as cells. -/
def strs (l : List Bs) : List Value := l.map fun p => .string (ba p)
theorem strs_snoc (l : List Bs) (p : Bs) : strs (l ++ [p]) = strs l ++ [.string (ba p)] := by simp [strs]
/-- The blocks that a maker may write into: its own, and all from B2 on. -/
def MF (mb B2 : Nat) : Nat → Prop := fun k => k = mb ∨ B2 ≤ k
/-- A maker in memory with all that it has told; its rows lie from B2 on, apart from one another and from itself. -/
structure MM (w : World) (B2 mb : Nat) (tv : Value) (n : Nat) (ps qs : List Bs) (nums : List (Bs × Int)) (sz : Nat) (pv qv nv : Value) : Prop where
  bk : MK w mb tv n pv qv nv sz
  rp : PRow w 9 1 pv ps.length (strs ps)
  rq : PRow w 9 1 qv qs.length (strs qs)
  rn : PRow w 187 2 nv nums.length (numCells nums)
  ap : ∀ g, blockOf pv = some g → blockOf qv ≠ some g
  fp : ∀ g, blockOf pv = some g → B2 ≤ g
  fq : ∀ g, blockOf qv = some g → B2 ≤ g
  fn : ∀ g, blockOf nv = some g → B2 ≤ g
def MZ (w : World) (B2 mb : Nat) (tv : Value) (n : Nat) (ways : List (Bs × Bs)) (nums : List (Bs × Int)) (sz : Nat) : Prop := ∃ pv qv nv, MM w B2 mb tv n (ways.map (·.1)) (ways.map (·.2)) nums sz pv qv nv

section
variable {w w1 w' : World} {B B2 mb n sz : Nat} {tv pv qv nv v' : Value} {ps qs : List Bs} {nums : List (Bs × Int)}
theorem MM.lt (h : MM w B2 mb tv n ps qs nums sz pv qv nv) : mb < w.heap.size := h.bk.lt
theorem PRow.one {ty : TypeId} {c m : Nat} {v : Value} {xs : List Value} {cs : Array Value} {f : Nat × Nat} (h : PRow w ty c v m xs) (hm : w.heap[mb]? = some (.cells cs 36 f)) (ht : ty ≠ 36) (hf : Fr (One mb) w w') : PRow w' ty c v m xs :=
  h.keep hf (fun g hg e => h.ne hm ht (by have e' : g = mb := e; rw [← e']; exact hg))
/-- Nothing of it was written but its own block. -/
theorem MM.one (h : MM w B2 mb tv n ps qs nums sz pv qv nv) (hf : Fr (One mb) w w') {n' sz' : Nat} (hk : MK w' mb tv n' pv qv nv sz') : MM w' B2 mb tv n' ps qs nums sz' pv qv nv :=
  ⟨hk, h.rp.one h.bk (by decide) hf, h.rq.one h.bk (by decide) hf, h.rn.one h.bk (by decide) hf, h.ap, h.fp, h.fq, h.fn⟩
/-- Only its own block, and blocks that came later. -/
theorem MM.tx {w0 : World} (h : MM w B2 mb tv n ps qs nums sz pv qv nv) (h0 : w.heap.size ≤ w0.heap.size) (hf : Fr (TX mb w0) w w') {n' sz' : Nat} (hk : MK w' mb tv n' pv qv nv sz') : MM w' B2 mb tv n' ps qs nums sz' pv qv nv := by
  have hx : ∀ (v : Value) (ty : TypeId) (c m : Nat) (xs : List Value), PRow w ty c v m xs → ty ≠ 36 → ∀ g, blockOf v = some g → ¬ TX mb w0 g := fun v ty c m xs hr ht g hg e => by
    rcases e with e | e
    · exact hr.ne h.bk ht (by rw [← e]; exact hg)
    · have := hr.ltB hg; omega
  exact ⟨hk, h.rp.keep hf (hx _ _ _ _ _ h.rp (by decide)), h.rq.keep hf (hx _ _ _ _ _ h.rq (by decide)), h.rn.keep hf (hx _ _ _ _ _ h.rn (by decide)), h.ap, h.fp, h.fq, h.fn⟩
theorem MM.quiet (h : MM w B2 mb tv n ps qs nums sz pv qv nv) (hf : Fr Zero w w') : MM w' B2 mb tv n ps qs nums sz pv qv nv :=
  ⟨hf.keep h.bk (fun e => e), h.rp.keep hf (fun _ _ e => e), h.rq.keep hf (fun _ _ e => e), h.rn.keep hf (fun _ _ e => e), h.ap, h.fp, h.fq, h.fn⟩
theorem TX.mf (hB : B2 ≤ w.heap.size) (k : Nat) (h : TX mb w k) : MF mb B2 k := by
  rcases h with h | h
  · exact .inl h
  · exact .inr (Nat.le_trans hB h)
theorem Fr.mf (hB : B2 ≤ w.heap.size) (h : Fr (TX mb w) w w') : Fr (MF mb B2) w w' := h.mono (fun k _ e => TX.mf hB k e)
theorem PRow.sep {t1 t2 : TypeId} {c1 c2 m1 m2 : Nat} {v1 v2 : Value} {x1 x2 : List Value} (h1 : PRow w t1 c1 v1 m1 x1) (h2 : PRow w t2 c2 v2 m2 x2) (ht : t1 ≠ t2) : ∀ g, blockOf v1 = some g → blockOf v2 ≠ some g := fun g hg e => by
  rcases h2.2 with ⟨q, _⟩ | ⟨fb, off, cap, cur, q1, q2, _⟩
  · rw [q] at e; simp [blockOf] at e
  · rw [q1] at e; simp [blockOf] at e; exact h1.ne q2 ht (by rw [e]; exact hg)
/-- A row that has grown, and is kept in another field. -/
theorem PRow.past {ty : TypeId} {c m : Nat} {v u : Value} {xs : List Value} {o : Nat} {z : Value} {cs : Array Value} {f : Nat × Nat} (h : PRow w1 ty c v m xs) (ht : ty ≠ 36) (hf : Fr (Owns u) w1 w') (hap : ∀ g, blockOf v = some g → blockOf u ≠ some g) (hm : w'.heap[mb]? = some (.cells cs 36 f)) :
    PRow (w'.setCell ⟨mb, o, none⟩ z) ty c v m xs :=
  (h.keep hf (fun g hg e => hap g hg e)).one hm ht (Fr.setCell _ _ _ _ rfl)
theorem frM (hx : ∀ g, blockOf nv = some g → B2 ≤ g) (hf : Fr (Owns nv) w1 w') (o : Nat) : Fr (MF mb B2) w1 (w'.setCell ⟨mb, o, none⟩ v') :=
  (hf.mono (fun k _ e => .inr (hx k e))).trans (Fr.setCell _ _ _ _ (.inl rfl))
theorem newF (hx : ∀ g, blockOf nv = some g → B2 ≤ g) (hB : B2 ≤ w1.heap.size) (hv : ∀ k, k < w1.heap.size → blockOf v' = some k → blockOf nv = some k) : ∀ g, blockOf v' = some g → B2 ≤ g := fun g hg => by
  rcases Nat.lt_or_ge g w1.heap.size with q | q
  · exact hx g (hv g q hg)
  · omega
/-- A number is noted. -/
theorem MM.num (h : MM w1 B2 mb tv n ps qs nums sz pv qv nv) (hB : B2 ≤ w1.heap.size) {st : Bs} {V : Int}
    (hr : PRow w' 187 2 v' (nums.length + 1) (numCells nums ++ [.string (ba st), .int .i64 V])) (hf : Fr (Owns nv) w1 w') (hv : ∀ k, k < w1.heap.size → blockOf v' = some k → blockOf nv = some k) :
    MK w' mb tv n pv qv nv sz ∧ MM (w'.setCell ⟨mb, 4, none⟩ v') B2 mb tv n ps qs (nums ++ [(st, V)]) sz pv qv v' ∧ Fr (MF mb B2) w1 (w'.setCell ⟨mb, 4, none⟩ v') := by
  have hm : MK w' mb tv n pv qv nv sz := hf.keep h.bk (fun e => h.rn.ne h.bk (by decide) e)
  refine ⟨hm, ⟨?_, h.rp.past (by decide) hf (h.rp.sep h.rn (by decide)) hm, h.rq.past (by decide) hf (h.rq.sep h.rn (by decide)) hm, ?_, h.ap, h.fp, h.fq, newF h.fn hB hv⟩, frM h.fn hf 4⟩
  · show _ = _
    rw [heap_setCell_same hm]
    rfl
  · rw [numCells_snoc, List.length_append]
    exact hr.one hm (by decide) (Fr.setCell _ _ _ _ rfl)
/-- A path is noted. -/
theorem MM.addP (h : MM w1 B2 mb tv n ps qs nums sz pv qv nv) (hB : B2 ≤ w1.heap.size) {p : Bs}
    (hr : PRow w' 9 1 v' (ps.length + 1) (strs ps ++ [.string (ba p)])) (hf : Fr (Owns pv) w1 w') (hv : ∀ k, k < w1.heap.size → blockOf v' = some k → blockOf pv = some k) :
    MK w' mb tv n pv qv nv sz ∧ MM (w'.setCell ⟨mb, 2, none⟩ v') B2 mb tv n (ps ++ [p]) qs nums sz v' qv nv ∧ Fr (MF mb B2) w1 (w'.setCell ⟨mb, 2, none⟩ v') := by
  have hm : MK w' mb tv n pv qv nv sz := hf.keep h.bk (fun e => h.rp.ne h.bk (by decide) e)
  refine ⟨hm, ⟨?_, ?_, h.rq.past (by decide) hf (fun g hg e => h.ap g e hg) hm, h.rn.past (by decide) hf (h.rn.sep h.rp (by decide)) hm, fun g hg e => ?_, newF h.fp hB hv, h.fq, h.fn⟩, frM h.fp hf 2⟩
  · show _ = _
    rw [heap_setCell_same hm]
    rfl
  · rw [strs_snoc, List.length_append]
    exact hr.one hm (by decide) (Fr.setCell _ _ _ _ rfl)
  · exact h.ap g (hv g (h.rq.ltB e) hg) e
/-- A part is noted. -/
theorem MM.addQ (h : MM w1 B2 mb tv n ps qs nums sz pv qv nv) (hB : B2 ≤ w1.heap.size) {p : Bs}
    (hr : PRow w' 9 1 v' (qs.length + 1) (strs qs ++ [.string (ba p)])) (hf : Fr (Owns qv) w1 w') (hv : ∀ k, k < w1.heap.size → blockOf v' = some k → blockOf qv = some k) :
    MK w' mb tv n pv qv nv sz ∧ MM (w'.setCell ⟨mb, 3, none⟩ v') B2 mb tv n ps (qs ++ [p]) nums sz pv v' nv ∧ Fr (MF mb B2) w1 (w'.setCell ⟨mb, 3, none⟩ v') := by
  have hm : MK w' mb tv n pv qv nv sz := hf.keep h.bk (fun e => h.rq.ne h.bk (by decide) e)
  refine ⟨hm, ⟨?_, h.rp.past (by decide) hf (fun g hg e => h.ap g hg e) hm, ?_, h.rn.past (by decide) hf (h.rn.sep h.rq (by decide)) hm, fun g hg e => ?_, h.fp, newF h.fq hB hv, h.fn⟩, frM h.fq hf 3⟩
  · show _ = _
    rw [heap_setCell_same hm]
    rfl
  · rw [strs_snoc, List.length_append]
    exact hr.one hm (by decide) (Fr.setCell _ _ _ _ rfl)
  · exact h.ap g hg (hv g (h.rp.ltB hg) e)
theorem PRow.put {ty : TypeId} {m fb off cap j : Nat} {xs : List Value} (h : PRow w ty 1 (.slice (some ⟨fb, off, none⟩) m cap) m xs) (u : Value) : PRow (w.setCell ⟨fb, off + j, none⟩ u) ty 1 (.slice (some ⟨fb, off, none⟩) m cap) m (xs.set j u) := by
  obtain ⟨h0, h⟩ := h
  refine ⟨by rw [List.length_set]; exact h0, ?_⟩
  rcases h with ⟨q, _⟩ | ⟨fb', off', cap', cur, q, h2, h3, h4, h5, h6⟩
  · simp at q
  · simp at q
    obtain ⟨⟨rfl, rfl⟩, rfl⟩ := q
    refine .inr ⟨fb, off, cap, cur.setIfInBounds (off + j) u, rfl, heap_setCell_same h2, h3, by simpa using h4, h5, fun i v hv => ?_⟩
    have hil : i < xs.length := by have := (List.getElem?_eq_some_iff.1 hv).1; simpa using this
    rw [List.getElem?_set] at hv
    rw [Array.getElem?_setIfInBounds]
    by_cases hij : j = i
    · subst hij
      rw [if_pos rfl, if_pos hil] at hv
      have := h6 j _ (List.getElem?_eq_getElem hil)
      have hlt := (Array.getElem?_eq_some_iff.1 this).1
      rw [if_pos rfl, if_pos hlt]
      exact hv
    · rw [if_neg hij] at hv
      rw [if_neg (by omega)]
      exact h6 i v hv
theorem strs_set (a b : List Bs) (p q : Bs) : (strs (a ++ p :: b)).set a.length (.string (ba q)) = strs (a ++ q :: b) := by
  simp only [strs, List.map_append, List.map_cons]
  rw [List.set_append_right _ _ (by simp)]
  simp
/-- A part is told. -/
theorem MM.setQ {a b : List Bs} {p q : Bs} (h : MM w B2 mb tv n ps (a ++ p :: b) nums sz pv qv nv) : ∃ fb off cap, qv = .slice (some ⟨fb, off, none⟩) (a ++ p :: b).length cap ∧ w.cell? ⟨fb, off + a.length, none⟩ = some (.string (ba p)) ∧ w.frozen? ⟨fb, off + a.length, none⟩ = false ∧
    MM (w.setCell ⟨fb, off + a.length, none⟩ (.string (ba q))) B2 mb tv n ps (a ++ q :: b) nums sz pv qv nv ∧ Fr (MF mb B2) w (w.setCell ⟨fb, off + a.length, none⟩ (.string (ba q))) := by
  obtain ⟨fb, off, cap, e, hc⟩ := h.rq.at_ (j := a.length) (u := .string (ba p)) (by simp [strs])
  have hfz : w.frozen? ⟨fb, off + a.length, none⟩ = false := by
    rcases h.rq.2 with ⟨q, _⟩ | ⟨fb', off', cap', cur, q, h2, _⟩
    · rw [e] at q; simp at q
    · rw [e] at q
      simp at q
      obtain ⟨⟨rfl, rfl⟩, rfl⟩ := q
      exact free_of_heap h2
  have hb : blockOf qv = some fb := by rw [e]; rfl
  have hS : Fr (One fb) w (w.setCell ⟨fb, off + a.length, none⟩ (.string (ba q))) := Fr.setCell _ _ _ _ rfl
  have hq := h.rq
  rw [e] at hq
  have hq2 := hq.put (j := a.length) (.string (ba q))
  rw [strs_set] at hq2
  refine ⟨fb, off, cap, e, hc, hfz, ⟨hS.keep h.bk (fun e' => ?_), h.rp.keep hS (fun g hg e' => ?_), ?_, h.rn.keep hS (fun g hg e' => ?_), h.ap, h.fp, h.fq, h.fn⟩, hS.mono (fun k _ e' => ?_)⟩
  · have e2 : mb = fb := e'
    exact h.rq.ne h.bk (by decide) (by rw [e2]; exact hb)
  · have e2 : g = fb := e'
    exact h.ap g hg (by rw [e2]; exact hb)
  · rw [e]
    have hl : (a ++ q :: b).length = (a ++ p :: b).length := by simp
    rw [hl]
    exact hq2
  · have e2 : g = fb := e'
    exact h.rn.sep h.rq (by decide) g hg (by rw [e2]; exact hb)
  · have e2 : k = fb := e'
    exact .inr (h.fq k (by rw [e2]; exact hb))
end

end Go.Proofs.YtdcjogpkogidaaaGreatDoor.Q
end
