/- How bytes are appended to a row of bytes: a byte, two, those of a string. -/
import Derived.Deep.AppendSrc
import Derived.Test.YtdcjogpkogidaaaGreatDoorMdVHex
import Derived.Test.YtdcjogpkogidaaaGreatDoorMdVWrite
namespace Go.Proofs.YtdcjogpkogidaaaGreatDoor
open Go.RowKit

/-- All from B on. -/
def From (B : Nat) : Nat → Prop := fun k => B ≤ k
/-- The block of a slice. -/
def Owned (sv : Value) : Nat → Prop := fun k => sv.ownBlock = some k

theorem run_out {w : World} {B : Nat} {sv : Value} {acc : Bs} (h : BO w B sv acc) (hB : B ≤ w.heap.size) (tx ty : TypeId) (x : Value) (more : Bs) (hs : Src Tryz.prog 1 tx x more.length (Lib.byteCells more) w) (hl : acc.length + more.length ≤ 140737488355328) :
    ∃ v' w', (Builtin.append_ #[24, tx] ty #[sv, x]).run Tryz.prog w = .ok v' w' ∧ BO w' B v' (acc ++ more) ∧ Fr (Owned sv) w w' := by
  obtain ⟨i, hi, hz, hsize, hby⟩ := info_parts Tryz.info5
  have ht : Tryz.prog.underlying 24 = some (.slice 5) := Tryz.underlying24
  have hlen : (Lib.byteCells (acc ++ more)).length = (acc ++ more).length * 1 := by simp [Lib.byteCells]
  have hbc : Lib.byteCells (acc ++ more) = Lib.byteCells acc ++ Lib.byteCells more := by simp [Lib.byteCells]
  have hml : (Lib.byteCells more).length = more.length := by simp [Lib.byteCells]
  have hal : (Lib.byteCells acc).length = acc.length := by simp [Lib.byteCells]
  have h63 : acc.length + more.length ≤ maxLen := by unfold maxLen; omega
  have hs' := hs
  rw [← hsize] at hs'
  -- what a new row is
  have grown : ∀ (base : Option Addr) (cap : Nat), cap < acc.length + more.length → sv = .slice base acc.length cap → (Builtin.firstCells i.size acc.length (.slice base acc.length cap)).run Tryz.prog w.drew = .ok (Lib.byteCells acc).toArray w.drew →
      ∃ v' w', (Builtin.append_ #[24, tx] ty #[sv, x]).run Tryz.prog w = .ok v' w' ∧ BO w' B v' (acc ++ more) ∧ Fr (Owned sv) w w' := by
    intro base cap hcap hsv hold
    subst hsv
    have hr := run_append_grow_src (P := Tryz.prog) w 24 tx ty 5 i (.int .u8 0) ht hi hz base acc.length cap (Lib.byteCells acc) hold x more.length (Lib.byteCells more) hs' hcap (by omega) (by rw [hby]; exact growslice_fits hcap (by omega))
    have hge := grownCap_ge w (acc.length + more.length) cap 5
    have hcm : grownCap w (acc.length + more.length) cap 5 ≤ maxLen := grownCap_le_maxLen w (acc.length + more.length) cap 5 h63
    refine ⟨_, _, hr, ⟨⟨hlen, .inr ⟨w.heap.size, _, _, by rw [List.length_append], Nat.zero_le _, heap_alloc_new w.drew _, by rw [List.length_append]; exact hge, hcm, ?_, ?_⟩⟩, fun g hg => ?_⟩, ⟨rfl, rfl, rfl, by simp, fun k hk _ => Below.heap_alloc w.drew _ _ hk⟩⟩
    · simp only [Array.size_append, List.size_toArray, size_zeroCells, List.length_append, hal, hml, Value.cells]
      simp
      omega
    · rw [hbc, ← hlen, hbc]
      simp only [Array.toList_append]
      exact List.take_left
    · simp [Value.ownBlock] at hg
      omega
  rcases h.own.2 with ⟨rfl, e⟩ | ⟨g, cap, cur, rfl, hbg, hg, hnc, hcm, hcs, htake⟩
  · by_cases hm : more.length = 0
    · have hm0 : more = [] := List.eq_nil_of_length_eq_zero hm
      have ha0 : acc = [] := List.eq_nil_of_length_eq_zero e
      subst hm0 ha0
      refine ⟨.slice none 0 0, w, ?_, BO.nil _ _, Fr.refl _ _⟩
      have hc := hs'.cells
      have hl0 := hs'.len w
      simp [Lib.byteCells] at hc hl0
      rcases hs'.kind with ⟨e', hk⟩ | hk <;> simp [Builtin.append_, run_underlying ht, run_underlying hk, sizeOf, typeInfo, hi, hl0, hc]
    · exact grown none 0 (by omega) (by rw [e]) (by rw [e]; have ha0 : acc = [] := List.eq_nil_of_length_eq_zero e; subst ha0; exact run_firstCells_none w.drew i.size 0 0 0)
  · by_cases hroom : acc.length + more.length ≤ cap
    · have hfit : acc.length * i.size + (Lib.byteCells more).length ≤ cur.size := by rw [hml, hcs, hsize]; omega
      have hst := run_storeCells_at Tryz.prog g (acc.length * i.size) 5 (Lib.byteCells more) 0 cur w hg (by simpa using hfit) hs.one
      simp only [Nat.add_zero] at hst
      have hr : (Builtin.append_ #[24, tx] ty #[.slice (some ⟨g, 0, none⟩) acc.length cap, x]).run Tryz.prog w = .ok (.slice (some ⟨g, 0, none⟩) (acc.length + more.length) cap) (w.setRow g (cur.toList.take (acc.length * i.size) ++ Lib.byteCells more ++ cur.toList.drop (acc.length * i.size + (Lib.byteCells more).length)).toArray) := by
        rcases hs'.kind with ⟨e', hk⟩ | hk <;> simp [Builtin.append_, run_underlying ht, run_underlying hk, sizeOf, typeInfo, hi, hs'.len, hroom, hs'.cells, Addr.add_lit, hst]
      refine ⟨_, _, hr, ⟨⟨hlen, .inr ⟨g, cap, _, by rw [List.length_append], Nat.zero_le _, setRow_heap w g cur _ 5 _ hg, by rw [List.length_append]; exact hroom, hcm, ?_, ?_⟩⟩, fun g' hg' => ?_⟩, ⟨rfl, rfl, rfl, by simp, fun k _ hk => setRow_other w g k _ (fun e => hk (by subst e; rfl))⟩⟩
      · simp only [List.size_toArray, List.length_append, List.length_take, List.length_drop, Array.length_toList]
        omega
      · rw [hbc, hsize, htake, ← hlen, hbc]
        exact List.take_left
      · simp [Value.ownBlock] at hg'
        subst hg'
        exact h.from_ _ rfl
    · exact grown _ cap (by omega) rfl (run_firstCells_some w.drew i.size acc.length _ _ _ (Lib.byteCells acc) (by rw [hal, hsize]; omega) (by simpa using h.own.cells (g := g) rfl))

theorem wpList_out {w : World} {ops : Array Oper} {rest : List Oper} {o : Oper} {a : Act} {Q : Exit → Act → World → Prop}
    (hg : o.guard = none) (s x : Operand) (tx : TypeId) (hop : o.op = Op.call { callee := Callee.builtin Builtin.append, args := #[s, x], argTypes := #[24, tx] })
    {B : Nat} {sv xv : Value} {acc : Bs} (more : Bs) (hs : a.eval s = sv) (hx : a.eval x = xv) (h : BO w B sv acc) (hsrc : Src Tryz.prog 1 tx xv more.length (Lib.byteCells more) w) (hB : B ≤ w.heap.size) (hl : acc.length + more.length ≤ 140737488355328)
    (hK : ∀ v' w', BO w' B v' (acc ++ more) → Fr (From B) w w' → Fr (Owned sv) w w' → wpList Tryz.prog ops Q rest (a.put o.dst v') w') :
    wpList Tryz.prog ops Q (o :: rest) a w := by
  refine wpList_plain hg fun K hK' => ?_
  obtain ⟨v', w', hrun, r1, r2⟩ := run_out h hB tx o.type xv more hsrc hl
  unfold Oper.wp
  simp [execOp, hop, resolve, invoke, builtin, hs, hx, hrun, Result.andThen]
  exact hK' _ _ (hK v' w' r1 (r2.mono (fun k _ e => h.from_ k e)) r2)

theorem step_out {ops : Array Oper} {o : Oper} {a : Act} {w : World} {K : Act → World → Prop} {Q : Exit → Act → World → Prop} {E : Prop}
    (hg : o.guard = none) (s x : Operand) (tx : TypeId) (hop : o.op = Op.call { callee := Callee.builtin Builtin.append, args := #[s, x], argTypes := #[24, tx] })
    {B : Nat} {sv xv : Value} {acc : Bs} (more : Bs) (hs : a.eval s = sv) (hx : a.eval x = xv) (h : BO w B sv acc) (hsrc : Src Tryz.prog 1 tx xv more.length (Lib.byteCells more) w) (hB : B ≤ w.heap.size) (hl : acc.length + more.length ≤ 140737488355328)
    (hK : ∀ v' w', BO w' B v' (acc ++ more) → Fr (From B) w w' → Fr (Owned sv) w w' → K (a.put o.dst v') w') :
    if Region.wanted o (yielded ops a.tmps) = true then Oper.wp Tryz.prog o a w K Q else E := by
  have hw : Region.wanted o (yielded ops a.tmps) = true := by simp [Region.wanted, hg]
  rw [if_pos hw]
  obtain ⟨v', w', hrun, r1, r2⟩ := run_out h hB tx o.type xv more hsrc hl
  unfold Oper.wp
  simp [execOp, hop, resolve, invoke, builtin, hs, hx, hrun, Result.andThen]
  exact hK v' w' r1 (r2.mono (fun k _ e => h.from_ k e)) r2

theorem src_at {w' : World} {n : Nat} {b : UInt8} {t : TypeId} (h : w'.heap[n]? = some (.cells #[.int .u8 b.toNat] t (0, 0))) : Src Tryz.prog 1 24 (.slice (some ⟨n, 0, none⟩) 1 1) [b].length (Lib.byteCells [b]) w' := by
  refine Src.ofSlice w' Tryz.underlying24 _ _ _ _ rfl (fun j u hj => ?_) (fun u hu => ?_)
  · match j, hj with
    | 0, hj => simp [Lib.byteCells] at hj; subst hj; rw [show (⟨n, 0, none⟩ : Addr).add 0 = ⟨n, 0, none⟩ by simp [Addr.add]]; rw [cell_of_heap h]; rfl
    | j + 1, hj => simp [Lib.byteCells] at hj
  · simp [Lib.byteCells] at hu; subst hu; rfl
theorem src_one {w w' : World} {b : UInt8} {t : TypeId} (he : w'.heap = (w.alloc (.cells #[.int .u8 b.toNat] t)).heap) : Src Tryz.prog 1 24 (.slice (some ⟨w.heap.size, 0, none⟩) 1 1) [b].length (Lib.byteCells [b]) w' :=
  src_at (by rw [he]; exact heap_new_at rfl _)
theorem src_two {w w' : World} {b c : UInt8} {t : TypeId} (he : w'.heap = (w.alloc (.cells #[.int .u8 b.toNat, .int .u8 c.toNat] t)).heap) : Src Tryz.prog 1 24 (.slice (some ⟨w.heap.size, 0, none⟩) 2 2) [b, c].length (Lib.byteCells [b, c]) w' := by
  refine Src.ofSlice w' Tryz.underlying24 _ _ _ _ rfl (fun j u hj => ?_) (fun u hu => ?_)
  · exact news_heap he j u (by simpa [Lib.byteCells] using hj)
  · simp [Lib.byteCells] at hu; rcases hu with rfl | rfl <;> rfl
theorem src_str (w : World) (more : Bs) : Src Tryz.prog 1 9 (.string (ba more)) more.length (Lib.byteCells more) w := by
  have h := Src.ofString (P := Tryz.prog) w (tx := 9) Tryz.underlying9 (ba more)
  rw [ba_size] at h
  have e : Go.byteCells (ba more) = Lib.byteCells more := by simp [Go.byteCells, Lib.byteCells, ba]
  rw [e] at h
  exact h

/-- What a writer of text leaves. -/
def OutPost (w : World) (B : Nat) (l : Bs) (e : Ending) (w' : World) : Prop := Fr (From B) w w' ∧ ∃ sv, e = .returned sv ∧ BO w' B sv l

def quo1 (b : UInt8) : Bs := if b.toNat = 34 ∨ b.toNat = 92 then [92, b] else [b]
theorem wQuo_snoc (a : Bs) (b : UInt8) : wQuo (a ++ [b]) = wQuo a ++ quo1 b := by
  induction a with
  | nil => simp only [List.nil_append, wQuo, quo1]
  | cons c a ih => simp only [List.cons_append, wQuo]; split <;> simp [ih]
theorem wQuo_length (a : Bs) : (wQuo a).length ≤ 2 * a.length := by
  induction a with
  | nil => simp [wQuo]
  | cons c a ih => simp only [wQuo]; split <;> simp <;> omega

set_option maxHeartbeats 4000000 in
set_option maxRecDepth 100000 in
theorem appendQuoted_any (w : World) (B : Nat) (sv : Value) (acc text : Bs) (h : BO w B sv acc) (hB : B ≤ w.heap.size) (hl : acc.length + 2 * text.length + 2 ≤ 140737488355328) :
    Calls Tryz.prog 143 #[sv, .string (ba text)] w fun e w' => OutPost w B (acc ++ 34 :: (wQuo text ++ [34])) e w' := by
  have HB := hide h
  have hsz := ba_size text
  clear h
  go_enter Tryz.func143, Tryz.ntmps143
  go_wp2_with (at_builtin; refine wpList_out rfl _ _ 24 rfl [34] rfl rfl (HB.out.alloc _) (src_one rfl) ?hb1 ?hl1 ?_)
  case hb1 => simp; omega
  case hl1 => simp; omega
  intro v1 w1 hB1 hF1 _
  have HB1 := hide hB1
  have HF1 := hide ((Fr.alloc (From B) w _).trans hF1)
  have hsz1 := HF1.out.size
  clear hB1 hF1
  go_wp2_with fail
  go_loopw [0, 11] (fun ov i wr => ∃ k : Nat, k ≤ text.length ∧ i = .int .i64 k ∧ Hid (BO wr B ov (acc ++ [34] ++ wQuo (text.take k))) ∧ Hid (Fr (From B) w wr)) (fun _ i _ => text.length - (intOf i).toNat)
  case atStart => exact ⟨0, by omega, rfl, by simpa [wQuo] using HB1, HF1⟩
  case round =>
    obtain ⟨k, hk, rfl, HBk, HFk⟩ := hrel
    have hszk := HFk.out.size
    have hlk := wQuo_length (text.take k)
    rw [List.length_take] at hlk
    by_cases hlt : k < text.length
    · obtain ⟨b, hb⟩ : ∃ b, text[k]? = some b := ⟨text[k], by simp [hlt]⟩
      obtain ⟨hj, hg⟩ := ba_get hb
      have hI : (k : Int) < (text.length : Int) := by omega
      have HE : Hid (wQuo (text.take (k + 1)) = wQuo (text.take k) ++ quo1 b) := by
        show _ = _
        obtain ⟨_, he⟩ := List.getElem?_eq_some_iff.1 hb
        rw [List.take_succ_eq_append_getElem hlt, he, wQuo_snoc]
      clear hb
      by_cases hq : b.toNat = 34 ∨ b.toNat = 92
      · have HQ : Hid (quo1 b = [92] ++ [b]) := if_pos hq
        have q : (((b.toNat : Int) == 34) = true) ∨ (((b.toNat : Int) == 34) = false ∧ ((b.toNat : Int) == 92) = true) := by
          rcases hq with hq | hq
          · exact .inl (beq_iff_eq.2 (by omega))
          · exact .inr ⟨beq_eq_false_iff_ne.2 (by omega), beq_iff_eq.2 (by omega)⟩
        clear hq
        rcases q with q1 | ⟨q1, q2⟩
        all_goals
          go_wp2_with (at_builtin; refine wpList_out rfl (.tmp 24) (.tmp 25) 24 rfl [92] rfl rfl (HBk.out.alloc _) (src_one rfl) ?hb3 ?hl3 ?_)
          case hb3 => simp; omega
          case hl3 => simp; omega
          intro v3 w3 hB3 hF3 _
          have HB3 := hide hB3
          have HF3 := hide ((HFk.out.trans (Fr.alloc (From B) _ _)).trans hF3)
          have hsz3 := HF3.out.size
          clear hB3 hF3
          go_wp2_with (at_builtin; refine wpList_out rfl (.tmp 27) (.tmp 31) 24 rfl [b] rfl rfl (HB3.out.alloc _) (src_one rfl) ?hb2 ?hl2 ?_)
          case hb2 => simp; omega
          case hl2 => simp; omega
          intro v2 w2 hB2 hF2 _
          have HB2 := hide hB2
          have HF2 := hide ((HF3.out.trans (Fr.alloc (From B) _ _)).trans hF2)
          clear hB2 hF2
          go_wp2_with fail
          refine ⟨⟨k + 1, by omega, by go_num, ?_, HF2⟩, by simp [intOf]; omega⟩
          rw [HE.out, HQ.out]
          exact hide (by simpa using HB2.out)
      · have HQ : Hid (quo1 b = [b]) := if_neg hq
        have q1 : ((b.toNat : Int) == 34) = false := beq_eq_false_iff_ne.2 (by omega)
        have q2 : ((b.toNat : Int) == 92) = false := beq_eq_false_iff_ne.2 (by omega)
        clear hq
        go_wp2_with (at_builtin; refine wpList_out rfl _ _ 24 rfl [b] rfl rfl (HBk.out.alloc _) (src_one rfl) ?hb2 ?hl2 ?_)
        case hb2 => simp; omega
        case hl2 => simp; omega
        intro v2 w2 hB2 hF2 _
        have HB2 := hide hB2
        have HF2 := hide ((HFk.out.trans (Fr.alloc (From B) _ _)).trans hF2)
        clear hB2 hF2
        go_wp2_with fail
        refine ⟨⟨k + 1, by omega, by go_num, ?_, HF2⟩, by simp [intOf]; omega⟩
        rw [HE.out, HQ.out]
        exact hide (by simpa using HB2.out)
    · have hkl : k = text.length := by omega
      subst hkl
      rw [List.take_length] at HBk hlk
      go_wp2_with (at_builtin; refine wpList_out rfl (.tmp 34) (.tmp 35) 24 rfl [34] rfl rfl (HBk.out.alloc _) (src_one rfl) ?hb4 ?hl4 ?_)
      case hb4 => simp; omega
      case hl4 => simp; omega
      intro v4 w4 hB4 hF4 _
      have HB4 := hide hB4
      have HF4 := hide ((HFk.out.trans (Fr.alloc (From B) _ _)).trans hF4)
      clear hB4 hF4
      go_wp2_with fail
      go_ret
      exact ⟨HF4, v4, rfl, by simpa using HB4.out⟩

theorem wHex_snoc (a : Bs) (b : UInt8) : wHex (a ++ [b]) = wHex a ++ [hexC (b.toNat / 16), hexC (b.toNat % 16)] := by
  induction a with
  | nil => rfl
  | cons c a ih => simp only [List.cons_append, wHex, ih]
theorem wHex_length (a : Bs) : (wHex a).length = 2 * a.length := by
  induction a with
  | nil => rfl
  | cons c a ih => simp only [wHex, List.length_cons, ih]; omega
def hexS : ByteArray := ⟨#[48, 49, 50, 51, 52, 53, 54, 55, 56, 57, 97, 98, 99, 100, 101, 102]⟩
theorem hexS_at (n : Nat) (h : n < 16) : ∀ h' : n < hexS.size, hexS[n]'h' = hexC n := by
  intro h'
  have : ∀ m : Fin 16, hexS[m.val]'m.isLt = hexC m.val := by decide +kernel
  exact this ⟨n, h⟩
theorem hex_and : ∀ n, n < 256 → bits BinOp.and IntKind.u8 (n : Nat) 15 = ((n % 16 : Nat) : Int) := by decide +kernel

set_option maxHeartbeats 4000000 in
set_option maxRecDepth 100000 in
theorem appendHexadecimal_any (w : World) (B : Nat) (sv : Value) (acc text : Bs) (h : BO w B sv acc) (hB : B ≤ w.heap.size) (hl : acc.length + 2 * text.length + 2 ≤ 140737488355328) :
    Calls Tryz.prog 144 #[sv, .string (ba text)] w fun e w' => OutPost w B (acc ++ 120 :: wHex text) e w' := by
  have HB := hide h
  have hsz := ba_size text
  clear h
  go_enter Tryz.func144, Tryz.ntmps144
  go_wp2_with (at_builtin; refine wpList_out rfl (.tmp 6) (.tmp 7) 24 rfl [120] rfl rfl (HB.out.alloc _) (src_one rfl) ?hb1 ?hl1 ?_)
  case hb1 => simp; omega
  case hl1 => simp; omega
  intro v1 w1 hB1 hF1 _
  have HB1 := hide hB1
  have HF1 := hide ((Fr.alloc (From B) w _).trans hF1)
  have hsz1 := HF1.out.size
  clear hB1 hF1
  go_wp2_with fail
  go_loopw [0, 11] (fun ov i wr => ∃ k : Nat, k ≤ text.length ∧ i = .int .i64 k ∧ Hid (BO wr B ov (acc ++ [120] ++ wHex (text.take k))) ∧ Hid (Fr (From B) w wr)) (fun _ i _ => text.length - (intOf i).toNat)
  case atStart => exact ⟨0, by omega, rfl, by simpa [wHex] using HB1, HF1⟩
  case round =>
    obtain ⟨k, hk, rfl, HBk, HFk⟩ := hrel
    have hszk := HFk.out.size
    have hlk := wHex_length (text.take k)
    rw [List.length_take] at hlk
    by_cases hlt : k < text.length
    · obtain ⟨b, hb⟩ : ∃ b, text[k]? = some b := ⟨text[k], by simp [hlt]⟩
      obtain ⟨hj, hg⟩ := ba_get hb
      have hI : (k : Int) < (text.length : Int) := by omega
      have HE : Hid (wHex (text.take (k + 1)) = wHex (text.take k) ++ [hexC (b.toNat / 16), hexC (b.toNat % 16)]) := by
        show _ = _
        obtain ⟨_, he⟩ := List.getElem?_eq_some_iff.1 hb
        rw [List.take_succ_eq_append_getElem hlt, he, wHex_snoc]
      clear hb
      have hb256 := b.toNat_lt
      obtain ⟨x, hx⟩ : ∃ x, x = b.toNat / 16 := ⟨_, rfl⟩
      obtain ⟨y, hy⟩ : ∃ y, y = b.toNat % 16 := ⟨_, rfl⟩
      have hand : bits BinOp.and IntKind.u8 (b.toNat : Int) 15 = (y : Int) := by rw [hex_and b.toNat (by omega), hy]
      have hdiv : (b.toNat : Int) / 16 = (x : Int) := by omega
      have hx16 : x < 16 := by omega
      have hy16 : y < 16 := by omega
      have hxI : (x : Int) < 16 := by omega
      have hyI : (y : Int) < 16 := by omega
      obtain ⟨c1, hc1⟩ : ∃ c1, c1 = hexC x := ⟨_, rfl⟩
      obtain ⟨c2, hc2⟩ : ∃ c2, c2 = hexC y := ⟨_, rfl⟩
      have g1 : ∀ h', ({ data := #[48, 49, 50, 51, 52, 53, 54, 55, 56, 57, 97, 98, 99, 100, 101, 102] } : ByteArray)[x]'h' = c1 := fun h' => (hexS_at x hx16 h').trans hc1.symm
      have g2 : ∀ h', ({ data := #[48, 49, 50, 51, 52, 53, 54, 55, 56, 57, 97, 98, 99, 100, 101, 102] } : ByteArray)[y]'h' = c2 := fun h' => (hexS_at y hy16 h').trans hc2.symm
      rw [← hx, ← hy, ← hc1, ← hc2] at HE
      clear hx hy hc1 hc2
      have m1 : Hid (B ≤ (wr.drew.alloc (.cells #[.int .u8 c1.toNat, .int .u8 c2.toNat] 5)).heap.size) := by show _ ≤ _; simp; omega
      have m2 : Hid ((acc ++ [120] ++ wHex (text.take k)).length + [c1, c2].length ≤ 140737488355328) := by show _ ≤ _; simp; omega
      go_wp2_with fail
      go_region_law (refine step_out (sv := u0) (xv := .slice (some ⟨wr.heap.size, 0, none⟩) 2 2) rfl (.tmp 14) (.tmp 25) 24 rfl [c1, c2] (by simp [Act.eval]) (by simp [Act.eval]) (by exact (HBk.out.keep (Fr.dr Zero wr) (fun _ _ h => h)).alloc _) (by exact src_two (w := wr.drew) rfl) m1.out m2.out ?_; intro v2 w2 hB2 hF2 _)
      all_goals
        have HB2 := hide hB2
        have HF2 := hide (((HFk.out.trans (Fr.dr (From B) _)).trans (Fr.alloc (From B) _ _)).trans hF2)
        clear hB2 hF2
        go_wp2_with fail
        refine ⟨⟨k + 1, by omega, by go_num, ?_, HF2⟩, by simp [intOf]; omega⟩
        rw [HE.out]
        exact hide (by simpa using HB2.out)
    · have hkl : k = text.length := by omega
      subst hkl
      rw [List.take_length] at HBk
      go_wp2_with fail
      go_ret
      exact ⟨HFk, u0, rfl, by simpa using HBk.out⟩

end Go.Proofs.YtdcjogpkogidaaaGreatDoor
