/- Types that are made: how they lie in memory; shape, Text. -/
import Derived.Test.YtdcjogpkogidaaaGreatDoorMdMSmall
namespace Go.Proofs.YtdcjogpkogidaaaGreatDoor.Q
open Go.RowKit

def sptr (a : Addr) : Value := .pointer (some a)
/-- A type that was made, in memory. -/
def SRep (w : World) (X : Nat → Prop) : Nat → Addr → PT → Prop
  | 0, _, _ => False
  | k + 1, a, t => ∃ (b : Nat) (sv : Value) (rows : List Addr), a = ⟨b, 0, none⟩ ∧ w.heap[b]? = some (.cells #[.int .i64 t.kind, sv] 59 (0, 0)) ∧ ¬ X b ∧
      PRow w 37 1 sv rows.length (rows.map sptr) ∧ (∀ g, blockOf sv = some g → ¬ X g) ∧ rows.length = t.subs.length ∧
      ∀ (j : Nat) (c : Addr) (u : PT), rows[j]? = some c → t.subs[j]? = some u → SRep w X k c u
theorem SRep.keep {w w' : World} {X : Nat → Prop} (hf : Fr X w w') : ∀ (k : Nat) (a : Addr) (t : PT), SRep w X k a t → SRep w' X k a t := by
  intro k
  induction k with
  | zero => intro a t h; exact h.elim
  | succ k ih =>
    intro a t h
    obtain ⟨b, sv, rows, h1, h2, h3, h4, h5, h6, h7⟩ := h
    exact ⟨b, sv, rows, h1, hf.keep h2 h3, h3, h4.keep hf h5, h5, h6, fun j c u hc hu => ih c u (h7 j c u hc hu)⟩
theorem PRow.ltB {w : World} {ty : TypeId} {sz n : Nat} {v : Value} {xs : List Value} (h : PRow w ty sz v n xs) {g : Nat} (hg : blockOf v = some g) : g < w.heap.size := by
  rcases h.2 with ⟨q, _⟩ | ⟨fb, off, cap, cur, q1, q2, _⟩
  · rw [q] at hg; simp [blockOf] at hg
  · rw [q1] at hg; simp [blockOf] at hg; rw [← hg]; exact lt_of_heap q2
theorem SRep.avoid {w : World} {X Y : Nat → Prop} (hxy : ∀ b, b < w.heap.size → Y b → X b) : ∀ (k : Nat) (a : Addr) (t : PT), SRep w X k a t → SRep w Y k a t := by
  intro k
  induction k with
  | zero => intro a t h; exact h.elim
  | succ k ih =>
    intro a t h
    obtain ⟨b, sv, rows, h1, h2, h3, h4, h5, h6, h7⟩ := h
    exact ⟨b, sv, rows, h1, h2, fun y => h3 (hxy b (lt_of_heap h2) y), h4, fun g hg y => h5 g hg (hxy g (h4.ltB hg) y), h6, fun j c u hc hu => ih c u (h7 j c u hc hu)⟩
theorem SRep.lt {w : World} {X : Nat → Prop} {k : Nat} {a : Addr} {t : PT} (h : SRep w X k a t) : ∃ b, a = ⟨b, 0, none⟩ ∧ b < w.heap.size := by
  cases k with
  | zero => exact h.elim
  | succ k =>
    obtain ⟨b, sv, rows, h1, h2, _⟩ := h
    exact ⟨b, h1, lt_of_heap h2⟩

/-- The blocks that were there. -/
def Old (w : World) : Nat → Prop := fun k => k < w.heap.size
def costS (d : Nat) : Nat := 5 ^ (d + 1)
def ShapePost (w : World) (mb : Nat) (tv : Value) (n : Nat) (pv qv nv : Value) (sz d : Nat) (e : Ending) (w' : World) : Prop :=
  ∃ (a : Addr) (t : PT) (n' : Nat), e = .returned (.pointer (some a)) ∧ Fr (One mb) w w' ∧ MK w' mb tv n' pv qv nv sz ∧ n' ≤ n + costS d ∧ MadeT (d + 1) t ∧ SRep w' (Old w) (d + 1) a t

/-- The type of a kind with such parts. -/
def mkT (r : Nat) (ts : List PT) : PT := if r < 7 then PT.word r else if r ≤ 8 then compoundT r (ts.map fun u => (⟨#[]⟩, u)) else compoundT r (named 0 ts)
theorem mkT_kind (r : Nat) (ts : List PT) : (mkT r ts).kind = r := by
  unfold mkT
  split
  · rfl
  · split <;> rfl
theorem mkT_subs {r : Nat} {ts : List PT} (h : r < 7 → ts = []) : (mkT r ts).subs = ts := by
  unfold mkT
  split
  · rename_i h7; rw [h h7]; rfl
  · split
    · show (ts.map _).map _ = ts
      rw [List.map_map]
      exact List.map_id ts
    · exact named_subs ts 0
theorem mkT_made {r k : Nat} {ts : List PT} (hr : r < 11) (h7 : (r = 7 ∨ r = 8) → ts.length = 1) (h9 : 9 ≤ r → 1 ≤ ts.length ∧ ts.length ≤ 3) (hts : ∀ u ∈ ts, MadeT k u) : MadeT (k + 1) (mkT r ts) := by
  unfold MadeT
  rw [mkT_kind]
  unfold mkT
  by_cases h1 : r < 7
  · rw [if_pos h1]
    exact .inl ⟨h1, rfl⟩
  · rw [if_neg h1]
    by_cases h2 : r ≤ 8
    · rw [if_pos h2]
      have hl := h7 (by omega)
      match ts, hl with
      | [u], _ => exact .inr (.inl ⟨by omega, u, hts u (by simp), rfl⟩)
    · rw [if_neg h2]
      exact .inr (.inr ⟨by omega, ts, (h9 (by omega)).1, (h9 (by omega)).2, hts, rfl⟩)

theorem src_one {w : World} {n : Nat} {v : Value} {ty t e : TypeId} (hk : Tryz.prog.underlying t = some (.slice e)) (h : w.heap[n]? = some (.cells #[v] ty (0, 0))) (h1 : v.oneCell' = true) : Src Tryz.prog 1 t (.slice (some ⟨n, 0, none⟩) 1 1) 1 [v] w := by
  refine Src.ofSlice _ hk _ _ _ _ rfl (fun j u hj => ?_) (fun u hu => ?_)
  · match j, hj with
    | 0, hj => simp at hj; subst hj; rw [show (⟨n, 0, none⟩ : Addr).add 0 = ⟨n, 0, none⟩ by simp [Addr.add]]; rw [cell_of_heap h]; rfl
    | j + 1, hj => simp at hj
  · simp at hu; subst hu; exact h1
theorem infoSP : (Tryz.prog.info? 37).map (fun i => (i.zero, i.size, i.bytes)) = some (some (.pointer none), 1, 8) := by kernel_rfl

/-- Between two parts of a type that is being made. -/
structure ShInv (w wr : World) (B mb sb : Nat) (tv : Value) (n : Nat) (pv qv nv : Value) (sz r d c i : Nat) (sv : Value) (rows : List Addr) (ts : List PT) (n' : Nat) : Prop where
  mm : MK wr mb tv n' pv qv nv sz
  fr : Fr (One mb) w wr
  blk : wr.heap[sb]? = some (.cells #[.int .i64 r, sv] 59 (0, 0))
  row : PRow wr 37 1 sv i (rows.map sptr)
  len : rows.length = i ∧ ts.length = i
  kids : ∀ (j : Nat) (a : Addr) (u : PT), rows[j]? = some a → ts[j]? = some u → SRep wr (fun k => k < w.heap.size ∨ k = sb ∨ blockOf sv = some k) d a u
  made : ∀ u ∈ ts, MadeT d u
  cost : n' ≤ n + c + i * costS (d - 1)
  tape : TapeAt wr B tv
  new : w.heap.size ≤ sb ∧ mb < w.heap.size ∧ ∀ g, blockOf sv = some g → w.heap.size ≤ g

def ShSaid (d : Nat) : Prop := ∀ (w : World) (B mb n sz : Nat) (tv pv qv nv : Value), MK w mb tv n pv qv nv sz → TapeAt w B tv → B ≤ mb → n + costS d ≤ 100000000 →
    Calls Tryz.prog 12 #[.pointer (some ⟨mb, 0, none⟩), .int .i64 d] w fun e w' => ShapePost w mb tv n pv qv nv sz d e w'

theorem costS_pos (d : Nat) : 1 ≤ costS d := Nat.one_le_pow _ _ (by omega)
theorem costS_succ (d : Nat) : costS (d + 1) = 5 * costS d := by unfold costS; rw [Nat.pow_succ]; omega

set_option maxHeartbeats 16000000 in
set_option maxRecDepth 100000 in
theorem shape_zero : ShSaid 0 := by
  intro w B mb n sz tv pv qv nv h hT hB hn
  have hcp := costS_pos 0
  go_enter Tryz.func12, Tryz.ntmps12
  go_wp2_with fail
  refine (next_any h hT hB (by omega) 7 (by omega) (by omega)).mono ?_
  rintro e w1 ⟨⟨r, hr, rfl⟩, hF1, hM1⟩
  have HF1 := hide hF1
  have HM1 := hide hM1
  have hlt := h.lt
  clear h hT hF1 hM1
  have k7 : ((r : Int) == 7) = false := beq_eq_false_iff_ne.2 (by omega)
  have k8 : ((r : Int) == 8) = false := beq_eq_false_iff_ne.2 (by omega)
  have k9 : ((r : Int) == 9) = false := beq_eq_false_iff_ne.2 (by omega)
  have k10 : ((r : Int) == 10) = false := beq_eq_false_iff_ne.2 (by omega)
  have HB1 : Hid ((w1.alloc (.cells #[.int .i64 r, .slice none 0 0] 59)).heap[w1.heap.size]? = some (.cells #[.int .i64 r, .slice none 0 0] 59 (0, 0))) := heap_new_at rfl _
  have HA1 : Hid (Fr Zero w1 (w1.alloc (.cells #[.int .i64 r, .slice none 0 0] 59))) := Fr.alloc _ _ _
  have c0 : (w1.alloc (.cells #[.int .i64 r, .slice none 0 0] 59)).cell? ⟨w1.heap.size, 0, none⟩ = some (.int .i64 r) := (cell_of_heap (o := 0) HB1.out).trans rfl
  go_wp2_with fail
  generalize w1.alloc (.cells #[.int .i64 r, .slice none 0 0] 59) = w2 at *
  go_loopw [8, 9] (fun iv _ wr => iv = .int .i64 0 ∧ wr = w2) (fun _ _ _ => 0)
  case atStart => exact ⟨rfl, rfl⟩
  case round =>
    obtain ⟨rfl, rfl⟩ := hrel
    go_wp2_with fail
    go_ret
    refine ⟨⟨w1.heap.size, 0, none⟩, mkT r [], n + 1, rfl, HF1.out.trans HA1.out.of0, HA1.out.keep HM1.out (fun h => h), by omega, mkT_made (by omega) (by omega) (by omega) (by simp), w1.heap.size, .slice none 0 0, [], rfl, ?_, ?_, PRow.nil _ _ _, ?_, ?_, ?_⟩
    · rw [mkT_kind]; exact HB1.out
    · intro e
      have e' : w1.heap.size < w.heap.size := e
      have := HF1.out.size
      omega
    · intro g hg; simp [blockOf] at hg
    · rw [mkT_subs (fun _ => rfl)]; rfl
    · intro j c u hc; simp at hc

set_option maxHeartbeats 16000000 in
set_option maxRecDepth 100000 in
theorem shape_succ {d : Nat} (hd : d ≤ 2) (ih : ShSaid d) : ShSaid (d + 1) := by
  intro w B mb n sz tv pv qv nv h hT hB hn
  have hcp := costS_pos d
  have hcs1 : costS (d + 1) = 5 * costS d := costS_succ d
  have HIH := hide ih
  have HT := hide hT
  have k0 : (((d + 1 : Nat) : Int) == 0) = false := beq_eq_false_iff_ne.2 (by omega)
  have k0' : ((d : Int) + 1 == 0) = false := beq_eq_false_iff_ne.2 (by omega)
  clear ih
  go_enter Tryz.func12, Tryz.ntmps12
  go_wp2_with fail
  refine (next_any h hT hB (by omega) 11 (by omega) (by omega)).mono ?_
  rintro e w1 ⟨⟨r, hr, rfl⟩, hF1, hM1⟩
  have HF1 := hide hF1
  have HM1 := hide hM1
  have HT1 := hide (hT.keep hF1 (fun k hk e => by have e' : k = mb := e; omega))
  have hlt := h.lt
  clear h hT hF1 hM1
  have HB1 : Hid ((w1.alloc (.cells #[.int .i64 r, .slice none 0 0] 59)).heap[w1.heap.size]? = some (.cells #[.int .i64 r, .slice none 0 0] 59 (0, 0))) := heap_new_at rfl _
  have HA1 : Hid (Fr Zero w1 (w1.alloc (.cells #[.int .i64 r, .slice none 0 0] 59))) := Fr.alloc _ _ _
  have c0 : (w1.alloc (.cells #[.int .i64 r, .slice none 0 0] 59)).cell? ⟨w1.heap.size, 0, none⟩ = some (.int .i64 r) := (cell_of_heap (o := 0) HB1.out).trans rfl
  rcases (show r < 7 ∨ r = 7 ∨ r = 8 ∨ r = 9 ∨ r = 10 by omega) with hr7 | rfl | rfl | rfl | rfl
  · have k7 : ((r : Int) == 7) = false := beq_eq_false_iff_ne.2 (by omega)
    have k8 : ((r : Int) == 8) = false := beq_eq_false_iff_ne.2 (by omega)
    have k9 : ((r : Int) == 9) = false := beq_eq_false_iff_ne.2 (by omega)
    have k10 : ((r : Int) == 10) = false := beq_eq_false_iff_ne.2 (by omega)
    go_wp2_with fail
    generalize w1.alloc (.cells #[.int .i64 r, .slice none 0 0] 59) = w2 at *
    go_loopw [8, 9] (fun iv _ wr => iv = .int .i64 0 ∧ wr = w2) (fun _ _ _ => 0)
    case atStart => exact ⟨rfl, rfl⟩
    case round =>
      obtain ⟨rfl, rfl⟩ := hrel
      go_wp2_with fail
      go_ret
      refine ⟨⟨w1.heap.size, 0, none⟩, mkT r [], n + 1, rfl, HF1.out.trans HA1.out.of0, HA1.out.keep HM1.out (fun h => h), by omega, mkT_made (by omega) (by omega) (by omega) (by simp), w1.heap.size, .slice none 0 0, [], rfl, ?_, ?_, PRow.nil _ _ _, ?_, ?_, ?_⟩
      · rw [mkT_kind]; exact HB1.out
      · intro e
        have e' : w1.heap.size < w.heap.size := e
        have := HF1.out.size
        omega
      · intro g hg; simp [blockOf] at hg
      · rw [mkT_subs (fun _ => rfl)]; rfl
      · intro j c u hc; simp at hc
  · clear hr
    go_wp2_with fail
    generalize w1.alloc (.cells #[.int .i64 7, .slice none 0 0] 59) = w2 at *
    go_loopw [8, 9] (fun iv _ wr => ∃ (i : Nat) (sv : Value) (rows : List Addr) (ts : List PT) (n' : Nat), i ≤ 1 ∧ iv = .int .i64 i ∧ Hid (ShInv w wr B mb w1.heap.size tv n pv qv nv sz 7 (d + 1) 2 i sv rows ts n')) (fun iv _ _ => 1 - (intOf iv).toNat)
    case atStart => exact ⟨0, .slice none 0 0, [], [], n + 1, by omega, rfl, ⟨HA1.out.keep HM1.out (fun h => h), HF1.out.trans HA1.out.of0, HB1.out, PRow.nil _ _ _, ⟨rfl, rfl⟩, fun j _ _ h => by simp at h, fun _ h => by simp at h, by omega, HT1.out.keep HA1.out (fun _ _ h => h), ⟨HF1.out.size, hlt, fun g hg => by simp [blockOf] at hg⟩⟩⟩
    case round =>
      obtain ⟨i, sv, rows, ts, n', hi, rfl, HI⟩ := hrel
      by_cases hik : i < 1
      · have hikI : (i : Int) < (1 : Int) := by omega
        have hc := HI.out.cost
        have hsb := lt_of_heap HI.out.blk
        have hnew := HI.out.new
        have hmul : i * costS (d + 1 - 1) ≤ 2 * costS d := by rw [Nat.add_sub_cancel]; exact Nat.mul_le_mul_right _ (by omega)
        have hdd : ((d : Int) + 1) - 1 = (d : Int) := by omega
        go_wp2_with fail
        refine (HIH.out wr B mb n' sz tv pv qv nv HI.out.mm HI.out.tape hB (by omega)).mono ?_
        rintro e w5 ⟨a, u, n5, rfl, hF5, hM5, hc5, hmu, hS5⟩
        have hrow5 := HI.out.row.keep hF5 (fun g hg e => by have e' : g = mb := e; have := hnew.2.2 g hg; omega)
        have hb5 := hF5.keep HI.out.blk (fun e => by have e' : w1.heap.size = mb := e; omega)
        have HX5 : Hid (∀ (j : Nat) (b : Addr) (y : PT), (rows ++ [a])[j]? = some b → (ts ++ [u])[j]? = some y → SRep w5 (fun k => k < w.heap.size ∨ k = w1.heap.size ∨ blockOf sv = some k) (d + 1) b y) := fun j b y hb hy => by
          have hl1 := HI.out.len.1
          have hl2 := HI.out.len.2
          rcases Nat.lt_or_ge j i with q | q
          · rw [List.getElem?_append_left (by omega)] at hb hy
            exact SRep.keep (hF5.mono (fun k _ e => .inl (by have e' : k = mb := e; omega))) _ _ _ (HI.out.kids j b y hb hy)
          · have hj := (List.getElem?_eq_some_iff.1 hb).1
            simp at hj
            obtain rfl : j = i := by omega
            rw [List.getElem?_append_right (by omega), hl1] at hb
            rw [List.getElem?_append_right (by omega), hl2] at hy
            simp at hb hy
            subst hb hy
            refine SRep.avoid (fun b _ y => ?_) _ _ _ hS5
            show b < wr.heap.size
            rcases y with y | y | y
            · have := HI.out.fr.size; omega
            · omega
            · exact HI.out.row.ltB y
        have HA6 : Hid (Fr Zero w5 (w5.alloc (.cells #[.pointer (some a)] 37))) := Fr.alloc _ _ _
        have HR6 := hide (hrow5.keep HA6.out (fun _ _ h => h))
        have HSR : Hid (Src Tryz.prog 1 57 (.slice (some ⟨w5.heap.size, 0, none⟩) 1 1) 1 [sptr a] (w5.alloc (.cells #[.pointer (some a)] 37))) := src_one Tryz.underlying57 (heap_new_at rfl _) rfl
        have HB6 := hide (HA6.out.keep hb5 (fun h => h))
        have HM6 : Hid (MK (w5.alloc (.cells #[.pointer (some a)] 37)) mb tv n5 pv qv nv sz) := HA6.out.keep hM5 (fun h => h)
        have HF6 := hide ((HI.out.fr.trans hF5).trans HA6.out.of0)
        have HT6 := hide ((HI.out.tape.keep hF5 (fun k hk e => by have e' : k = mb := e; omega)).keep HA6.out (fun _ _ h => h))
        have HX6 : Hid (∀ (j : Nat) (b : Addr) (y : PT), (rows ++ [a])[j]? = some b → (ts ++ [u])[j]? = some y → SRep (w5.alloc (.cells #[.pointer (some a)] 37)) (fun k => k < w.heap.size ∨ k = w1.heap.size ∨ blockOf sv = some k) (d + 1) b y) := fun j b y hb hy => SRep.keep HA6.out.of0 _ _ _ (HX5.out j b y hb hy)
        have c1 : w5.cell? ⟨w1.heap.size, 1, none⟩ = some sv := (cell_of_heap (o := 1) hb5).trans rfl
        have hs5 := lt_of_heap hb5
        obtain ⟨sa, sc, rfl⟩ := HI.out.row.len
        clear hF5 hM5 hS5 hrow5 hb5 HX5
        go_wp2_with (at_builtin; refine wpList_pappend rfl (.tmp 43) (.tmp 45) 57 57 rfl Tryz.underlying57 infoSP rfl 1 [sptr a] rfl rfl HR6.out HSR.out ?hl9 ?h639 ?_)
        case hl9 => omega
        case h639 => omega
        intro v7 w7 hA7 hF7 hv7
        have hA7' : PRow w7 37 1 v7 (i + 1) ((rows ++ [a]).map sptr) := by
          have : (rows ++ [a]).map sptr = rows.map sptr ++ [sptr a] := by simp
          rw [this]
          exact hA7
        have hb7 := hF7.keep HB6.out (fun e => HR6.out.ne HB6.out (by decide) e)
        have hm7 : MK w7 mb tv n5 pv qv nv sz := hF7.keep HM6.out (fun e => HR6.out.ne HM6.out (by decide) e)
        have c7 : w7.cell? ⟨w1.heap.size, 1, none⟩ = some (.slice sa i sc) := (cell_of_heap (o := 1) hb7).trans rfl
        have f7 : w7.frozen? ⟨w1.heap.size, 1, none⟩ = false := free_of_heap hb7
        have h7l := lt_of_heap hb7
        obtain ⟨va, vc, rfl⟩ := hA7'.len
        have hS8 : Fr (One w1.heap.size) w7 (w7.setCell ⟨w1.heap.size, 1, none⟩ (.slice va (i + 1) vc)) := Fr.setCell _ _ _ _ rfl
        have hb8 : (w7.setCell ⟨w1.heap.size, 1, none⟩ (.slice va (i + 1) vc)).heap[w1.heap.size]? = some (.cells #[.int .i64 7, .slice va (i + 1) vc] 59 (0, 0)) := by rw [heap_setCell_same hb7]; rfl
        have hw6 : w5.heap.size ≤ (w5.alloc (.cells #[.pointer (some a)] 37)).heap.size := HA6.out.size
        have hwr := HI.out.fr.size
        have hF68 : Fr (fun k => k < w.heap.size ∨ k = w1.heap.size ∨ blockOf (.slice sa i sc) = some k) (w5.alloc (.cells #[.pointer (some a)] 37)) (w7.setCell ⟨w1.heap.size, 1, none⟩ (.slice va (i + 1) vc)) :=
          (hF7.mono (fun k _ e => .inr (.inr e))).trans (hS8.mono (fun k _ e => .inr (.inl e)))
        have hP68 : Fr (fun b => w.heap.size ≤ b) (w5.alloc (.cells #[.pointer (some a)] 37)) (w7.setCell ⟨w1.heap.size, 1, none⟩ (.slice va (i + 1) vc)) :=
          (hF7.mono (fun k _ e => hnew.2.2 k e)).trans (hS8.mono (fun k _ e => by have e' : k = w1.heap.size := e; have := hnew.1; show _ ≤ _; omega))
        have HN : Hid (ShInv w (w7.setCell ⟨w1.heap.size, 1, none⟩ (.slice va (i + 1) vc)) B mb w1.heap.size tv n pv qv nv sz 7 (d + 1) 2 (i + 1) (.slice va (i + 1) vc) (rows ++ [a]) (ts ++ [u]) n5) := by
          refine ⟨hS8.keep hm7 (fun e => by have e' : mb = w1.heap.size := e; have := hnew.1; omega), HF6.out.past hP68, hb8, hA7'.keep hS8 (fun g hg e => ?_), ⟨by simp [HI.out.len.1], by simp [HI.out.len.2]⟩, fun j b y hb hy => ?_, fun y hy => ?_, ?_, HT6.out.keep hP68 (fun k hk e => by have e' : w.heap.size ≤ k := e; omega), ⟨hnew.1, hnew.2.1, fun g hg => ?_⟩⟩
          · have e' : g = w1.heap.size := e
            rw [e'] at hg
            exact hA7'.ne hb7 (by decide) hg
          · have z1 := SRep.avoid (Y := fun k => (k < w.heap.size ∨ k = w1.heap.size ∨ blockOf (.slice sa i sc) = some k) ∨ (w5.alloc (.cells #[.pointer (some a)] 37)).heap.size ≤ k) (fun b hb y => by
              rcases y with y | y
              · exact y
              · omega) _ _ _ (HX6.out j b y hb hy)
            have z2 := SRep.keep (hF68.mono (fun k _ e => .inl e)) _ _ _ z1
            refine SRep.avoid (fun b _ y => ?_) _ _ _ z2
            rcases y with y | y | y
            · exact .inl (.inl y)
            · exact .inl (.inr (.inl y))
            · rcases Nat.lt_or_ge b (w5.alloc (.cells #[.pointer (some a)] 37)).heap.size with q | q
              · exact .inl (.inr (.inr (hv7 b (by simpa using q) y)))
              · exact .inr q
          · rcases List.mem_append.1 hy with hy | hy
            · exact HI.out.made y hy
            · simp at hy; subst hy; exact hmu
          · have e1 : (i + 1) * costS (d + 1 - 1) = i * costS (d + 1 - 1) + costS d := by rw [Nat.add_sub_cancel, Nat.succ_mul]
            omega
          · rcases Nat.lt_or_ge g (w5.alloc (.cells #[.pointer (some a)] 37)).heap.size with q | q
            · exact hnew.2.2 g (hv7 g (by simpa using q) hg)
            · have := HF6.out.size; omega
        clear hA7 hA7' hF7 hv7 hb7 hm7 hb8 hS8 hF68 hP68
        go_wp2_with fail
        exact ⟨⟨i + 1, _, rows ++ [a], ts ++ [u], n5, by omega, by go_num, HN⟩, by simp [intOf]; omega⟩
      · have hikI : ¬ (i : Int) < (1 : Int) := by omega
        obtain rfl : i = 1 := by omega
        have hc := HI.out.cost
        have hmul : 1 * costS (d + 1 - 1) ≤ 3 * costS d := by rw [Nat.add_sub_cancel]; exact Nat.mul_le_mul_right _ (by omega)
        go_wp2_with fail
        go_ret
        have hl2 := HI.out.len.2
        refine ⟨⟨w1.heap.size, 0, none⟩, mkT 7 ts, n', rfl, HI.out.fr, HI.out.mm, by omega, mkT_made (by omega) (by omega) (by omega) HI.out.made, w1.heap.size, sv, rows, rfl, ?_, ?_, ?_, ?_, ?_, ?_⟩
        · rw [mkT_kind]; exact HI.out.blk
        · intro e
          have e' : w1.heap.size < w.heap.size := e
          have := HI.out.new.1
          omega
        · rw [HI.out.len.1]; exact HI.out.row
        · intro g hg e
          have e' : g < w.heap.size := e
          have := HI.out.new.2.2 g hg
          omega
        · rw [mkT_subs (fun h7 => by omega), HI.out.len.1, HI.out.len.2]
        · intro j c u hc hu
          rw [mkT_subs (fun h7 => by omega)] at hu
          exact SRep.avoid (fun b _ y => .inl y) _ _ _ (HI.out.kids j c u hc hu)
  · clear hr
    go_wp2_with fail
    generalize w1.alloc (.cells #[.int .i64 8, .slice none 0 0] 59) = w2 at *
    go_loopw [8, 9] (fun iv _ wr => ∃ (i : Nat) (sv : Value) (rows : List Addr) (ts : List PT) (n' : Nat), i ≤ 1 ∧ iv = .int .i64 i ∧ Hid (ShInv w wr B mb w1.heap.size tv n pv qv nv sz 8 (d + 1) 2 i sv rows ts n')) (fun iv _ _ => 1 - (intOf iv).toNat)
    case atStart => exact ⟨0, .slice none 0 0, [], [], n + 1, by omega, rfl, ⟨HA1.out.keep HM1.out (fun h => h), HF1.out.trans HA1.out.of0, HB1.out, PRow.nil _ _ _, ⟨rfl, rfl⟩, fun j _ _ h => by simp at h, fun _ h => by simp at h, by omega, HT1.out.keep HA1.out (fun _ _ h => h), ⟨HF1.out.size, hlt, fun g hg => by simp [blockOf] at hg⟩⟩⟩
    case round =>
      obtain ⟨i, sv, rows, ts, n', hi, rfl, HI⟩ := hrel
      by_cases hik : i < 1
      · have hikI : (i : Int) < (1 : Int) := by omega
        have hc := HI.out.cost
        have hsb := lt_of_heap HI.out.blk
        have hnew := HI.out.new
        have hmul : i * costS (d + 1 - 1) ≤ 2 * costS d := by rw [Nat.add_sub_cancel]; exact Nat.mul_le_mul_right _ (by omega)
        have hdd : ((d : Int) + 1) - 1 = (d : Int) := by omega
        go_wp2_with fail
        refine (HIH.out wr B mb n' sz tv pv qv nv HI.out.mm HI.out.tape hB (by omega)).mono ?_
        rintro e w5 ⟨a, u, n5, rfl, hF5, hM5, hc5, hmu, hS5⟩
        have hrow5 := HI.out.row.keep hF5 (fun g hg e => by have e' : g = mb := e; have := hnew.2.2 g hg; omega)
        have hb5 := hF5.keep HI.out.blk (fun e => by have e' : w1.heap.size = mb := e; omega)
        have HX5 : Hid (∀ (j : Nat) (b : Addr) (y : PT), (rows ++ [a])[j]? = some b → (ts ++ [u])[j]? = some y → SRep w5 (fun k => k < w.heap.size ∨ k = w1.heap.size ∨ blockOf sv = some k) (d + 1) b y) := fun j b y hb hy => by
          have hl1 := HI.out.len.1
          have hl2 := HI.out.len.2
          rcases Nat.lt_or_ge j i with q | q
          · rw [List.getElem?_append_left (by omega)] at hb hy
            exact SRep.keep (hF5.mono (fun k _ e => .inl (by have e' : k = mb := e; omega))) _ _ _ (HI.out.kids j b y hb hy)
          · have hj := (List.getElem?_eq_some_iff.1 hb).1
            simp at hj
            obtain rfl : j = i := by omega
            rw [List.getElem?_append_right (by omega), hl1] at hb
            rw [List.getElem?_append_right (by omega), hl2] at hy
            simp at hb hy
            subst hb hy
            refine SRep.avoid (fun b _ y => ?_) _ _ _ hS5
            show b < wr.heap.size
            rcases y with y | y | y
            · have := HI.out.fr.size; omega
            · omega
            · exact HI.out.row.ltB y
        have HA6 : Hid (Fr Zero w5 (w5.alloc (.cells #[.pointer (some a)] 37))) := Fr.alloc _ _ _
        have HR6 := hide (hrow5.keep HA6.out (fun _ _ h => h))
        have HSR : Hid (Src Tryz.prog 1 57 (.slice (some ⟨w5.heap.size, 0, none⟩) 1 1) 1 [sptr a] (w5.alloc (.cells #[.pointer (some a)] 37))) := src_one Tryz.underlying57 (heap_new_at rfl _) rfl
        have HB6 := hide (HA6.out.keep hb5 (fun h => h))
        have HM6 : Hid (MK (w5.alloc (.cells #[.pointer (some a)] 37)) mb tv n5 pv qv nv sz) := HA6.out.keep hM5 (fun h => h)
        have HF6 := hide ((HI.out.fr.trans hF5).trans HA6.out.of0)
        have HT6 := hide ((HI.out.tape.keep hF5 (fun k hk e => by have e' : k = mb := e; omega)).keep HA6.out (fun _ _ h => h))
        have HX6 : Hid (∀ (j : Nat) (b : Addr) (y : PT), (rows ++ [a])[j]? = some b → (ts ++ [u])[j]? = some y → SRep (w5.alloc (.cells #[.pointer (some a)] 37)) (fun k => k < w.heap.size ∨ k = w1.heap.size ∨ blockOf sv = some k) (d + 1) b y) := fun j b y hb hy => SRep.keep HA6.out.of0 _ _ _ (HX5.out j b y hb hy)
        have c1 : w5.cell? ⟨w1.heap.size, 1, none⟩ = some sv := (cell_of_heap (o := 1) hb5).trans rfl
        have hs5 := lt_of_heap hb5
        obtain ⟨sa, sc, rfl⟩ := HI.out.row.len
        clear hF5 hM5 hS5 hrow5 hb5 HX5
        go_wp2_with (at_builtin; refine wpList_pappend rfl (.tmp 43) (.tmp 45) 57 57 rfl Tryz.underlying57 infoSP rfl 1 [sptr a] rfl rfl HR6.out HSR.out ?hl9 ?h639 ?_)
        case hl9 => omega
        case h639 => omega
        intro v7 w7 hA7 hF7 hv7
        have hA7' : PRow w7 37 1 v7 (i + 1) ((rows ++ [a]).map sptr) := by
          have : (rows ++ [a]).map sptr = rows.map sptr ++ [sptr a] := by simp
          rw [this]
          exact hA7
        have hb7 := hF7.keep HB6.out (fun e => HR6.out.ne HB6.out (by decide) e)
        have hm7 : MK w7 mb tv n5 pv qv nv sz := hF7.keep HM6.out (fun e => HR6.out.ne HM6.out (by decide) e)
        have c7 : w7.cell? ⟨w1.heap.size, 1, none⟩ = some (.slice sa i sc) := (cell_of_heap (o := 1) hb7).trans rfl
        have f7 : w7.frozen? ⟨w1.heap.size, 1, none⟩ = false := free_of_heap hb7
        have h7l := lt_of_heap hb7
        obtain ⟨va, vc, rfl⟩ := hA7'.len
        have hS8 : Fr (One w1.heap.size) w7 (w7.setCell ⟨w1.heap.size, 1, none⟩ (.slice va (i + 1) vc)) := Fr.setCell _ _ _ _ rfl
        have hb8 : (w7.setCell ⟨w1.heap.size, 1, none⟩ (.slice va (i + 1) vc)).heap[w1.heap.size]? = some (.cells #[.int .i64 8, .slice va (i + 1) vc] 59 (0, 0)) := by rw [heap_setCell_same hb7]; rfl
        have hw6 : w5.heap.size ≤ (w5.alloc (.cells #[.pointer (some a)] 37)).heap.size := HA6.out.size
        have hwr := HI.out.fr.size
        have hF68 : Fr (fun k => k < w.heap.size ∨ k = w1.heap.size ∨ blockOf (.slice sa i sc) = some k) (w5.alloc (.cells #[.pointer (some a)] 37)) (w7.setCell ⟨w1.heap.size, 1, none⟩ (.slice va (i + 1) vc)) :=
          (hF7.mono (fun k _ e => .inr (.inr e))).trans (hS8.mono (fun k _ e => .inr (.inl e)))
        have hP68 : Fr (fun b => w.heap.size ≤ b) (w5.alloc (.cells #[.pointer (some a)] 37)) (w7.setCell ⟨w1.heap.size, 1, none⟩ (.slice va (i + 1) vc)) :=
          (hF7.mono (fun k _ e => hnew.2.2 k e)).trans (hS8.mono (fun k _ e => by have e' : k = w1.heap.size := e; have := hnew.1; show _ ≤ _; omega))
        have HN : Hid (ShInv w (w7.setCell ⟨w1.heap.size, 1, none⟩ (.slice va (i + 1) vc)) B mb w1.heap.size tv n pv qv nv sz 8 (d + 1) 2 (i + 1) (.slice va (i + 1) vc) (rows ++ [a]) (ts ++ [u]) n5) := by
          refine ⟨hS8.keep hm7 (fun e => by have e' : mb = w1.heap.size := e; have := hnew.1; omega), HF6.out.past hP68, hb8, hA7'.keep hS8 (fun g hg e => ?_), ⟨by simp [HI.out.len.1], by simp [HI.out.len.2]⟩, fun j b y hb hy => ?_, fun y hy => ?_, ?_, HT6.out.keep hP68 (fun k hk e => by have e' : w.heap.size ≤ k := e; omega), ⟨hnew.1, hnew.2.1, fun g hg => ?_⟩⟩
          · have e' : g = w1.heap.size := e
            rw [e'] at hg
            exact hA7'.ne hb7 (by decide) hg
          · have z1 := SRep.avoid (Y := fun k => (k < w.heap.size ∨ k = w1.heap.size ∨ blockOf (.slice sa i sc) = some k) ∨ (w5.alloc (.cells #[.pointer (some a)] 37)).heap.size ≤ k) (fun b hb y => by
              rcases y with y | y
              · exact y
              · omega) _ _ _ (HX6.out j b y hb hy)
            have z2 := SRep.keep (hF68.mono (fun k _ e => .inl e)) _ _ _ z1
            refine SRep.avoid (fun b _ y => ?_) _ _ _ z2
            rcases y with y | y | y
            · exact .inl (.inl y)
            · exact .inl (.inr (.inl y))
            · rcases Nat.lt_or_ge b (w5.alloc (.cells #[.pointer (some a)] 37)).heap.size with q | q
              · exact .inl (.inr (.inr (hv7 b (by simpa using q) y)))
              · exact .inr q
          · rcases List.mem_append.1 hy with hy | hy
            · exact HI.out.made y hy
            · simp at hy; subst hy; exact hmu
          · have e1 : (i + 1) * costS (d + 1 - 1) = i * costS (d + 1 - 1) + costS d := by rw [Nat.add_sub_cancel, Nat.succ_mul]
            omega
          · rcases Nat.lt_or_ge g (w5.alloc (.cells #[.pointer (some a)] 37)).heap.size with q | q
            · exact hnew.2.2 g (hv7 g (by simpa using q) hg)
            · have := HF6.out.size; omega
        clear hA7 hA7' hF7 hv7 hb7 hm7 hb8 hS8 hF68 hP68
        go_wp2_with fail
        exact ⟨⟨i + 1, _, rows ++ [a], ts ++ [u], n5, by omega, by go_num, HN⟩, by simp [intOf]; omega⟩
      · have hikI : ¬ (i : Int) < (1 : Int) := by omega
        obtain rfl : i = 1 := by omega
        have hc := HI.out.cost
        have hmul : 1 * costS (d + 1 - 1) ≤ 3 * costS d := by rw [Nat.add_sub_cancel]; exact Nat.mul_le_mul_right _ (by omega)
        go_wp2_with fail
        go_ret
        have hl2 := HI.out.len.2
        refine ⟨⟨w1.heap.size, 0, none⟩, mkT 8 ts, n', rfl, HI.out.fr, HI.out.mm, by omega, mkT_made (by omega) (by omega) (by omega) HI.out.made, w1.heap.size, sv, rows, rfl, ?_, ?_, ?_, ?_, ?_, ?_⟩
        · rw [mkT_kind]; exact HI.out.blk
        · intro e
          have e' : w1.heap.size < w.heap.size := e
          have := HI.out.new.1
          omega
        · rw [HI.out.len.1]; exact HI.out.row
        · intro g hg e
          have e' : g < w.heap.size := e
          have := HI.out.new.2.2 g hg
          omega
        · rw [mkT_subs (fun h7 => by omega), HI.out.len.1, HI.out.len.2]
        · intro j c u hc hu
          rw [mkT_subs (fun h7 => by omega)] at hu
          exact SRep.avoid (fun b _ y => .inl y) _ _ _ (HI.out.kids j c u hc hu)
  · clear hr
    go_wp2_with fail
    generalize hw2 : w1.alloc (.cells #[.int .i64 9, .slice none 0 0] 59) = w2 at *
    clear hw2
    refine (next_any (B := B) (HA1.out.keep HM1.out (fun h => h)) (HT1.out.keep HA1.out (fun _ _ h => h)) hB (by omega) 3 (by omega) (by omega)).mono ?_
    rintro e w3 ⟨⟨q, hq, rfl⟩, hF3, hM3⟩
    have HM3 := hide hM3
    have HF3 := hide ((HF1.out.trans HA1.out.of0).trans hF3)
    have HB3 := hide (hF3.keep HB1.out (fun e => by have e' : w1.heap.size = mb := e; have := HF1.out.size; omega))
    have HT3 := hide ((HT1.out.keep HA1.out (fun _ _ h => h)).keep hF3 (fun k hk e => by have e' : k = mb := e; omega))
    clear hF3 hM3
    go_wp2_with fail
    go_loopw [8, 9] (fun iv _ wr => ∃ (i : Nat) (sv : Value) (rows : List Addr) (ts : List PT) (n' : Nat), i ≤ (1 + q) ∧ iv = .int .i64 i ∧ Hid (ShInv w wr B mb w1.heap.size tv n pv qv nv sz 9 (d + 1) 2 i sv rows ts n')) (fun iv _ _ => (1 + q) - (intOf iv).toNat)
    case atStart => exact ⟨0, .slice none 0 0, [], [], n + 1 + 1, by omega, rfl, ⟨HM3.out, HF3.out, HB3.out, PRow.nil _ _ _, ⟨rfl, rfl⟩, fun j _ _ h => by simp at h, fun _ h => by simp at h, by omega, HT3.out, ⟨HF1.out.size, hlt, fun g hg => by simp [blockOf] at hg⟩⟩⟩
    case round =>
      obtain ⟨i, sv, rows, ts, n', hi, rfl, HI⟩ := hrel
      by_cases hik : i < (1 + q)
      · have hikI : (i : Int) < 1 + (q : Int) := by omega
        have hc := HI.out.cost
        have hsb := lt_of_heap HI.out.blk
        have hnew := HI.out.new
        have hmul : i * costS (d + 1 - 1) ≤ 2 * costS d := by rw [Nat.add_sub_cancel]; exact Nat.mul_le_mul_right _ (by omega)
        have hdd : ((d : Int) + 1) - 1 = (d : Int) := by omega
        go_wp2_with fail
        refine (HIH.out wr B mb n' sz tv pv qv nv HI.out.mm HI.out.tape hB (by omega)).mono ?_
        rintro e w5 ⟨a, u, n5, rfl, hF5, hM5, hc5, hmu, hS5⟩
        have hrow5 := HI.out.row.keep hF5 (fun g hg e => by have e' : g = mb := e; have := hnew.2.2 g hg; omega)
        have hb5 := hF5.keep HI.out.blk (fun e => by have e' : w1.heap.size = mb := e; omega)
        have HX5 : Hid (∀ (j : Nat) (b : Addr) (y : PT), (rows ++ [a])[j]? = some b → (ts ++ [u])[j]? = some y → SRep w5 (fun k => k < w.heap.size ∨ k = w1.heap.size ∨ blockOf sv = some k) (d + 1) b y) := fun j b y hb hy => by
          have hl1 := HI.out.len.1
          have hl2 := HI.out.len.2
          rcases Nat.lt_or_ge j i with q | q
          · rw [List.getElem?_append_left (by omega)] at hb hy
            exact SRep.keep (hF5.mono (fun k _ e => .inl (by have e' : k = mb := e; omega))) _ _ _ (HI.out.kids j b y hb hy)
          · have hj := (List.getElem?_eq_some_iff.1 hb).1
            simp at hj
            obtain rfl : j = i := by omega
            rw [List.getElem?_append_right (by omega), hl1] at hb
            rw [List.getElem?_append_right (by omega), hl2] at hy
            simp at hb hy
            subst hb hy
            refine SRep.avoid (fun b _ y => ?_) _ _ _ hS5
            show b < wr.heap.size
            rcases y with y | y | y
            · have := HI.out.fr.size; omega
            · omega
            · exact HI.out.row.ltB y
        have HA6 : Hid (Fr Zero w5 (w5.alloc (.cells #[.pointer (some a)] 37))) := Fr.alloc _ _ _
        have HR6 := hide (hrow5.keep HA6.out (fun _ _ h => h))
        have HSR : Hid (Src Tryz.prog 1 57 (.slice (some ⟨w5.heap.size, 0, none⟩) 1 1) 1 [sptr a] (w5.alloc (.cells #[.pointer (some a)] 37))) := src_one Tryz.underlying57 (heap_new_at rfl _) rfl
        have HB6 := hide (HA6.out.keep hb5 (fun h => h))
        have HM6 : Hid (MK (w5.alloc (.cells #[.pointer (some a)] 37)) mb tv n5 pv qv nv sz) := HA6.out.keep hM5 (fun h => h)
        have HF6 := hide ((HI.out.fr.trans hF5).trans HA6.out.of0)
        have HT6 := hide ((HI.out.tape.keep hF5 (fun k hk e => by have e' : k = mb := e; omega)).keep HA6.out (fun _ _ h => h))
        have HX6 : Hid (∀ (j : Nat) (b : Addr) (y : PT), (rows ++ [a])[j]? = some b → (ts ++ [u])[j]? = some y → SRep (w5.alloc (.cells #[.pointer (some a)] 37)) (fun k => k < w.heap.size ∨ k = w1.heap.size ∨ blockOf sv = some k) (d + 1) b y) := fun j b y hb hy => SRep.keep HA6.out.of0 _ _ _ (HX5.out j b y hb hy)
        have c1 : w5.cell? ⟨w1.heap.size, 1, none⟩ = some sv := (cell_of_heap (o := 1) hb5).trans rfl
        have hs5 := lt_of_heap hb5
        obtain ⟨sa, sc, rfl⟩ := HI.out.row.len
        clear hF5 hM5 hS5 hrow5 hb5 HX5
        go_wp2_with (at_builtin; refine wpList_pappend rfl (.tmp 43) (.tmp 45) 57 57 rfl Tryz.underlying57 infoSP rfl 1 [sptr a] rfl rfl HR6.out HSR.out ?hl9 ?h639 ?_)
        case hl9 => omega
        case h639 => omega
        intro v7 w7 hA7 hF7 hv7
        have hA7' : PRow w7 37 1 v7 (i + 1) ((rows ++ [a]).map sptr) := by
          have : (rows ++ [a]).map sptr = rows.map sptr ++ [sptr a] := by simp
          rw [this]
          exact hA7
        have hb7 := hF7.keep HB6.out (fun e => HR6.out.ne HB6.out (by decide) e)
        have hm7 : MK w7 mb tv n5 pv qv nv sz := hF7.keep HM6.out (fun e => HR6.out.ne HM6.out (by decide) e)
        have c7 : w7.cell? ⟨w1.heap.size, 1, none⟩ = some (.slice sa i sc) := (cell_of_heap (o := 1) hb7).trans rfl
        have f7 : w7.frozen? ⟨w1.heap.size, 1, none⟩ = false := free_of_heap hb7
        have h7l := lt_of_heap hb7
        obtain ⟨va, vc, rfl⟩ := hA7'.len
        have hS8 : Fr (One w1.heap.size) w7 (w7.setCell ⟨w1.heap.size, 1, none⟩ (.slice va (i + 1) vc)) := Fr.setCell _ _ _ _ rfl
        have hb8 : (w7.setCell ⟨w1.heap.size, 1, none⟩ (.slice va (i + 1) vc)).heap[w1.heap.size]? = some (.cells #[.int .i64 9, .slice va (i + 1) vc] 59 (0, 0)) := by rw [heap_setCell_same hb7]; rfl
        have hw6 : w5.heap.size ≤ (w5.alloc (.cells #[.pointer (some a)] 37)).heap.size := HA6.out.size
        have hwr := HI.out.fr.size
        have hF68 : Fr (fun k => k < w.heap.size ∨ k = w1.heap.size ∨ blockOf (.slice sa i sc) = some k) (w5.alloc (.cells #[.pointer (some a)] 37)) (w7.setCell ⟨w1.heap.size, 1, none⟩ (.slice va (i + 1) vc)) :=
          (hF7.mono (fun k _ e => .inr (.inr e))).trans (hS8.mono (fun k _ e => .inr (.inl e)))
        have hP68 : Fr (fun b => w.heap.size ≤ b) (w5.alloc (.cells #[.pointer (some a)] 37)) (w7.setCell ⟨w1.heap.size, 1, none⟩ (.slice va (i + 1) vc)) :=
          (hF7.mono (fun k _ e => hnew.2.2 k e)).trans (hS8.mono (fun k _ e => by have e' : k = w1.heap.size := e; have := hnew.1; show _ ≤ _; omega))
        have HN : Hid (ShInv w (w7.setCell ⟨w1.heap.size, 1, none⟩ (.slice va (i + 1) vc)) B mb w1.heap.size tv n pv qv nv sz 9 (d + 1) 2 (i + 1) (.slice va (i + 1) vc) (rows ++ [a]) (ts ++ [u]) n5) := by
          refine ⟨hS8.keep hm7 (fun e => by have e' : mb = w1.heap.size := e; have := hnew.1; omega), HF6.out.past hP68, hb8, hA7'.keep hS8 (fun g hg e => ?_), ⟨by simp [HI.out.len.1], by simp [HI.out.len.2]⟩, fun j b y hb hy => ?_, fun y hy => ?_, ?_, HT6.out.keep hP68 (fun k hk e => by have e' : w.heap.size ≤ k := e; omega), ⟨hnew.1, hnew.2.1, fun g hg => ?_⟩⟩
          · have e' : g = w1.heap.size := e
            rw [e'] at hg
            exact hA7'.ne hb7 (by decide) hg
          · have z1 := SRep.avoid (Y := fun k => (k < w.heap.size ∨ k = w1.heap.size ∨ blockOf (.slice sa i sc) = some k) ∨ (w5.alloc (.cells #[.pointer (some a)] 37)).heap.size ≤ k) (fun b hb y => by
              rcases y with y | y
              · exact y
              · omega) _ _ _ (HX6.out j b y hb hy)
            have z2 := SRep.keep (hF68.mono (fun k _ e => .inl e)) _ _ _ z1
            refine SRep.avoid (fun b _ y => ?_) _ _ _ z2
            rcases y with y | y | y
            · exact .inl (.inl y)
            · exact .inl (.inr (.inl y))
            · rcases Nat.lt_or_ge b (w5.alloc (.cells #[.pointer (some a)] 37)).heap.size with q | q
              · exact .inl (.inr (.inr (hv7 b (by simpa using q) y)))
              · exact .inr q
          · rcases List.mem_append.1 hy with hy | hy
            · exact HI.out.made y hy
            · simp at hy; subst hy; exact hmu
          · have e1 : (i + 1) * costS (d + 1 - 1) = i * costS (d + 1 - 1) + costS d := by rw [Nat.add_sub_cancel, Nat.succ_mul]
            omega
          · rcases Nat.lt_or_ge g (w5.alloc (.cells #[.pointer (some a)] 37)).heap.size with q | q
            · exact hnew.2.2 g (hv7 g (by simpa using q) hg)
            · have := HF6.out.size; omega
        clear hA7 hA7' hF7 hv7 hb7 hm7 hb8 hS8 hF68 hP68
        go_wp2_with fail
        exact ⟨⟨i + 1, _, rows ++ [a], ts ++ [u], n5, by omega, by go_num, HN⟩, by simp [intOf]; omega⟩
      · have hikI : ¬ (i : Int) < 1 + (q : Int) := by omega
        obtain rfl : i = (1 + q) := by omega
        have hc := HI.out.cost
        have hmul : (1 + q) * costS (d + 1 - 1) ≤ 3 * costS d := by rw [Nat.add_sub_cancel]; exact Nat.mul_le_mul_right _ (by omega)
        go_wp2_with fail
        go_ret
        have hl2 := HI.out.len.2
        refine ⟨⟨w1.heap.size, 0, none⟩, mkT 9 ts, n', rfl, HI.out.fr, HI.out.mm, by omega, mkT_made (by omega) (by omega) (by omega) HI.out.made, w1.heap.size, sv, rows, rfl, ?_, ?_, ?_, ?_, ?_, ?_⟩
        · rw [mkT_kind]; exact HI.out.blk
        · intro e
          have e' : w1.heap.size < w.heap.size := e
          have := HI.out.new.1
          omega
        · rw [HI.out.len.1]; exact HI.out.row
        · intro g hg e
          have e' : g < w.heap.size := e
          have := HI.out.new.2.2 g hg
          omega
        · rw [mkT_subs (fun h7 => by omega), HI.out.len.1, HI.out.len.2]
        · intro j c u hc hu
          rw [mkT_subs (fun h7 => by omega)] at hu
          exact SRep.avoid (fun b _ y => .inl y) _ _ _ (HI.out.kids j c u hc hu)
  · clear hr
    go_wp2_with fail
    generalize hw2 : w1.alloc (.cells #[.int .i64 10, .slice none 0 0] 59) = w2 at *
    clear hw2
    refine (next_any (B := B) (HA1.out.keep HM1.out (fun h => h)) (HT1.out.keep HA1.out (fun _ _ h => h)) hB (by omega) 3 (by omega) (by omega)).mono ?_
    rintro e w3 ⟨⟨q, hq, rfl⟩, hF3, hM3⟩
    have HM3 := hide hM3
    have HF3 := hide ((HF1.out.trans HA1.out.of0).trans hF3)
    have HB3 := hide (hF3.keep HB1.out (fun e => by have e' : w1.heap.size = mb := e; have := HF1.out.size; omega))
    have HT3 := hide ((HT1.out.keep HA1.out (fun _ _ h => h)).keep hF3 (fun k hk e => by have e' : k = mb := e; omega))
    clear hF3 hM3
    go_wp2_with fail
    go_loopw [8, 9] (fun iv _ wr => ∃ (i : Nat) (sv : Value) (rows : List Addr) (ts : List PT) (n' : Nat), i ≤ (1 + q) ∧ iv = .int .i64 i ∧ Hid (ShInv w wr B mb w1.heap.size tv n pv qv nv sz 10 (d + 1) 2 i sv rows ts n')) (fun iv _ _ => (1 + q) - (intOf iv).toNat)
    case atStart => exact ⟨0, .slice none 0 0, [], [], n + 1 + 1, by omega, rfl, ⟨HM3.out, HF3.out, HB3.out, PRow.nil _ _ _, ⟨rfl, rfl⟩, fun j _ _ h => by simp at h, fun _ h => by simp at h, by omega, HT3.out, ⟨HF1.out.size, hlt, fun g hg => by simp [blockOf] at hg⟩⟩⟩
    case round =>
      obtain ⟨i, sv, rows, ts, n', hi, rfl, HI⟩ := hrel
      by_cases hik : i < (1 + q)
      · have hikI : (i : Int) < 1 + (q : Int) := by omega
        have hc := HI.out.cost
        have hsb := lt_of_heap HI.out.blk
        have hnew := HI.out.new
        have hmul : i * costS (d + 1 - 1) ≤ 2 * costS d := by rw [Nat.add_sub_cancel]; exact Nat.mul_le_mul_right _ (by omega)
        have hdd : ((d : Int) + 1) - 1 = (d : Int) := by omega
        go_wp2_with fail
        refine (HIH.out wr B mb n' sz tv pv qv nv HI.out.mm HI.out.tape hB (by omega)).mono ?_
        rintro e w5 ⟨a, u, n5, rfl, hF5, hM5, hc5, hmu, hS5⟩
        have hrow5 := HI.out.row.keep hF5 (fun g hg e => by have e' : g = mb := e; have := hnew.2.2 g hg; omega)
        have hb5 := hF5.keep HI.out.blk (fun e => by have e' : w1.heap.size = mb := e; omega)
        have HX5 : Hid (∀ (j : Nat) (b : Addr) (y : PT), (rows ++ [a])[j]? = some b → (ts ++ [u])[j]? = some y → SRep w5 (fun k => k < w.heap.size ∨ k = w1.heap.size ∨ blockOf sv = some k) (d + 1) b y) := fun j b y hb hy => by
          have hl1 := HI.out.len.1
          have hl2 := HI.out.len.2
          rcases Nat.lt_or_ge j i with q | q
          · rw [List.getElem?_append_left (by omega)] at hb hy
            exact SRep.keep (hF5.mono (fun k _ e => .inl (by have e' : k = mb := e; omega))) _ _ _ (HI.out.kids j b y hb hy)
          · have hj := (List.getElem?_eq_some_iff.1 hb).1
            simp at hj
            obtain rfl : j = i := by omega
            rw [List.getElem?_append_right (by omega), hl1] at hb
            rw [List.getElem?_append_right (by omega), hl2] at hy
            simp at hb hy
            subst hb hy
            refine SRep.avoid (fun b _ y => ?_) _ _ _ hS5
            show b < wr.heap.size
            rcases y with y | y | y
            · have := HI.out.fr.size; omega
            · omega
            · exact HI.out.row.ltB y
        have HA6 : Hid (Fr Zero w5 (w5.alloc (.cells #[.pointer (some a)] 37))) := Fr.alloc _ _ _
        have HR6 := hide (hrow5.keep HA6.out (fun _ _ h => h))
        have HSR : Hid (Src Tryz.prog 1 57 (.slice (some ⟨w5.heap.size, 0, none⟩) 1 1) 1 [sptr a] (w5.alloc (.cells #[.pointer (some a)] 37))) := src_one Tryz.underlying57 (heap_new_at rfl _) rfl
        have HB6 := hide (HA6.out.keep hb5 (fun h => h))
        have HM6 : Hid (MK (w5.alloc (.cells #[.pointer (some a)] 37)) mb tv n5 pv qv nv sz) := HA6.out.keep hM5 (fun h => h)
        have HF6 := hide ((HI.out.fr.trans hF5).trans HA6.out.of0)
        have HT6 := hide ((HI.out.tape.keep hF5 (fun k hk e => by have e' : k = mb := e; omega)).keep HA6.out (fun _ _ h => h))
        have HX6 : Hid (∀ (j : Nat) (b : Addr) (y : PT), (rows ++ [a])[j]? = some b → (ts ++ [u])[j]? = some y → SRep (w5.alloc (.cells #[.pointer (some a)] 37)) (fun k => k < w.heap.size ∨ k = w1.heap.size ∨ blockOf sv = some k) (d + 1) b y) := fun j b y hb hy => SRep.keep HA6.out.of0 _ _ _ (HX5.out j b y hb hy)
        have c1 : w5.cell? ⟨w1.heap.size, 1, none⟩ = some sv := (cell_of_heap (o := 1) hb5).trans rfl
        have hs5 := lt_of_heap hb5
        obtain ⟨sa, sc, rfl⟩ := HI.out.row.len
        clear hF5 hM5 hS5 hrow5 hb5 HX5
        go_wp2_with (at_builtin; refine wpList_pappend rfl (.tmp 43) (.tmp 45) 57 57 rfl Tryz.underlying57 infoSP rfl 1 [sptr a] rfl rfl HR6.out HSR.out ?hl9 ?h639 ?_)
        case hl9 => omega
        case h639 => omega
        intro v7 w7 hA7 hF7 hv7
        have hA7' : PRow w7 37 1 v7 (i + 1) ((rows ++ [a]).map sptr) := by
          have : (rows ++ [a]).map sptr = rows.map sptr ++ [sptr a] := by simp
          rw [this]
          exact hA7
        have hb7 := hF7.keep HB6.out (fun e => HR6.out.ne HB6.out (by decide) e)
        have hm7 : MK w7 mb tv n5 pv qv nv sz := hF7.keep HM6.out (fun e => HR6.out.ne HM6.out (by decide) e)
        have c7 : w7.cell? ⟨w1.heap.size, 1, none⟩ = some (.slice sa i sc) := (cell_of_heap (o := 1) hb7).trans rfl
        have f7 : w7.frozen? ⟨w1.heap.size, 1, none⟩ = false := free_of_heap hb7
        have h7l := lt_of_heap hb7
        obtain ⟨va, vc, rfl⟩ := hA7'.len
        have hS8 : Fr (One w1.heap.size) w7 (w7.setCell ⟨w1.heap.size, 1, none⟩ (.slice va (i + 1) vc)) := Fr.setCell _ _ _ _ rfl
        have hb8 : (w7.setCell ⟨w1.heap.size, 1, none⟩ (.slice va (i + 1) vc)).heap[w1.heap.size]? = some (.cells #[.int .i64 10, .slice va (i + 1) vc] 59 (0, 0)) := by rw [heap_setCell_same hb7]; rfl
        have hw6 : w5.heap.size ≤ (w5.alloc (.cells #[.pointer (some a)] 37)).heap.size := HA6.out.size
        have hwr := HI.out.fr.size
        have hF68 : Fr (fun k => k < w.heap.size ∨ k = w1.heap.size ∨ blockOf (.slice sa i sc) = some k) (w5.alloc (.cells #[.pointer (some a)] 37)) (w7.setCell ⟨w1.heap.size, 1, none⟩ (.slice va (i + 1) vc)) :=
          (hF7.mono (fun k _ e => .inr (.inr e))).trans (hS8.mono (fun k _ e => .inr (.inl e)))
        have hP68 : Fr (fun b => w.heap.size ≤ b) (w5.alloc (.cells #[.pointer (some a)] 37)) (w7.setCell ⟨w1.heap.size, 1, none⟩ (.slice va (i + 1) vc)) :=
          (hF7.mono (fun k _ e => hnew.2.2 k e)).trans (hS8.mono (fun k _ e => by have e' : k = w1.heap.size := e; have := hnew.1; show _ ≤ _; omega))
        have HN : Hid (ShInv w (w7.setCell ⟨w1.heap.size, 1, none⟩ (.slice va (i + 1) vc)) B mb w1.heap.size tv n pv qv nv sz 10 (d + 1) 2 (i + 1) (.slice va (i + 1) vc) (rows ++ [a]) (ts ++ [u]) n5) := by
          refine ⟨hS8.keep hm7 (fun e => by have e' : mb = w1.heap.size := e; have := hnew.1; omega), HF6.out.past hP68, hb8, hA7'.keep hS8 (fun g hg e => ?_), ⟨by simp [HI.out.len.1], by simp [HI.out.len.2]⟩, fun j b y hb hy => ?_, fun y hy => ?_, ?_, HT6.out.keep hP68 (fun k hk e => by have e' : w.heap.size ≤ k := e; omega), ⟨hnew.1, hnew.2.1, fun g hg => ?_⟩⟩
          · have e' : g = w1.heap.size := e
            rw [e'] at hg
            exact hA7'.ne hb7 (by decide) hg
          · have z1 := SRep.avoid (Y := fun k => (k < w.heap.size ∨ k = w1.heap.size ∨ blockOf (.slice sa i sc) = some k) ∨ (w5.alloc (.cells #[.pointer (some a)] 37)).heap.size ≤ k) (fun b hb y => by
              rcases y with y | y
              · exact y
              · omega) _ _ _ (HX6.out j b y hb hy)
            have z2 := SRep.keep (hF68.mono (fun k _ e => .inl e)) _ _ _ z1
            refine SRep.avoid (fun b _ y => ?_) _ _ _ z2
            rcases y with y | y | y
            · exact .inl (.inl y)
            · exact .inl (.inr (.inl y))
            · rcases Nat.lt_or_ge b (w5.alloc (.cells #[.pointer (some a)] 37)).heap.size with q | q
              · exact .inl (.inr (.inr (hv7 b (by simpa using q) y)))
              · exact .inr q
          · rcases List.mem_append.1 hy with hy | hy
            · exact HI.out.made y hy
            · simp at hy; subst hy; exact hmu
          · have e1 : (i + 1) * costS (d + 1 - 1) = i * costS (d + 1 - 1) + costS d := by rw [Nat.add_sub_cancel, Nat.succ_mul]
            omega
          · rcases Nat.lt_or_ge g (w5.alloc (.cells #[.pointer (some a)] 37)).heap.size with q | q
            · exact hnew.2.2 g (hv7 g (by simpa using q) hg)
            · have := HF6.out.size; omega
        clear hA7 hA7' hF7 hv7 hb7 hm7 hb8 hS8 hF68 hP68
        go_wp2_with fail
        exact ⟨⟨i + 1, _, rows ++ [a], ts ++ [u], n5, by omega, by go_num, HN⟩, by simp [intOf]; omega⟩
      · have hikI : ¬ (i : Int) < 1 + (q : Int) := by omega
        obtain rfl : i = (1 + q) := by omega
        have hc := HI.out.cost
        have hmul : (1 + q) * costS (d + 1 - 1) ≤ 3 * costS d := by rw [Nat.add_sub_cancel]; exact Nat.mul_le_mul_right _ (by omega)
        go_wp2_with fail
        go_ret
        have hl2 := HI.out.len.2
        refine ⟨⟨w1.heap.size, 0, none⟩, mkT 10 ts, n', rfl, HI.out.fr, HI.out.mm, by omega, mkT_made (by omega) (by omega) (by omega) HI.out.made, w1.heap.size, sv, rows, rfl, ?_, ?_, ?_, ?_, ?_, ?_⟩
        · rw [mkT_kind]; exact HI.out.blk
        · intro e
          have e' : w1.heap.size < w.heap.size := e
          have := HI.out.new.1
          omega
        · rw [HI.out.len.1]; exact HI.out.row
        · intro g hg e
          have e' : g < w.heap.size := e
          have := HI.out.new.2.2 g hg
          omega
        · rw [mkT_subs (fun h7 => by omega), HI.out.len.1, HI.out.len.2]
        · intro j c u hc hu
          rw [mkT_subs (fun h7 => by omega)] at hu
          exact SRep.avoid (fun b _ y => .inl y) _ _ _ (HI.out.kids j c u hc hu)

theorem shape_all : ∀ d, d ≤ 3 → ShSaid d := by
  intro d
  induction d with
  | zero => intro _; exact shape_zero
  | succ d ih => intro h; exact shape_succ (by omega) (ih (by omega))

end Go.Proofs.YtdcjogpkogidaaaGreatDoor.Q
