/- The text of a type that was made. -/
import Derived.Test.YtdcjogpkogidaaaGreatDoorMdMShape
namespace Go.Proofs.YtdcjogpkogidaaaGreatDoor.Q
open Go.RowKit

theorem wd_len : ∀ k, k < 7 → (wd k).data.toList.length ≤ 5 := by decide +kernel
theorem tJoin_len {f : PT → Bs} {sep : UInt8} {M : Nat} : ∀ (l : List PT) (i : Nat), (∀ u ∈ l, (f u).length ≤ M) → (tJoin f sep i l).length ≤ l.length * (M + 3) := by
  intro l
  induction l with
  | nil => intro i _; simp [tJoin]
  | cons u l ih =>
    intro i h
    have h1 := h u (by simp)
    have h2 := ih (i + 1) (fun x hx => h x (by simp [hx]))
    rw [tJoin_cons]
    simp only [List.length_append, List.length_cons]
    have h3 : (if i = 0 then ([] : Bs) else [sep]).length ≤ 1 := by split <;> simp
    rw [Nat.succ_mul]
    omega
theorem tText_len : ∀ (k : Nat) (t : PT), MadeT k t → (tText k t).length ≤ 20 ^ k := by
  intro k
  induction k with
  | zero => intro t h; exact h.elim
  | succ k ih =>
    intro t h
    have hp : 1 ≤ 20 ^ k := Nat.one_le_pow _ _ (by omega)
    rw [tText_succ, Nat.pow_succ]
    rcases h with ⟨h7, e⟩ | ⟨h78, u, hu, e⟩ | ⟨h90, l, hl1, hl3, hl, e⟩
    · rw [if_pos h7]
      have := wd_len t.kind h7
      omega
    · have es : t.sub 0 = u := by rw [e]; rfl
      have := ih u hu
      rw [if_neg (by omega), es]
      rcases h78 with h7 | h8
      · rw [if_pos h7]; simp; omega
      · rw [if_neg (by omega), if_pos h8]; simp; omega
    · have es : t.subs = l := by rw [e]; exact named_subs l 0
      have hj : ∀ sep, (tJoin (tText k) sep 0 l).length ≤ 3 * (20 ^ k + 3) := fun sep => Nat.le_trans (tJoin_len l 0 (fun u hu => ih u (hl u hu))) (Nat.mul_le_mul_right _ hl3)
      rw [if_neg (by omega), if_neg (by omega), if_neg (by omega), es]
      have h44 := hj 44
      have h124 := hj 124
      split <;> simp <;> omega

def TextSaid (k : Nat) : Prop := ∀ (w : World) (X : Nat → Prop) (a : Addr) (t : PT), SRep w X k a t → MadeT k t → Calls Tryz.prog 13 #[.pointer (some a)] w fun e w' => e = .returned (.string (ba (tText k t))) ∧ Fr Zero w w'

set_option maxHeartbeats 16000000 in
set_option maxRecDepth 100000 in
theorem text_word {w : World} {b κ : Nat} {sv : Value} (hb : w.heap[b]? = some (.cells #[.int .i64 κ, sv] 59 (0, 0))) (h7 : κ < 7) :
    Calls Tryz.prog 13 #[.pointer (some ⟨b, 0, none⟩)] w fun e w' => e = .returned (.string (wd κ)) ∧ Fr Zero w w' := by
  have hlt := lt_of_heap hb
  have c0 : w.cell? ⟨b, 0, none⟩ = some (.int .i64 κ) := (cell_of_heap (o := 0) hb).trans rfl
  clear hb
  rcases (show κ = 0 ∨ κ = 1 ∨ κ = 2 ∨ κ = 3 ∨ κ = 4 ∨ κ = 5 ∨ κ = 6 by omega) with rfl | rfl | rfl | rfl | rfl | rfl | rfl
  all_goals
    go_enter Tryz.func13, Tryz.ntmps13
    go_wp2_with fail
    go_ret
    exact ⟨rfl, Fr.alloc _ _ _⟩

set_option maxHeartbeats 16000000 in
set_option maxRecDepth 100000 in
theorem text_list {k : Nat} (hk : k ≤ 5) (ih : TextSaid k) {w : World} {X : Nat → Prop} {b : Nat} {sv : Value} {c : Addr} {u : PT} (hb : w.heap[b]? = some (.cells #[.int .i64 7, sv] 59 (0, 0))) (hrow : PRow w 37 1 sv 1 [sptr c]) (hc : SRep w X k c u) (hu : MadeT k u) :
    Calls Tryz.prog 13 #[.pointer (some ⟨b, 0, none⟩)] w fun e w' => e = .returned (.string (ba (91 :: (tText k u ++ [93])))) ∧ Fr Zero w w' := by
  have hlt := lt_of_heap hb
  have HB := hide hb
  have c0 : w.cell? ⟨b, 0, none⟩ = some (.int .i64 7) := (cell_of_heap (o := 0) hb).trans rfl
  have c1 : w.cell? ⟨b, 1, none⟩ = some sv := (cell_of_heap (o := 1) hb).trans rfl
  obtain ⟨fb, off, cap, rfl, d0⟩ := hrow.at_ (j := 0) (u := sptr c) rfl
  unfold sptr at d0
  rw [Nat.add_zero] at d0
  have hp : 20 ^ k ≤ 3200000 := Nat.le_trans (Nat.pow_le_pow_right (by omega) hk) (by decide)
  have hl := tText_len k u hu
  have HIH := hide (ih w X c u hc hu)
  clear hb hrow hc hu ih
  go_enter Tryz.func13, Tryz.ntmps13
  go_wp2_with fail
  go_loopw [4, 5, 6] (fun tv iv _ wr => tv = .string ⟨#[]⟩ ∧ iv = .int .i64 0 ∧ wr = w) (fun _ _ _ _ => 0)
  case atStart => exact ⟨rfl, rfl, rfl⟩
  case round =>
    obtain ⟨rfl, rfl, rfl⟩ := hrel
    go_wp2_with fail
    refine HIH.out.mono ?_
    rintro e w1 ⟨rfl, hF1⟩
    have HF1 := hide hF1
    have g0 : w1.cell? ⟨b, 0, none⟩ = some (.int .i64 7) := (hF1.cell (a := ⟨b, 0, none⟩) hlt (fun h => h)).trans c0
    generalize hx : tText k u = x at *
    have HX := hide hx
    clear hx
    have z1 : (ba x).size = x.length := ba_size x
    have a1 : ⟨#[91]⟩ ++ ba x = ba (91 :: x) := ba_append [91] x
    have a2 : ba (91 :: x) ++ ⟨#[93]⟩ = ba (91 :: (x ++ [93])) := ba_append (91 :: x) [93]
    have z2 : (ba (91 :: x)).size = x.length + 1 := ba_size _
    have n1 : ¬ 9223372036854775807 < 1 + x.length := by omega
    have n2 : ¬ 9223372036854775807 < x.length + 1 + 1 := by omega
    clear hF1 c0
    go_wp2_with fail
    go_ret
    rw [HX.out]
    exact ⟨rfl, HF1.out⟩

set_option maxHeartbeats 16000000 in
set_option maxRecDepth 100000 in
theorem text_opt {k : Nat} (hk : k ≤ 5) (ih : TextSaid k) {w : World} {X : Nat → Prop} {b : Nat} {sv : Value} {c : Addr} {u : PT} (hb : w.heap[b]? = some (.cells #[.int .i64 8, sv] 59 (0, 0))) (hrow : PRow w 37 1 sv 1 [sptr c]) (hc : SRep w X k c u) (hu : MadeT k u) :
    Calls Tryz.prog 13 #[.pointer (some ⟨b, 0, none⟩)] w fun e w' => e = .returned (.string (ba (63 :: tText k u))) ∧ Fr Zero w w' := by
  have hlt := lt_of_heap hb
  have HB := hide hb
  have c0 : w.cell? ⟨b, 0, none⟩ = some (.int .i64 8) := (cell_of_heap (o := 0) hb).trans rfl
  have c1 : w.cell? ⟨b, 1, none⟩ = some sv := (cell_of_heap (o := 1) hb).trans rfl
  obtain ⟨fb, off, cap, rfl, d0⟩ := hrow.at_ (j := 0) (u := sptr c) rfl
  unfold sptr at d0
  rw [Nat.add_zero] at d0
  have hp : 20 ^ k ≤ 3200000 := Nat.le_trans (Nat.pow_le_pow_right (by omega) hk) (by decide)
  have hl := tText_len k u hu
  have HIH := hide (ih w X c u hc hu)
  clear hb hrow hc hu ih
  go_enter Tryz.func13, Tryz.ntmps13
  go_wp2_with fail
  go_loopw [4, 5, 6] (fun tv iv _ wr => tv = .string ⟨#[]⟩ ∧ iv = .int .i64 0 ∧ wr = w) (fun _ _ _ _ => 0)
  case atStart => exact ⟨rfl, rfl, rfl⟩
  case round =>
    obtain ⟨rfl, rfl, rfl⟩ := hrel
    go_wp2_with fail
    refine HIH.out.mono ?_
    rintro e w1 ⟨rfl, hF1⟩
    have HF1 := hide hF1
    have g0 : w1.cell? ⟨b, 0, none⟩ = some (.int .i64 8) := (hF1.cell (a := ⟨b, 0, none⟩) hlt (fun h => h)).trans c0
    generalize hx : tText k u = x at *
    have HX := hide hx
    clear hx
    have z1 : (ba x).size = x.length := ba_size x
    have a1 : ⟨#[63]⟩ ++ ba x = ba (63 :: x) := ba_append [63] x
    have n1 : ¬ 9223372036854775807 < 1 + x.length := by omega
    clear hF1 c0
    go_wp2_with fail
    go_ret
    rw [HX.out]
    exact ⟨rfl, HF1.out⟩

theorem tJoin_snoc (f : PT → Bs) (sep : UInt8) (u : PT) : ∀ (l : List PT) (i : Nat), tJoin f sep i (l ++ [u]) = tJoin f sep i l ++ ((if i + l.length = 0 then [] else [sep]) ++ (UInt8.ofNat (97 + (i + l.length)) :: 58 :: f u)) := by
  intro l
  induction l with
  | nil => intro i; simp [tJoin]
  | cons v l ih =>
    intro i
    rw [List.cons_append, tJoin_cons, ih, tJoin_cons, List.length_cons, show i + 1 + l.length = i + (l.length + 1) by omega]
    simp only [List.append_assoc]

set_option maxHeartbeats 16000000 in
set_option maxRecDepth 100000 in
theorem text_rec {k : Nat} (hk : k ≤ 5) (ih : TextSaid k) {w : World} {X : Nat → Prop} {b : Nat} {sv : Value} {rows : List Addr} {l : List PT} (hb : w.heap[b]? = some (.cells #[.int .i64 9, sv] 59 (0, 0))) (hrow : PRow w 37 1 sv rows.length (rows.map sptr)) (hlen : rows.length = l.length) (hl3 : l.length ≤ 3) (hc : ∀ (j : Nat) (c : Addr) (u : PT), rows[j]? = some c → l[j]? = some u → SRep w X k c u) (hu : ∀ u ∈ l, MadeT k u) :
    Calls Tryz.prog 13 #[.pointer (some ⟨b, 0, none⟩)] w fun e w' => e = .returned (.string (ba (123 :: (tJoin (tText k) 44 0 l ++ [125])))) ∧ Fr Zero w w' := by
  have hlt := lt_of_heap hb
  have c0 : w.cell? ⟨b, 0, none⟩ = some (.int .i64 9) := (cell_of_heap (o := 0) hb).trans rfl
  have c1 : w.cell? ⟨b, 1, none⟩ = some sv := (cell_of_heap (o := 1) hb).trans rfl
  have hp : 20 ^ k ≤ 3200000 := Nat.le_trans (Nat.pow_le_pow_right (by omega) hk) (by decide)
  have HIH := hide ih
  have HC := hide hc
  have HU := hide hu
  have HR := hide hrow
  obtain ⟨sa, sc, rfl⟩ := hrow.len
  clear hb hrow hc hu ih
  go_enter Tryz.func13, Tryz.ntmps13
  go_wp2_with fail
  go_loopw [4, 5, 6] (fun tv iv _ wr => ∃ (i : Nat) (acc : Bs), i ≤ l.length ∧ tv = .string (ba acc) ∧ iv = .int .i64 i ∧ acc.length ≤ i * 3200003 ∧ Hid (acc = tJoin (tText k) 44 0 (l.take i)) ∧ Hid (Fr Zero w wr)) (fun _ iv _ _ => l.length - (intOf iv).toNat)
  case atStart => exact ⟨0, [], by omega, rfl, rfl, by simp, by show _ = _; simp [tJoin], Fr.refl _ _⟩
  case round =>
    obtain ⟨i, acc, hi, rfl, rfl, hal, HA, HF⟩ := hrel
    have g0 : wr.cell? ⟨b, 0, none⟩ = some (.int .i64 9) := (HF.out.cell (a := ⟨b, 0, none⟩) hlt (fun h => h)).trans c0
    have g1 : wr.cell? ⟨b, 1, none⟩ = some (.slice sa rows.length sc) := (HF.out.cell (a := ⟨b, 1, none⟩) hlt (fun h => h)).trans c1
    have z0 : (ba acc).size = acc.length := ba_size acc
    by_cases hlt2 : i < l.length
    · have hI : (i : Int) < (rows.length : Int) := by omega
      obtain ⟨c, hc⟩ : ∃ c, rows[i]? = some c := ⟨_, List.getElem?_eq_getElem (by omega)⟩
      obtain ⟨u, hu⟩ : ∃ u, l[i]? = some u := ⟨_, List.getElem?_eq_getElem hlt2⟩
      obtain ⟨fb, off, cap, e1, d0⟩ := HR.out.at_ (j := i) (u := sptr c) (by rw [List.getElem?_map, hc]; rfl)
      obtain ⟨rfl, rfl⟩ : sa = some ⟨fb, off, none⟩ ∧ sc = cap := by simp at e1; exact ⟨e1.1, e1.2⟩
      have d1 : wr.cell? ⟨fb, off + i, none⟩ = some (.pointer (some c)) := (HF.out.cell (a := ⟨fb, off + i, none⟩) (World.block_lt_of_cell? _ _ d0) (fun h => h)).trans d0
      have hmu := HU.out u (List.mem_of_getElem? hu)
      have hxl := tText_len k u hmu
      have HK := hide (HIH.out wr X c u (SRep.keep HF.out.of0 _ _ _ (HC.out i c u hc hu)) hmu)
      have HJ : Hid (tJoin (tText k) 44 0 (l.take (i + 1)) = tJoin (tText k) 44 0 (l.take i) ++ ((if i = 0 then [] else [44]) ++ (UInt8.ofNat (97 + i) :: 58 :: tText k u))) := by
        show _ = _
        obtain ⟨hq, he⟩ := List.getElem?_eq_some_iff.1 hu
        rw [List.take_succ_eq_append_getElem hq, he, tJoin_snoc, List.length_take, Nat.zero_add, Nat.min_eq_left (by omega)]
      clear hc hu e1 d0 hmu
      go_wp2_with fail
      refine HK.out.mono ?_
      rintro e w1 ⟨rfl, hF1⟩
      have h0 : w1.cell? ⟨b, 0, none⟩ = some (.int .i64 9) := (hF1.cell (a := ⟨b, 0, none⟩) (World.block_lt_of_cell? _ _ g0) (fun h => h)).trans g0
      have HF1 := hide (HF.out.trans hF1)
      generalize tText k u = x at *
      have z1 : (ba x).size = x.length := ba_size x
      clear hF1 g0 g1 HK
      have HKN := hide (fun w => kname_any i (by omega) w)
      generalize UInt8.ofNat (97 + i) = y at *
      by_cases hi0 : i = 0
      · have hiI : ¬ (0 : Int) < (i : Int) := by omega
        have HI0 := hide hi0
        clear hi0
        obtain ⟨B1, a3, HB1, y1⟩ : ∃ l, ba acc ++ ba [y] = ba l ∧ Hid (l = acc ++ [y]) ∧ l.length = acc.length + 1 := ⟨_, ba_append _ _, rfl, by simp⟩
        obtain ⟨B2, a4, HB2, y2⟩ : ∃ l, ba B1 ++ ⟨#[58]⟩ = ba l ∧ Hid (l = B1 ++ [58]) ∧ l.length = B1.length + 1 := ⟨_, ba_append _ [58], rfl, by simp⟩
        obtain ⟨B3, a5, HB3, y3⟩ : ∃ l, ba B2 ++ ba x = ba l ∧ Hid (l = B2 ++ x) ∧ l.length = B2.length + x.length := ⟨_, ba_append _ _, rfl, by simp⟩
        have z3 : (ba acc).size = acc.length := ba_size _
        have z4 : (ba [y]).size = 1 := ba_size _
        have z5 : (ba B1).size = B1.length := ba_size _
        have z6 : (ba B2).size = B2.length := ba_size _
        have n3 : ¬ 9223372036854775807 < acc.length + 1 := by omega
        have n4 : ¬ 9223372036854775807 < B1.length + 1 := by omega
        have n5 : ¬ 9223372036854775807 < B2.length + x.length := by omega
        go_wp2_with fail
        refine (HKN.out w1).mono ?_
        rintro e w2 ⟨rfl, hF2⟩
        have HF2 := hide (HF1.out.trans hF2)
        clear hF2
        go_wp2_with fail
        exact ⟨⟨i + 1, B3, by omega, rfl, by go_num, by omega, by show _ = _; rw [HJ.out, ← HA.out, HB3.out, HB2.out, HB1.out]; simp [HI0.out], HF2⟩, by simp [intOf]; omega⟩
      · have hiI : (0 : Int) < (i : Int) := by omega
        have HI0 := hide hi0
        clear hi0
        obtain ⟨A, a2, HAA, y0⟩ : ∃ l, ba acc ++ ⟨#[44]⟩ = ba l ∧ Hid (l = acc ++ [44]) ∧ l.length = acc.length + 1 := ⟨_, ba_append _ [44], rfl, by simp⟩
        have n2 : ¬ 9223372036854775807 < acc.length + 1 := by omega
        obtain ⟨B1, a3, HB1, y1⟩ : ∃ l, ba A ++ ba [y] = ba l ∧ Hid (l = A ++ [y]) ∧ l.length = A.length + 1 := ⟨_, ba_append _ _, rfl, by simp⟩
        obtain ⟨B2, a4, HB2, y2⟩ : ∃ l, ba B1 ++ ⟨#[58]⟩ = ba l ∧ Hid (l = B1 ++ [58]) ∧ l.length = B1.length + 1 := ⟨_, ba_append _ [58], rfl, by simp⟩
        obtain ⟨B3, a5, HB3, y3⟩ : ∃ l, ba B2 ++ ba x = ba l ∧ Hid (l = B2 ++ x) ∧ l.length = B2.length + x.length := ⟨_, ba_append _ _, rfl, by simp⟩
        have z3 : (ba A).size = A.length := ba_size _
        have z4 : (ba [y]).size = 1 := ba_size _
        have z5 : (ba B1).size = B1.length := ba_size _
        have z6 : (ba B2).size = B2.length := ba_size _
        have n3 : ¬ 9223372036854775807 < A.length + 1 := by omega
        have n4 : ¬ 9223372036854775807 < B1.length + 1 := by omega
        have n5 : ¬ 9223372036854775807 < B2.length + x.length := by omega
        go_wp2_with fail
        refine (HKN.out w1).mono ?_
        rintro e w2 ⟨rfl, hF2⟩
        have HF2 := hide (HF1.out.trans hF2)
        clear hF2
        go_wp2_with fail
        exact ⟨⟨i + 1, B3, by omega, rfl, by go_num, by omega, by show _ = _; rw [HJ.out, ← HA.out, HB3.out, HB2.out, HB1.out, HAA.out]; simp [HI0.out], HF2⟩, by simp [intOf]; omega⟩
    · have hI : ¬ (i : Int) < (rows.length : Int) := by omega
      obtain rfl : i = l.length := by omega
      have HA2 : Hid (acc = tJoin (tText k) 44 0 l) := by show _ = _; rw [HA.out, List.take_length]
      have a1 : ⟨#[123]⟩ ++ ba acc = ba (123 :: acc) := ba_append [123] acc
      have a2 : ba (123 :: acc) ++ ⟨#[125]⟩ = ba (123 :: (acc ++ [125])) := ba_append (123 :: acc) [125]
      have z2 : (ba (123 :: acc)).size = acc.length + 1 := ba_size _
      have n1 : ¬ 9223372036854775807 < 1 + acc.length := by omega
      have n2 : ¬ 9223372036854775807 < acc.length + 1 + 1 := by omega
      clear HA
      go_wp2_with fail
      go_ret
      rw [← HA2.out]
      exact ⟨rfl, HF.out⟩

set_option maxHeartbeats 16000000 in
set_option maxRecDepth 100000 in
theorem text_choice {k : Nat} (hk : k ≤ 5) (ih : TextSaid k) {w : World} {X : Nat → Prop} {b : Nat} {sv : Value} {rows : List Addr} {l : List PT} (hb : w.heap[b]? = some (.cells #[.int .i64 10, sv] 59 (0, 0))) (hrow : PRow w 37 1 sv rows.length (rows.map sptr)) (hlen : rows.length = l.length) (hl3 : l.length ≤ 3) (hc : ∀ (j : Nat) (c : Addr) (u : PT), rows[j]? = some c → l[j]? = some u → SRep w X k c u) (hu : ∀ u ∈ l, MadeT k u) :
    Calls Tryz.prog 13 #[.pointer (some ⟨b, 0, none⟩)] w fun e w' => e = .returned (.string (ba (60 :: (tJoin (tText k) 124 0 l ++ [62])))) ∧ Fr Zero w w' := by
  have hlt := lt_of_heap hb
  have c0 : w.cell? ⟨b, 0, none⟩ = some (.int .i64 10) := (cell_of_heap (o := 0) hb).trans rfl
  have c1 : w.cell? ⟨b, 1, none⟩ = some sv := (cell_of_heap (o := 1) hb).trans rfl
  have hp : 20 ^ k ≤ 3200000 := Nat.le_trans (Nat.pow_le_pow_right (by omega) hk) (by decide)
  have HIH := hide ih
  have HC := hide hc
  have HU := hide hu
  have HR := hide hrow
  obtain ⟨sa, sc, rfl⟩ := hrow.len
  clear hb hrow hc hu ih
  go_enter Tryz.func13, Tryz.ntmps13
  go_wp2_with fail
  go_loopw [4, 5, 6] (fun tv iv _ wr => ∃ (i : Nat) (acc : Bs), i ≤ l.length ∧ tv = .string (ba acc) ∧ iv = .int .i64 i ∧ acc.length ≤ i * 3200003 ∧ Hid (acc = tJoin (tText k) 124 0 (l.take i)) ∧ Hid (Fr Zero w wr)) (fun _ iv _ _ => l.length - (intOf iv).toNat)
  case atStart => exact ⟨0, [], by omega, rfl, rfl, by simp, by show _ = _; simp [tJoin], Fr.refl _ _⟩
  case round =>
    obtain ⟨i, acc, hi, rfl, rfl, hal, HA, HF⟩ := hrel
    have g0 : wr.cell? ⟨b, 0, none⟩ = some (.int .i64 10) := (HF.out.cell (a := ⟨b, 0, none⟩) hlt (fun h => h)).trans c0
    have g1 : wr.cell? ⟨b, 1, none⟩ = some (.slice sa rows.length sc) := (HF.out.cell (a := ⟨b, 1, none⟩) hlt (fun h => h)).trans c1
    have z0 : (ba acc).size = acc.length := ba_size acc
    by_cases hlt2 : i < l.length
    · have hI : (i : Int) < (rows.length : Int) := by omega
      obtain ⟨c, hc⟩ : ∃ c, rows[i]? = some c := ⟨_, List.getElem?_eq_getElem (by omega)⟩
      obtain ⟨u, hu⟩ : ∃ u, l[i]? = some u := ⟨_, List.getElem?_eq_getElem hlt2⟩
      obtain ⟨fb, off, cap, e1, d0⟩ := HR.out.at_ (j := i) (u := sptr c) (by rw [List.getElem?_map, hc]; rfl)
      obtain ⟨rfl, rfl⟩ : sa = some ⟨fb, off, none⟩ ∧ sc = cap := by simp at e1; exact ⟨e1.1, e1.2⟩
      have d1 : wr.cell? ⟨fb, off + i, none⟩ = some (.pointer (some c)) := (HF.out.cell (a := ⟨fb, off + i, none⟩) (World.block_lt_of_cell? _ _ d0) (fun h => h)).trans d0
      have hmu := HU.out u (List.mem_of_getElem? hu)
      have hxl := tText_len k u hmu
      have HK := hide (HIH.out wr X c u (SRep.keep HF.out.of0 _ _ _ (HC.out i c u hc hu)) hmu)
      have HJ : Hid (tJoin (tText k) 124 0 (l.take (i + 1)) = tJoin (tText k) 124 0 (l.take i) ++ ((if i = 0 then [] else [124]) ++ (UInt8.ofNat (97 + i) :: 58 :: tText k u))) := by
        show _ = _
        obtain ⟨hq, he⟩ := List.getElem?_eq_some_iff.1 hu
        rw [List.take_succ_eq_append_getElem hq, he, tJoin_snoc, List.length_take, Nat.zero_add, Nat.min_eq_left (by omega)]
      clear hc hu e1 d0 hmu
      go_wp2_with fail
      refine HK.out.mono ?_
      rintro e w1 ⟨rfl, hF1⟩
      have h0 : w1.cell? ⟨b, 0, none⟩ = some (.int .i64 10) := (hF1.cell (a := ⟨b, 0, none⟩) (World.block_lt_of_cell? _ _ g0) (fun h => h)).trans g0
      have HF1 := hide (HF.out.trans hF1)
      generalize tText k u = x at *
      have z1 : (ba x).size = x.length := ba_size x
      clear hF1 g0 g1 HK
      have HKN := hide (fun w => kname_any i (by omega) w)
      generalize UInt8.ofNat (97 + i) = y at *
      by_cases hi0 : i = 0
      · have hiI : ¬ (0 : Int) < (i : Int) := by omega
        have HI0 := hide hi0
        clear hi0
        obtain ⟨B1, a3, HB1, y1⟩ : ∃ l, ba acc ++ ba [y] = ba l ∧ Hid (l = acc ++ [y]) ∧ l.length = acc.length + 1 := ⟨_, ba_append _ _, rfl, by simp⟩
        obtain ⟨B2, a4, HB2, y2⟩ : ∃ l, ba B1 ++ ⟨#[58]⟩ = ba l ∧ Hid (l = B1 ++ [58]) ∧ l.length = B1.length + 1 := ⟨_, ba_append _ [58], rfl, by simp⟩
        obtain ⟨B3, a5, HB3, y3⟩ : ∃ l, ba B2 ++ ba x = ba l ∧ Hid (l = B2 ++ x) ∧ l.length = B2.length + x.length := ⟨_, ba_append _ _, rfl, by simp⟩
        have z3 : (ba acc).size = acc.length := ba_size _
        have z4 : (ba [y]).size = 1 := ba_size _
        have z5 : (ba B1).size = B1.length := ba_size _
        have z6 : (ba B2).size = B2.length := ba_size _
        have n3 : ¬ 9223372036854775807 < acc.length + 1 := by omega
        have n4 : ¬ 9223372036854775807 < B1.length + 1 := by omega
        have n5 : ¬ 9223372036854775807 < B2.length + x.length := by omega
        go_wp2_with fail
        refine (HKN.out w1).mono ?_
        rintro e w2 ⟨rfl, hF2⟩
        have HF2 := hide (HF1.out.trans hF2)
        clear hF2
        go_wp2_with fail
        exact ⟨⟨i + 1, B3, by omega, rfl, by go_num, by omega, by show _ = _; rw [HJ.out, ← HA.out, HB3.out, HB2.out, HB1.out]; simp [HI0.out], HF2⟩, by simp [intOf]; omega⟩
      · have hiI : (0 : Int) < (i : Int) := by omega
        have HI0 := hide hi0
        clear hi0
        obtain ⟨A, a2, HAA, y0⟩ : ∃ l, ba acc ++ ⟨#[124]⟩ = ba l ∧ Hid (l = acc ++ [124]) ∧ l.length = acc.length + 1 := ⟨_, ba_append _ [124], rfl, by simp⟩
        have n2 : ¬ 9223372036854775807 < acc.length + 1 := by omega
        obtain ⟨B1, a3, HB1, y1⟩ : ∃ l, ba A ++ ba [y] = ba l ∧ Hid (l = A ++ [y]) ∧ l.length = A.length + 1 := ⟨_, ba_append _ _, rfl, by simp⟩
        obtain ⟨B2, a4, HB2, y2⟩ : ∃ l, ba B1 ++ ⟨#[58]⟩ = ba l ∧ Hid (l = B1 ++ [58]) ∧ l.length = B1.length + 1 := ⟨_, ba_append _ [58], rfl, by simp⟩
        obtain ⟨B3, a5, HB3, y3⟩ : ∃ l, ba B2 ++ ba x = ba l ∧ Hid (l = B2 ++ x) ∧ l.length = B2.length + x.length := ⟨_, ba_append _ _, rfl, by simp⟩
        have z3 : (ba A).size = A.length := ba_size _
        have z4 : (ba [y]).size = 1 := ba_size _
        have z5 : (ba B1).size = B1.length := ba_size _
        have z6 : (ba B2).size = B2.length := ba_size _
        have n3 : ¬ 9223372036854775807 < A.length + 1 := by omega
        have n4 : ¬ 9223372036854775807 < B1.length + 1 := by omega
        have n5 : ¬ 9223372036854775807 < B2.length + x.length := by omega
        go_wp2_with fail
        refine (HKN.out w1).mono ?_
        rintro e w2 ⟨rfl, hF2⟩
        have HF2 := hide (HF1.out.trans hF2)
        clear hF2
        go_wp2_with fail
        exact ⟨⟨i + 1, B3, by omega, rfl, by go_num, by omega, by show _ = _; rw [HJ.out, ← HA.out, HB3.out, HB2.out, HB1.out, HAA.out]; simp [HI0.out], HF2⟩, by simp [intOf]; omega⟩
    · have hI : ¬ (i : Int) < (rows.length : Int) := by omega
      obtain rfl : i = l.length := by omega
      have HA2 : Hid (acc = tJoin (tText k) 124 0 l) := by show _ = _; rw [HA.out, List.take_length]
      have a1 : ⟨#[60]⟩ ++ ba acc = ba (60 :: acc) := ba_append [60] acc
      have a2 : ba (60 :: acc) ++ ⟨#[62]⟩ = ba (60 :: (acc ++ [62])) := ba_append (60 :: acc) [62]
      have z2 : (ba (60 :: acc)).size = acc.length + 1 := ba_size _
      have n1 : ¬ 9223372036854775807 < 1 + acc.length := by omega
      have n2 : ¬ 9223372036854775807 < acc.length + 1 + 1 := by omega
      clear HA
      go_wp2_with fail
      go_ret
      rw [← HA2.out]
      exact ⟨rfl, HF.out⟩

theorem text_succ {k : Nat} (hk : k ≤ 5) (ih : TextSaid k) : TextSaid (k + 1) := by
  intro w X a t hS hM
  obtain ⟨b, sv, rows, rfl, hb, _, hrow, _, hlen, hkids⟩ := hS
  rcases hM with ⟨h7, _⟩ | ⟨h78, u, hu, e⟩ | ⟨h90, l, _, hl3, hl, e⟩
  · have et : tText (k + 1) t = (wd t.kind).data.toList := by rw [tText_succ, if_pos h7]
    rw [et, ba_data]
    exact text_word hb h7
  · have es : t.subs = [u] := by rw [e]; rfl
    have es0 : t.sub 0 = u := by rw [e]; rfl
    rw [es] at hlen
    match rows, hlen with
    | [c], _ =>
      have hc := hkids 0 c u rfl (by rw [es]; rfl)
      rcases h78 with h | h
      · have et : tText (k + 1) t = 91 :: (tText k u ++ [93]) := by rw [tText_succ, if_neg (by omega), if_pos h, es0]
        rw [et]
        rw [h] at hb
        exact text_list hk ih hb hrow hc hu
      · have et : tText (k + 1) t = 63 :: tText k u := by rw [tText_succ, if_neg (by omega), if_neg (by omega), if_pos h, es0]
        rw [et]
        rw [h] at hb
        exact text_opt hk ih hb hrow hc hu
  · have es : t.subs = l := by rw [e]; exact named_subs l 0
    rw [es] at hlen
    have hk2 : ∀ (j : Nat) (c : Addr) (u : PT), rows[j]? = some c → l[j]? = some u → SRep w X k c u := fun j c u h1 h2 => hkids j c u h1 (by rw [es]; exact h2)
    rcases h90 with h | h
    · have et : tText (k + 1) t = 123 :: (tJoin (tText k) 44 0 l ++ [125]) := by rw [tText_succ, if_neg (by omega), if_neg (by omega), if_neg (by omega), if_pos h, es]
      rw [et]
      rw [h] at hb
      exact text_rec hk ih hb hrow hlen hl3 hk2 hl
    · have et : tText (k + 1) t = 60 :: (tJoin (tText k) 124 0 l ++ [62]) := by rw [tText_succ, if_neg (by omega), if_neg (by omega), if_neg (by omega), if_neg (by omega), es]
      rw [et]
      rw [h] at hb
      exact text_choice hk ih hb hrow hlen hl3 hk2 hl
theorem text_all : ∀ k, k ≤ 6 → TextSaid k := by
  intro k
  induction k with
  | zero => intro _ w X a t h; exact h.elim
  | succ k ih => intro h; exact text_succ (by omega) (ih (by omega))

end Go.Proofs.YtdcjogpkogidaaaGreatDoor.Q
