/- Numbers and paths as the reference writes them. The reference's reader takes counts, and looks types up. The reference's reader tells one more number, or part; numbers. -/
import Derived.Deep.LoopGhost
import Derived.RegionTactic
import Derived.Test.YtnhkalnihjkoeaaGreatDoorGtVCase
import Derived.Test.YtnhkalnihjkoeaaGreatDoorGtDTake
namespace Go.Proofs.YtnhkalnihjkoeaaGreatDoor
open Go.RowKit

theorem under_any (p st : Bs) (w : World) (hl : p.length + st.length + 1 ≤ 1000000) :
    Calls Tryz.prog 252 #[.string (ba p), .string (ba st)] w fun e w' => e = .returned (.string (ba (under p st))) ∧ w' = w := by
  rcases p with _ | ⟨b, r⟩
  · have he : (ba []).toList.isEmpty = true := by rw [ByteArray.toList_eq, ba_list]; rfl
    go_enter Tryz.func252, Tryz.ntmps252
    go_wp2_with fail
    go_ret
    exact ⟨rfl, rfl⟩
  · have he : (ba (b :: r)).toList.isEmpty = false := by
      rw [ByteArray.toList_eq, ba_list]; rfl
    have a1 : ba (b :: r) ++ ⟨#[47]⟩ = ba (b :: (r ++ [47])) := ba_append (b :: r) [47]
    have a2 : ba (b :: (r ++ [47])) ++ ba st = ba (b :: (r ++ ([47] ++ st))) := (ba_append (b :: (r ++ [47])) st).trans (by simp)
    have z1 := ba_size (b :: r)
    have z2 := ba_size st
    have z3 := ba_size (b :: (r ++ [47]))
    simp only [List.length_append, List.length_cons, List.length_nil] at z1 z3 hl
    have z3 : (ba (b :: (r ++ [47]))).size = r.length + 2 := z3
    have n1 : ¬ (9223372036854775807 < r.length + 1 + 1) := by omega
    have n2 : ¬ (9223372036854775807 < r.length + 2 + st.length) := by omega
    have HU : Hid (under (b :: r) st = b :: (r ++ ([47] ++ st))) := by show _ = _; simp [under]
    go_enter Tryz.func252, Tryz.ntmps252
    go_wp2_with fail
    go_ret
    rw [HU.out]
    exact ⟨rfl, rfl⟩

theorem conv_new (d : Nat) (hd : d < 256) (W : World) (k : Nat) (x : Int) (hx : x = d) (hk : k = W.heap.size) :
    (convert 32 9 (.slice (some ⟨k, 0, none⟩) 1 1)).run Tryz.prog (W.alloc (.cells #[.int .u8 x] 5)) = .ok (.string (ba [UInt8.ofNat d])) (W.alloc (.cells #[.int .u8 x] 5)) := by
  refine conv_at (b := UInt8.ofNat d) ?_
  rw [hk, toNat_ofNat hd, ← hx]
  exact heap_new_at rfl _

theorem u64_abs {n : Int} (h1 : -9223372036854775808 ≤ n) (hn : n < 0) : IntKind.u64.wrap (-IntKind.u64.wrap n) = (n.natAbs : Int) := by
  simp only [IntKind.wrap, IntKind.bits, IntKind.signed]
  simp
  omega
theorem u64_pos {n : Int} (hn : ¬ n < 0) (h2 : n ≤ 9223372036854775807) : IntKind.u64.wrap n = (n.natAbs : Int) := by
  simp only [IntKind.wrap, IntKind.bits, IntKind.signed]
  simp
  omega

/-- The digits of a number, one by one from the last. -/
def Digs (N m : Nat) (acc : Bs) : Prop := m < 10 ^ 20 ∧ decN 20 N = decN 20 m ++ acc
theorem Digs.more {N m : Nat} {acc : Bs} (h : Digs N m acc) (hm : 9 < m) : Digs N (m / 10) (UInt8.ofNat (48 + m % 10) :: acc) := by
  obtain ⟨h1, h2⟩ := h
  refine ⟨by omega, ?_⟩
  rw [h2]
  have := decN_step (a := m / 10) (d := m % 10) (by omega) (by omega) (by omega)
  rw [show m / 10 * 10 + m % 10 = m by omega] at this
  rw [this]
  simp
theorem Digs.last {N m : Nat} {acc : Bs} (h : Digs N m acc) (hm : m ≤ 9) : decN 20 N = UInt8.ofNat (48 + m) :: acc := by
  rw [h.2, decN_one (by omega)]; rfl
theorem Digs.len {N m : Nat} {acc : Bs} (h : Digs N m acc) : acc.length ≤ 20 := by
  have := congrArg List.length h.2
  have h2 := decN_len 20 N
  simp at this
  omega

set_option maxHeartbeats 4000000 in
set_option maxRecDepth 100000 in
theorem decimal_any (n : Int) (h1 : -9223372036854775808 ≤ n) (h2 : n ≤ 9223372036854775807) (w : World) :
    Calls Tryz.prog 253 #[.int .i64 n] w fun e w' => e = .returned (.string (ba (decI n))) ∧ Fr Zero w w' := by
  have HD0 : Hid (Digs n.natAbs n.natAbs []) := ⟨by omega, by simp⟩
  by_cases hn : n < 0
  · have hu := u64_abs h1 hn
    go_enter Tryz.func253, Tryz.ntmps253
    go_wp2_with fail
    clear hu
    go_loopw [3, 4] (fun uv sv wr => ∃ (m : Nat) (acc : Bs), uv = .int .u64 m ∧ sv = .string (ba acc) ∧ acc.length ≤ 20 ∧ m < 10 ^ 20 ∧ Hid (Digs n.natAbs m acc) ∧ Hid (Fr Zero w wr)) (fun uv _ _ => (intOf uv).toNat)
    case atStart => exact ⟨_, [], rfl, rfl, by simp, by omega, HD0, Fr.refl _ _⟩
    case round =>
      obtain ⟨m, acc, rfl, rfl, hla, hm, HD, HF⟩ := hrel
      have z2 := ba_size acc
      by_cases h9 : 9 < m
      · have hcv := conv_new (48 + m % 10) (by omega) wr wr.heap.size (48 + (m : Int) % 10) (by omega) rfl
        have HD' := hide (HD.out.more h9)
        generalize UInt8.ofNat (48 + m % 10) = d at hcv HD'
        have a1 : ba [d] ++ ba acc = ba (d :: acc) := ba_append _ _
        have z1 : (ba [d]).size = 1 := ba_size _
        have n1 : ¬ (9223372036854775807 < 1 + acc.length) := by omega
        go_wp2_with fail
        go_roundw
        case rel =>
          exact ⟨m / 10, d :: acc, by go_num, rfl, HD'.out.len, HD'.out.1, HD', HF.out.trans (Fr.alloc _ _ _)⟩
        case measure => simp [intOf]; omega
      · have hcv := conv_new (48 + m) (by omega) wr wr.heap.size (48 + (m : Int)) (by omega) rfl
        have HL := hide (HD.out.last (by omega))
        generalize UInt8.ofNat (48 + m) = d at hcv HL
        have a1 : ba [d] ++ ba acc = ba (d :: acc) := ba_append _ _
        have a2 : ⟨#[45]⟩ ++ ba (d :: acc) = ba (45 :: d :: acc) := ba_append [45] _
        have z1 : (ba [d]).size = 1 := ba_size _
        have z3 : (ba (d :: acc)).size = acc.length + 1 := ba_size _
        have n1 : ¬ (9223372036854775807 < 1 + acc.length) := by omega
        have n2 : ¬ (9223372036854775807 < 1 + (acc.length + 1)) := by omega
        go_wp2_with fail
        go_ret
        refine ⟨?_, HF.out.trans (Fr.alloc _ _ _)⟩
        unfold decI
        rw [if_pos hn, HL.out]
        rfl
  · have hu := u64_pos hn h2
    go_enter Tryz.func253, Tryz.ntmps253
    go_wp2_with fail
    clear hu
    go_loopw [3, 4] (fun uv sv wr => ∃ (m : Nat) (acc : Bs), uv = .int .u64 m ∧ sv = .string (ba acc) ∧ acc.length ≤ 20 ∧ m < 10 ^ 20 ∧ Hid (Digs n.natAbs m acc) ∧ Hid (Fr Zero w wr)) (fun uv _ _ => (intOf uv).toNat)
    case atStart => exact ⟨_, [], rfl, rfl, by simp, by omega, HD0, Fr.refl _ _⟩
    case round =>
      obtain ⟨m, acc, rfl, rfl, hla, hm, HD, HF⟩ := hrel
      have z2 := ba_size acc
      by_cases h9 : 9 < m
      · have hcv := conv_new (48 + m % 10) (by omega) wr wr.heap.size (48 + (m : Int) % 10) (by omega) rfl
        have HD' := hide (HD.out.more h9)
        generalize UInt8.ofNat (48 + m % 10) = d at hcv HD'
        have a1 : ba [d] ++ ba acc = ba (d :: acc) := ba_append _ _
        have z1 : (ba [d]).size = 1 := ba_size _
        have n1 : ¬ (9223372036854775807 < 1 + acc.length) := by omega
        go_wp2_with fail
        go_roundw
        case rel =>
          exact ⟨m / 10, d :: acc, by go_num, rfl, HD'.out.len, HD'.out.1, HD', HF.out.trans (Fr.alloc _ _ _)⟩
        case measure => simp [intOf]; omega
      · have hcv := conv_new (48 + m) (by omega) wr wr.heap.size (48 + (m : Int)) (by omega) rfl
        have HL := hide (HD.out.last (by omega))
        generalize UInt8.ofNat (48 + m) = d at hcv HL
        have a1 : ba [d] ++ ba acc = ba (d :: acc) := ba_append _ _
        have z1 : (ba [d]).size = 1 := ba_size _
        have n1 : ¬ (9223372036854775807 < 1 + acc.length) := by omega
        go_wp2_with fail
        go_ret
        refine ⟨?_, HF.out.trans (Fr.alloc _ _ _)⟩
        unfold decI
        rw [if_neg (by omega), HL.out]
        rfl

end Go.Proofs.YtnhkalnihjkoeaaGreatDoor

namespace Go.Proofs.YtnhkalnihjkoeaaGreatDoor
open Go.RowKit

/-- The reader's block is there, with what stands in it. -/
theorem KS.block {w : World} {B tb db : Nat} {s : ByteArray} {l : Bs} {bad : Bool} {nums : List (Bs × Int)} {ways : List (Bs × Bs)} (h : KS w B tb db s l bad nums ways) : ∃ nv wv, KB w tb db s l bad nv wv := by
  obtain ⟨nv, wv, h1, _⟩ := h
  exact ⟨nv, wv, h1⟩

set_option maxHeartbeats 4000000 in
set_option maxRecDepth 100000 in
theorem kCount_any {w : World} {B tb db : Nat} {s : ByteArray} {l : Bs} {nums : List (Bs × Int)} {ways : List (Bs × Bs)} (h : KS w B tb db s l false nums ways) (hs : s.size ≤ maxLen) :
    Calls Tryz.prog 251 #[.pointer (some ⟨tb, 0, none⟩)] w fun e w' => KPost tb B db s nums ways w (mCount l) e w' := by
  have HK := hide h
  clear h
  go_enter Tryz.func251, Tryz.ntmps251
  go_wp2_with fail
  refine (kByte_any HK hs 256 (by omega)).mono ?_
  rintro e w1 ⟨hF1, hK1, rfl⟩
  rcases l with _ | ⟨b, l⟩
  · have hbl := hK1.block
    obtain ⟨nv, wv, hb⟩ := hbl
    have HK1 := hide hK1
    have HF1 := hide hF1
    have h0 : (((mBelow 256 []).1.getD 0 : Nat) : Int) = 0 := rfl
    rw [h0]
    clear hK1 hF1 hb
    go_wp2_with fail
    go_ret
    exact ⟨HF1, HK1, 0, rfl, by omega, fun x hx => by simp [mCount] at hx⟩
  · have hb8 := b.toNat_lt
    have hU : mBelow 256 (b :: l) = (some b.toNat, l) := by simp only [mBelow]; rw [if_pos (by omega)]
    rw [hU] at hK1
    rw [hU]
    simp only [Option.getD_some, Option.isNone_some] at hK1 ⊢
    have HF1 := hide hF1
    have HK1 := hide hK1
    clear hF1 hU
    obtain ⟨nv, wv, hb⟩ := hK1.block
    have h1 := hb.at1
    have h2 := hb.at2
    have h3 := hb.at3
    have f3 := hb.free 3
    have HB := hide hb
    have hps := hb.posle
    unfold maxLen at hs
    clear hK1
    by_cases h128 : b.toNat < 128
    · have HU : Hid (mCount (b :: l) = (some b.toNat, l)) := by show _ = _; simp only [mCount]; rw [if_pos (by omega)]
      clear hb
      go_wp2_with fail
      go_ret
      rw [show KPost tb B db s nums ways w (mCount (b :: l)) = KPost tb B db s nums ways w (some b.toNat, l) by rw [HU.out]]
      exact ⟨HF1, HK1, b.toNat, rfl, by omega, fun x hx => by simpa using hx⟩
    · have hI : decide (((b.toNat : Nat) : Int) < 128) = false := decide_eq_false (by omega)
      have hN : decide (b.toNat < 128) = false := decide_eq_false (by omega)
      rcases l with _ | ⟨c, r⟩
      · have he := hb.end
        have hge : decide (pos s [] < s.size) = false := decide_eq_false (by omega)
        have hgi : decide (((pos s [] : Nat) : Int) < ((s.size : Nat) : Int)) = false := decide_eq_false (by omega)
        have HU : Hid (mCount [b] = (none, [])) := by show _ = _; simp only [mCount]; rw [if_neg (by omega)]
        clear hb
        go_wp2_with fail
        go_quiet (fail)
        go_wp2_with fail
        refine (kByte_any (HK1.out.quiet (Fr.drewN _ _ _)) (by unfold maxLen; omega) 256 (by omega)).mono ?_
        rintro e w2 ⟨hF2, hK2, rfl⟩
        have HF2 := hide ((HF1.out.trans (KFr.quiet (Fr.drewN _ _ _) HB.out.lt)).trans hF2)
        have HK2 := hide hK2
        have h0 : (((mBelow 256 []).1.getD 0 : Nat) : Int) = 0 := rfl
        rw [h0]
        clear hF2 hK2
        go_wp2_with fail
        go_ret
        rw [show KPost tb B db s nums ways w (mCount [b]) = KPost tb B db s nums ways w (none, []) by rw [HU.out]]
        exact ⟨HF2, HK2, b.toNat - 128, by have : ((b.toNat - 128 : Nat) : Int) = (b.toNat : Int) - 128 := by omega
                                           rw [this]; rfl, by omega, fun x hx => by simp at hx⟩
      · obtain ⟨hp, hp1, htl, hgb⟩ := hb.next
        have hgb := hgb hp
        have hc8 := c.toNat_lt
        have hpI : ((pos s (c :: r) : Nat) : Int) < ((s.size : Nat) : Int) := by omega
        by_cases hbad : c.toNat = 0 ∨ 300 < b.toNat - 128 + 128 * c.toNat
        · have HU : Hid (mCount (b :: c :: r) = (none, c :: r)) := by show _ = _; simp only [mCount]; rw [if_neg (by omega), if_pos hbad]
          clear hb
          have fin : ∀ nq : Nat, KPost tb B db s nums ways w (none, c :: r) (.returned (.int .i64 0)) ((w1.drewN nq).setCell ⟨tb, 3, none⟩ (.bool true)) := fun n1 => by
            have hB2 : KB ((w1.drewN n1).setCell ⟨tb, 3, none⟩ (.bool true)) tb db s (c :: r) true nv wv := (HB.out.keep (Fr.drewN Zero _ n1) (fun h => h)).mark true
            have hF : Fr (One tb) w1 ((w1.drewN n1).setCell ⟨tb, 3, none⟩ (.bool true)) := (Fr.drewN _ _ n1).trans (Fr.setCell _ _ _ _ (show One tb tb from rfl))
            exact ⟨HF1.out.trans (KFr.cells HB.out hB2 hF), HK1.out.cells (fun _ _ hk => (hk.keep (Fr.drewN Zero _ n1) (fun h => h)).mark true) hF, 0, rfl, by omega, fun x hx => by simp at hx⟩
          have HFin := hide fin
          clear fin
          by_cases hc : c.toNat = 0
          · have hc0 : (((c.toNat : Nat) : Int) == 0) = true := beq_iff_eq.2 (by omega)
            have HC := hide hc
            clear hc hbad
            go_wp2_with fail
            go_quiet (fail)
            go_wp2_with fail
            go_quiet (fail)
            go_wp2_with fail
            go_ret
            rw [show KPost tb B db s nums ways w (mCount (b :: c :: r)) = KPost tb B db s nums ways w (none, c :: r) by rw [HU.out]]
            exact HFin.out _
          · have hc0 : (((c.toNat : Nat) : Int) == 0) = false := beq_eq_false_iff_ne.2 (by omega)
            have hcg : 300 < ((b.toNat : Nat) : Int) - 128 + 128 * ((c.toNat : Nat) : Int) := by omega
            clear hc hbad
            go_wp2_with fail
            go_quiet (fail)
            go_wp2_with fail
            go_quiet (fail)
            go_wp2_with fail
            go_ret
            rw [show KPost tb B db s nums ways w (mCount (b :: c :: r)) = KPost tb B db s nums ways w (none, c :: r) by rw [HU.out]]
            exact HFin.out _
        · have HU : Hid (mCount (b :: c :: r) = (some (b.toNat - 128 + 128 * c.toNat), r)) := by show _ = _; simp only [mCount]; rw [if_neg (by omega), if_neg hbad]
          have hc0 : (((c.toNat : Nat) : Int) == 0) = false := beq_eq_false_iff_ne.2 (by omega)
          have hcg : decide (300 < ((b.toNat : Nat) : Int) - 128 + 128 * ((c.toNat : Nat) : Int)) = false := decide_eq_false (by omega)
          clear hb
          go_wp2_with fail
          go_quiet (fail)
          go_wp2_with fail
          go_quiet (fail)
          go_wp2_with fail
          refine (kByte_any (HK1.out.quiet (Fr.drewN _ _ _)) (by unfold maxLen; omega) 256 (by omega)).mono ?_
          rintro e w2 ⟨hF2, hK2, rfl⟩
          have HF2 := hide ((HF1.out.trans (KFr.quiet (Fr.drewN _ _ _) HB.out.lt)).trans hF2)
          have hUc : mBelow 256 (c :: r) = (some c.toNat, r) := by simp only [mBelow]; rw [if_pos (by omega)]
          rw [hUc] at hK2
          rw [hUc]
          simp only [Option.getD_some, Option.isNone_some] at hK2 ⊢
          have HK2 := hide hK2
          clear hF2 hK2 hUc h1 h2 h3 f3
          go_wp2_with fail
          go_ret
          rw [show KPost tb B db s nums ways w (mCount (b :: c :: r)) = KPost tb B db s nums ways w (some (b.toNat - 128 + 128 * c.toNat), r) by rw [HU.out]]
          refine ⟨HF2, HK2, b.toNat - 128 + 128 * c.toNat, ?_, by omega, fun x hx => by simpa using hx⟩
          have : ((b.toNat - 128 + 128 * c.toNat : Nat) : Int) = (b.toNat : Int) - 128 + 128 * (c.toNat : Int) := by omega
          rw [this]
          rfl

/-- A row of the table as a value. -/
theorem Is.isRow {tab : List RT} {x : Nat} {t : PT} (h : Is tab x t) (hk : (rowAt tab x).kind ≠ 11) : IsRow tab (rowAt tab x) t := by
  cases h with
  | name _ h _ _ _ => exact absurd h hk
  | row _ h1 h2 h3 h4 h6 h5 => exact ⟨h2, h1, h3, h4, h6, h5⟩
theorem Is.down {tab : List RT} {x : Nat} {t : PT} (h : Is tab x t) (hk : (rowAt tab x).kind = 11) : ∃ y, (rowAt tab x).of = [y] ∧ y < x ∧ Is tab y t := by
  cases h with
  | name _ _ h1 h2 h3 => exact ⟨_, h1, h2, h3⟩
  | row _ h _ _ _ _ _ => exact absurd hk h

theorem SL.shape {w : World} {X : Nat → Prop} {e : TypeId} {v : Value} {xs : List Value} (h : SL w X e v xs) : ∃ p c, v = .slice p xs.length c := by
  rcases h.1.2 with ⟨rfl, h0⟩ | ⟨g, cap, cur, rfl, _⟩
  · exact ⟨none, 0, by rw [h0]⟩
  · exact ⟨_, _, rfl⟩

theorem results_cell1 {fn : Func} {p : Tmp} {t1 : TypeId} (h : fn.results = #[.cell p t1]) (tmps : Array Value) (P : Program) (w : World) :
    (results fn tmps).run P w = ((asAddr (tmps.getD p undef)).run P w).andThen fun a w₁ => (loadVar t1 a).run P w₁ := by
  simp only [results, h]
  simp [Sem.run_bind, Result.andThen]

set_option maxHeartbeats 4000000 in
set_option maxRecDepth 100000 in
theorem at_tab {w : World} {B db : Nat} {tab : List RT} {roots : List Nat} (hD : DF w B db tab roots) (x : Nat) (t : PT) (hI : Is tab x t) (_hB : B ≤ w.heap.size) (_h63 : tab.length ≤ 1000000) :
    Calls Tryz.prog 169 #[.pointer (some ⟨db, 0, none⟩), .int .i64 x] w fun e w' => Fr Zero w w' ∧ ∃ (row : RT) (o nv a : Value), e = .returned (.agg #[.int .i64 row.kind, o, nv, a]) ∧ IsRow tab row t ∧ RTR w (From B) ⟨row.kind, o, nv, a⟩ row := by
  have HI := hide hI
  have HD := hide hD
  have hxl := hI.lt
  obtain ⟨g, cap, o, nv, a, c2, c3, c4, c5, c6, hR⟩ := hD.row hxl
  have hxI : (x : Int) < (tab.length : Int) := by omega
  have hdl : db < w.heap.size := World.block_lt_of_cell? w _ c2
  have hgl : g < w.heap.size := World.block_lt_of_cell? w _ c3
  obtain ⟨po, qo, rfl⟩ := hR.2.1.shape
  obtain ⟨pn, qn, rfl⟩ := hR.2.2.1.shape
  obtain ⟨pa, qa, rfl⟩ := hR.2.2.2.shape
  have HR := hide hR
  clear hI hD hR
  go_enter Tryz.func169, Tryz.ntmps169
  go_wp2_with fail
  clear c2 c3 c4 c5 c6 hxI
  go_loopg [] x (fun k wr => Hid (Is tab k t) ∧ Hid (Fr Zero w wr) ∧ ∃ (po pn pa : Option Addr) (qo qn qa : Nat), Hid (RTR w (From B) ⟨(rowAt tab k).kind, .slice po (ints (rowAt tab k).of).length qo, .slice pn (texts (rowAt tab k).names).length qn, .slice pa (ints (rowAt tab k).ats).length qa⟩ (rowAt tab k)) ∧
    Hid (wr.heap[w.heap.size + 1]? = some (.cells #[.int .i64 (rowAt tab k).kind, .slice po (ints (rowAt tab k).of).length qo, .slice pn (texts (rowAt tab k).names).length qn, .slice pa (ints (rowAt tab k).ats).length qa] 293 (0, 0))) ∧
    Hid (wr.heap[w.heap.size]? = some (.cells #[.int .i64 0, .slice none 0 0, .slice none 0 0, .slice none 0 0] 293 (0, 0))))
  case atStart =>
    refine ⟨HI, (Fr.alloc _ _ _).trans (Fr.alloc _ _ _), po, pn, pa, qo, qn, qa, HR, ?_, ?_⟩
    · exact heap_new_at (by simp) _
    · show _ = _
      rw [Below.heap_alloc _ _ _ (by simp)]
      exact heap_new_at rfl _
  case round =>
    obtain ⟨HIk, HF, po, pn, pa, qo, qn, qa, HRk, HT, HZ⟩ := hrel
    have t0 : wr.cell? ⟨w.heap.size + 1, 0, none⟩ = _ := cell_of_heap HT.out
    have t1 : wr.cell? ⟨w.heap.size + 1, 1, none⟩ = _ := cell_of_heap HT.out
    have t2 : wr.cell? ⟨w.heap.size + 1, 2, none⟩ = _ := cell_of_heap HT.out
    have t3 : wr.cell? ⟨w.heap.size + 1, 3, none⟩ = _ := cell_of_heap HT.out
    have tf : ∀ o, wr.frozen? ⟨w.heap.size + 1, o, none⟩ = false := fun o => free_of_heap HT.out
    have z0 : wr.cell? ⟨w.heap.size, 0, none⟩ = _ := cell_of_heap HZ.out
    have z1 : wr.cell? ⟨w.heap.size, 1, none⟩ = _ := cell_of_heap HZ.out
    have z2 : wr.cell? ⟨w.heap.size, 2, none⟩ = _ := cell_of_heap HZ.out
    have z3 : wr.cell? ⟨w.heap.size, 3, none⟩ = _ := cell_of_heap HZ.out
    have zf : ∀ o, wr.frozen? ⟨w.heap.size, o, none⟩ = false := fun o => free_of_heap HZ.out
    by_cases h11 : (rowAt tab gk).kind = 11
    · have hb : (((rowAt tab gk).kind : Int) == 11) = true := beq_iff_eq.2 (by omega)
      obtain ⟨y, hof, hy, hIy⟩ := HIk.out.down h11
      have HIy := hide hIy
      have hyl := hIy.lt
      have hyI : (y : Int) < (tab.length : Int) := by omega
      obtain ⟨g', cap', o', nv', a', c2, c3, c4, c5, c6, hRy⟩ := HD.out.row hyl
      have hdl' : db < w.heap.size := World.block_lt_of_cell? w _ c2
      have hgl' : g' < w.heap.size := World.block_lt_of_cell? w _ c3
      rw [← HF.out.cell hdl' (fun h => h)] at c2
      rw [← HF.out.cell hgl' (fun h => h)] at c3 c4 c5 c6
      obtain ⟨po', qo', rfl⟩ := hRy.2.1.shape
      obtain ⟨pn', qn', rfl⟩ := hRy.2.2.1.shape
      obtain ⟨pa', qa', rfl⟩ := hRy.2.2.2.shape
      have hS := HRk.out.2.1
      rw [hof] at hS
      rw [hof] at t1
      obtain ⟨go, rfl, co⟩ : ∃ go, po = some ⟨go, 0, none⟩ ∧ wr.cell? ⟨go, 0, none⟩ = some (.int .i64 y) := by
        rcases hS.1.2 with ⟨_, h0⟩ | ⟨go, cp, cur, hv, _⟩
        · simp [ints] at h0
        · simp only [Value.slice.injEq] at hv
          obtain ⟨rfl, _, rfl⟩ := hv
          have hc : w.cell? ⟨go, 0, none⟩ = some (.int .i64 y) := (sl_cell (k := 0) hS.1 (by simp [ints])).trans rfl
          exact ⟨go, rfl, by rw [HF.out.cell (World.block_lt_of_cell? w _ hc) (fun h => h)]; exact hc⟩
      replace t1 : wr.cell? ⟨w.heap.size + 1, 1, none⟩ = some (.slice (some ⟨go, 0, none⟩) 1 qo) := t1
      have HRy := hide hRy
      have HY := hide hy
      have HO := hide hof
      clear hRy hy hof hIy hS h11
      go_wp2_with fail
      go_region
      go_wp2_with fail
      go_roundg y
      case measure => exact HY.out
      case rel =>
        refine ⟨HIy, ?_, po', pn', pa', qo', qn', qa', HRy, ?_, ?_⟩
        · exact (HF.out.past (Fr.four (fun b => w.heap.size ≤ b) wr (w.heap.size + 1) _ _ _ _ (Nat.le_succ _))).trans (Fr.drew _ _)
        · exact heap_four HT.out _ _ _ _
        · exact (heap_four_ne (by omega) _ _ _ _).trans HZ.out
    · have hb : (((rowAt tab gk).kind : Int) == 11) = false := beq_eq_false_iff_ne.2 (by omega)
      have HIR := hide (HIk.out.isRow h11)
      generalize rowAt tab gk = row at *
      clear h11
      go_wp2_with fail
      refine bodyPost_ret (v := .agg #[.int .i64 row.kind, .slice po (ints row.of).length qo, .slice pn (texts row.names).length qn, .slice pa (ints row.ats).length qa]) ?_ rfl ⟨?_, row, _, _, _, rfl, HIR, HRk⟩
      · rw [results_cell1 rfl]
        go_simp
      · exact HF.out.past (Fr.four (fun b => w.heap.size ≤ b) wr w.heap.size _ _ _ _ (Nat.le_refl _))

end Go.Proofs.YtnhkalnihjkoeaaGreatDoor

namespace Go.Proofs.YtnhkalnihjkoeaaGreatDoor
open Go.RowKit

theorem own_other {w : World} {b1 b2 n1 n2 k1 k2 : Nat} {e1 e2 : TypeId} {v1 v2 : Value} {x1 x2 : List Value} (h1 : w.ownsRow b1 e1 k1 v1 n1 x1) (h2 : w.ownsRow b2 e2 k2 v2 n2 x2) (hne : e1 ≠ e2) {g : Nat} (hg : v1.ownBlock = some g) : v2.ownBlock ≠ some g := fun hg2 => by
  obtain ⟨c1, q1⟩ := own_type h1 hg
  obtain ⟨c2, q2⟩ := own_type h2 hg2
  rw [q1] at q2
  simp at q2
  exact hne q2.2

theorem KS.toldNum {W w' : World} {B tb db : Nat} {s : ByteArray} {l : Bs} {bad : Bool} {nums : List (Bs × Int)} {ways : List (Bs × Bs)} {nv wv v' : Value} (p : Bs × Int) (hb : KB W tb db s l bad nv wv) (hB : B ≤ tb)
    (hn : W.ownsRow B 141 2 nv nums.length (numCells nums)) (hw : W.ownsRow B 119 2 wv ways.length (wayCells ways))
    (ho : w'.ownsRow B 141 2 v' (nums.length + 1) (numCells (nums ++ [p]))) (hg : W.grownBy w' nv.ownBlock) (hv : ∃ g cap, v' = .slice (some ⟨g, 0, none⟩) (nums.length + 1) cap ∧ (nv.ownBlock = some g ∨ W.heap.size ≤ g)) :
    KS (w'.setCell ⟨tb, 4, none⟩ v') B tb db s l bad (nums ++ [p]) ways ∧ KFr tb W (w'.setCell ⟨tb, 4, none⟩ v') := by
  have hne : ∀ k, nv.ownBlock = some k → k ≠ tb := fun k e e2 => own_ne hn hb.block (by decide) (e2 ▸ e)
  have hfL : Fr (fun k => nv.ownBlock = some k) W w' := Fr.grown hg (fun k e _ => e)
  have hb' : KB w' tb db s l bad nv wv := hb.keep hfL (fun e => hne tb e rfl)
  have ho' : w'.ownsRow B 119 2 wv _ _ := ownsRow_keep hw hfL (fun g hg e => own_other hn hw (by decide) e hg)
  have hfS : Fr (One tb) w' (w'.setCell ⟨tb, 4, none⟩ v') := Fr.setCell _ _ _ _ rfl
  have hb2 := hb'.nums v'
  have hm2 := ownsRow_keep ho hfS (fun g hg e => own_ne ho hb'.block (by decide) (by rw [hg]; exact congrArg some e))
  have ho2 := ownsRow_keep ho' hfS (fun g hg e => own_ne ho' hb'.block (by decide) (by rw [hg]; exact congrArg some e))
  have hx4 : ∀ k, nv.ownBlock = some k → KX W tb k := fun k e => .inr (.inl ⟨nv, hb.at4, e⟩)
  obtain ⟨g, cap, rfl, hgg⟩ := hv
  refine ⟨⟨_, _, hb2, hB, by simpa using hm2, ho2⟩, ⟨(hfL.mono (fun k _ e => hx4 k e)).trans (hfS.mono (fun k _ e => .inl e)), fun k hk e => ?_⟩⟩
  rcases KX.of hb2 e with e | e | e
  · exact .inl e
  · simp [Value.ownBlock] at e
    subst e
    rcases hgg with h | h
    · exact hx4 _ h
    · omega
  · exact .inr (.inr ⟨wv, hb.at5, e⟩)

theorem KS.toldWay {W w' : World} {B tb db : Nat} {s : ByteArray} {l : Bs} {bad : Bool} {nums : List (Bs × Int)} {ways : List (Bs × Bs)} {nv wv v' : Value} (p : Bs × Bs) (hb : KB W tb db s l bad nv wv) (hB : B ≤ tb)
    (hn : W.ownsRow B 141 2 nv nums.length (numCells nums)) (hw : W.ownsRow B 119 2 wv ways.length (wayCells ways))
    (ho : w'.ownsRow B 119 2 v' (ways.length + 1) (wayCells (ways ++ [p]))) (hg : W.grownBy w' wv.ownBlock) (hv : ∃ g cap, v' = .slice (some ⟨g, 0, none⟩) (ways.length + 1) cap ∧ (wv.ownBlock = some g ∨ W.heap.size ≤ g)) :
    KS (w'.setCell ⟨tb, 5, none⟩ v') B tb db s l bad nums (ways ++ [p]) ∧ KFr tb W (w'.setCell ⟨tb, 5, none⟩ v') := by
  have hne : ∀ k, wv.ownBlock = some k → k ≠ tb := fun k e e2 => own_ne hw hb.block (by decide) (e2 ▸ e)
  have hfL : Fr (fun k => wv.ownBlock = some k) W w' := Fr.grown hg (fun k e _ => e)
  have hb' : KB w' tb db s l bad nv wv := hb.keep hfL (fun e => hne tb e rfl)
  have ho' : w'.ownsRow B 141 2 nv _ _ := ownsRow_keep hn hfL (fun g hg e => own_other hw hn (by decide) e hg)
  have hfS : Fr (One tb) w' (w'.setCell ⟨tb, 5, none⟩ v') := Fr.setCell _ _ _ _ rfl
  have hb2 := hb'.ways v'
  have hm2 := ownsRow_keep ho hfS (fun g hg e => own_ne ho hb'.block (by decide) (by rw [hg]; exact congrArg some e))
  have ho2 := ownsRow_keep ho' hfS (fun g hg e => own_ne ho' hb'.block (by decide) (by rw [hg]; exact congrArg some e))
  have hx4 : ∀ k, wv.ownBlock = some k → KX W tb k := fun k e => .inr (.inr ⟨wv, hb.at5, e⟩)
  obtain ⟨g, cap, rfl, hgg⟩ := hv
  refine ⟨⟨_, _, hb2, hB, ho2, by simpa using hm2⟩, ⟨(hfL.mono (fun k _ e => hx4 k e)).trans (hfS.mono (fun k _ e => .inl e)), fun k hk e => ?_⟩⟩
  rcases KX.of hb2 e with e | e | e
  · exact .inl e
  · exact .inr (.inl ⟨nv, hb.at4, e⟩)
  · simp [Value.ownBlock] at e
    subst e
    rcases hgg with h | h
    · exact hx4 _ h
    · omega

end Go.Proofs.YtnhkalnihjkoeaaGreatDoor
