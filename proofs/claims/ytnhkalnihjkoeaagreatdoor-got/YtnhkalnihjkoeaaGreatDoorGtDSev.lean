/- The reference's reader takes values: what a call leaves; plain kinds. The reference's reader takes options. The reference's reader takes choices. -/
import Derived.Test.YtnhkalnihjkoeaaGreatDoorGtDNum
import Derived.Test.YtnhkalnihjkoeaaGreatDoorGtDRow
namespace Go.Proofs.YtnhkalnihjkoeaaGreatDoor
open Go.RowKit

/-- What is told of a value's parts. -/
def kidsW (k : Nat) (p : Bs) (v : PV) : List (Bs × Bs) := kids (fun i x => waysOf k (under p (stepOf v.of v.num i)) x) 0 v.parts
theorem waysOf_mk (k : Nat) (p : Bs) (v : PV) : waysOf (k + 1) p v = (p, wText (k + 1) v) :: kidsW k p v := rfl

/-- What may still be told. -/
def Room (k n m : Nat) : Prop := n + k * m + 6 * k ≤ 1000000

structure SIn (w : World) (B tb db : Nat) (s : ByteArray) (l : Bs) (nums : List (Bs × Int)) (ways : List (Bs × Bs)) (tab : List RT) (roots : List Nat) : Prop where
  ks : KS w B tb db s l false nums ways
  df : DF w B db tab roots
  hs : s.size ≤ 1000
  tl : tab.length ≤ 1000000
  hB : B ≤ w.heap.size

/-- What `several` leaves. -/
def SPost (tb B db : Nat) (s : ByteArray) (nums : List (Bs × Int)) (ways : List (Bs × Bs)) (k : Nat) (t : PT) (p st : Bs) (l : Bs) (w : World) (e : Ending) (w' : World) : Prop :=
  KFr tb w w' ∧ ∃ (tx : ByteArray) (nums' : List (Bs × Int)) (ways' : List (Bs × Bs)), KS w' B tb db s (rMsg (k + 1) t l).2 (rMsg (k + 1) t l).1.isNone nums' ways' ∧ e = .returned (.string tx) ∧
    ((rMsg (k + 1) t l).1 = none → nums'.length ≤ nums.length + (k + 1) * l.length + 6 * (k + 1) ∧ ways'.length ≤ ways.length + k * l.length + 6 * k + 5) ∧
    (∀ v, (rMsg (k + 1) t l).1 = some v → tx = ba (wText (k + 1) v) ∧ nums' = nums ++ numsOf (k + 1) st v ∧ ways' = ways ++ kidsW k p v)
/-- What `value` leaves. -/
def VPost (tb B db : Nat) (s : ByteArray) (nums : List (Bs × Int)) (ways : List (Bs × Bs)) (k : Nat) (t : PT) (p st : Bs) (l : Bs) (w : World) (e : Ending) (w' : World) : Prop :=
  KFr tb w w' ∧ ∃ (tx : Bs) (nums' : List (Bs × Int)) (ways' : List (Bs × Bs)), KS w' B tb db s (rMsg k t l).2 (rMsg k t l).1.isNone nums' ways' ∧ e = .returned (.string (ba tx)) ∧ tx.length ≤ 10000000 ∧
    ((rMsg k t l).1 = none → tx = [] ∧ nums'.length ≤ nums.length + k * l.length + 6 * k ∧ ways'.length ≤ ways.length + k * l.length + 6 * k) ∧
    (∀ v, (rMsg k t l).1 = some v → tx = wText k v ∧ nums' = nums ++ numsOf k st v ∧ ways' = ways ++ waysOf k p v)

theorem kidsW_leaf {k : Nat} {p : Bs} {v : PV} (h : v.parts = []) : kidsW k p v = [] := by unfold kidsW; rw [h]; rfl
theorem numsOf_num {k : Nat} {st : Bs} {v : PV} (h : v.of.kind ≤ 3) : numsOf (k + 1) st v = [(st, v.num)] := by simp only [numsOf]; rw [if_pos h]
theorem numsOf_leaf {k : Nat} {st : Bs} {v : PV} (h : ¬ v.of.kind ≤ 3) (hp : v.parts = []) : numsOf (k + 1) st v = [] := by simp only [numsOf]; rw [if_neg h, hp]; rfl

set_option maxHeartbeats 8000000 in
set_option maxRecDepth 100000 in
theorem sev_num {w : World} {B tb db : Nat} {s : ByteArray} {l : Bs} {nums : List (Bs × Int)} {ways : List (Bs × Bs)} {tab : List RT} {roots : List Nat} {k x : Nat} {t : PT} (p st : Bs) (h : SIn w B tb db s l nums ways tab roots) (hI : Is tab x t) (hk : t.kind ≤ 2) (hn : Room (k + 1) nums.length l.length) :
    Calls Tryz.prog 179 #[.pointer (some ⟨tb, 0, none⟩), .int .i64 x, .string (ba p), .string (ba st)] w fun e w' => SPost tb B db s nums ways k t p st l w e w' := by
  obtain ⟨nv, wv, hb⟩ := h.ks.block
  have h0 := hb.at0
  have h3 := hb.at3
  have HI := hide h
  have HIs := hide hI
  have HR := hide hn
  have hlt := hb.lt
  clear h hI hn hb
  go_enter Tryz.func179, Tryz.ntmps179
  go_wp2_with fail
  refine (at_tab HI.out.df x t HIs.out HI.out.hB HI.out.tl).mono ?_
  rintro e w1 ⟨hF1, row, o, nv1, a, rfl, hrow, hRT⟩
  obtain ⟨po, qo, rfl⟩ := hRT.2.1.shape
  obtain ⟨pn, qn, rfl⟩ := hRT.2.2.1.shape
  obtain ⟨pa, qa, rfl⟩ := hRT.2.2.2.shape
  have hkk := hrow.kind
  rw [hkk]
  have HF1 := hide hF1
  have HK1 := hide (HI.out.ks.quiet hF1)
  clear hF1 hrow hRT hkk
  obtain hk' | hk' | hk' : t.kind = 0 ∨ t.kind = 1 ∨ t.kind = 2 := by omega
  all_goals
    have HE : Hid (rMsg (k + 1) t l = ((mTake (widthOf t.kind) l).1.map (fun b => vNum t (leNat b)), (mTake (widthOf t.kind) l).2)) := by show _ = _; simp only [rMsg]; rw [if_pos hk]
    rw [hk'] at HE
    rw [hk']
    have HKK := hide hk'
    clear hk hk'
    go_wp2_with fail
    refine (kPlain_any (HK1.out.quiet (Fr.alloc _ _ _)) (by have := HI.out.hs; unfold maxLen; omega) _ (by decide) st (by have := HR.out; unfold Room at this; omega) (by have := HI.out.hB; have := HF1.out.size; simp; omega)).mono ?_
    rintro e w2 ⟨hF2, nums', tx, hK2, hl2, rfl, hx⟩
    have HF2 := hide ((KFr.quiet (HF1.out.trans (Fr.alloc _ _ _)) hlt).trans hF2)
    have HK2 := hide hK2
    have HX := hide hx
    have HL := hide hl2
    clear hF2 hK2 hx hl2
    go_wp2_with fail
    go_ret
    refine ⟨HF2, tx, nums', ways, by rw [HE.out]; simpa using HK2.out, rfl, fun _ => ⟨by have := HL.out; omega, by omega⟩, fun v hv => ?_⟩
    rw [HE.out] at hv
    simp only [Option.map_eq_some_iff] at hv
    obtain ⟨b, hb, rfl⟩ := hv
    obtain ⟨q1, q2⟩ := HX.out b hb
    refine ⟨?_, ?_, by rw [kidsW_leaf rfl]; simp⟩
    · rw [q2]
      show _ = ba (wText (k + 1) ⟨t, leNat b, [], []⟩)
      rw [wText_mk, if_pos (by rw [HKK.out]; omega)]
    · rw [q1, numsOf_num (by show t.kind ≤ 3; rw [HKK.out]; omega)]
      rfl

set_option maxHeartbeats 8000000 in
set_option maxRecDepth 100000 in
theorem sev_int {w : World} {B tb db : Nat} {s : ByteArray} {l : Bs} {nums : List (Bs × Int)} {ways : List (Bs × Bs)} {tab : List RT} {roots : List Nat} {k x : Nat} {t : PT} (p st : Bs) (h : SIn w B tb db s l nums ways tab roots) (hI : Is tab x t) (hk : t.kind = 3) (hn : Room (k + 1) nums.length l.length) :
    Calls Tryz.prog 179 #[.pointer (some ⟨tb, 0, none⟩), .int .i64 x, .string (ba p), .string (ba st)] w fun e w' => SPost tb B db s nums ways k t p st l w e w' := by
  obtain ⟨nv, wv, hb⟩ := h.ks.block
  have h0 := hb.at0
  have h3 := hb.at3
  have HI := hide h
  have HIs := hide hI
  have HR := hide hn
  have hlt := hb.lt
  clear h hI hn hb
  go_enter Tryz.func179, Tryz.ntmps179
  go_wp2_with fail
  refine (at_tab HI.out.df x t HIs.out HI.out.hB HI.out.tl).mono ?_
  rintro e w1 ⟨hF1, row, o, nv1, a, rfl, hrow, hRT⟩
  obtain ⟨po, qo, rfl⟩ := hRT.2.1.shape
  obtain ⟨pn, qn, rfl⟩ := hRT.2.2.1.shape
  obtain ⟨pa, qa, rfl⟩ := hRT.2.2.2.shape
  have hkk := hrow.kind
  rw [hkk]
  have HF1 := hide hF1
  have HK1 := hide (HI.out.ks.quiet hF1)
  clear hF1 hrow hRT hkk
  have HE : Hid (rMsg (k + 1) t l = ((mTake 8 l).1.map (fun b => vNum t (toInt64 (beNat b))), (mTake 8 l).2)) := by show _ = _; simp only [rMsg]; rw [if_neg (by omega), if_pos hk]
  rw [hk]
  have HKK := hide hk
  clear hk
  go_wp2_with fail
  refine (kInt_any (HK1.out.quiet (Fr.alloc _ _ _)) (by have := HI.out.hs; unfold maxLen; omega) st (by have := HR.out; unfold Room at this; omega) (by have := HI.out.hB; have := HF1.out.size; simp; omega)).mono ?_
  rintro e w2 ⟨hF2, nums', tx, hK2, hl2, rfl, hx⟩
  have HF2 := hide ((KFr.quiet (HF1.out.trans (Fr.alloc _ _ _)) hlt).trans hF2)
  have HK2 := hide hK2
  have HX := hide hx
  have HL := hide hl2
  clear hF2 hK2 hx hl2
  go_wp2_with fail
  go_ret
  refine ⟨HF2, tx, nums', ways, by rw [HE.out]; simpa using HK2.out, rfl, fun _ => ⟨by have := HL.out; omega, by omega⟩, fun v hv => ?_⟩
  rw [HE.out] at hv
  simp only [Option.map_eq_some_iff] at hv
  obtain ⟨b, hb, rfl⟩ := hv
  obtain ⟨q1, q2⟩ := HX.out b hb
  refine ⟨?_, ?_, by rw [kidsW_leaf rfl]; simp⟩
  · rw [q2]
    show _ = ba (wText (k + 1) ⟨t, toInt64 (beNat b), [], []⟩)
    rw [wText_mk, if_pos (by rw [HKK.out]; omega)]
  · rw [q1, numsOf_num (by show t.kind ≤ 3; rw [HKK.out]; omega)]
    rfl

set_option maxHeartbeats 8000000 in
set_option maxRecDepth 100000 in
theorem sev_bool {w : World} {B tb db : Nat} {s : ByteArray} {l : Bs} {nums : List (Bs × Int)} {ways : List (Bs × Bs)} {tab : List RT} {roots : List Nat} {k x : Nat} {t : PT} (p st : Bs) (h : SIn w B tb db s l nums ways tab roots) (hI : Is tab x t) (hk : t.kind = 4) (hn : Room (k + 1) nums.length l.length) :
    Calls Tryz.prog 179 #[.pointer (some ⟨tb, 0, none⟩), .int .i64 x, .string (ba p), .string (ba st)] w fun e w' => SPost tb B db s nums ways k t p st l w e w' := by
  obtain ⟨nv, wv, hb⟩ := h.ks.block
  have h0 := hb.at0
  have h3 := hb.at3
  have HI := hide h
  have HIs := hide hI
  have HR := hide hn
  have hlt := hb.lt
  clear h hI hn hb
  go_enter Tryz.func179, Tryz.ntmps179
  go_wp2_with fail
  refine (at_tab HI.out.df x t HIs.out HI.out.hB HI.out.tl).mono ?_
  rintro e w1 ⟨hF1, row, o, nv1, a, rfl, hrow, hRT⟩
  obtain ⟨po, qo, rfl⟩ := hRT.2.1.shape
  obtain ⟨pn, qn, rfl⟩ := hRT.2.2.1.shape
  obtain ⟨pa, qa, rfl⟩ := hRT.2.2.2.shape
  have hkk := hrow.kind
  rw [hkk]
  have HF1 := hide hF1
  have HK1 := hide (HI.out.ks.quiet hF1)
  clear hF1 hrow hRT hkk
  have HE : Hid (rMsg (k + 1) t l = ((mBelow 2 l).1.map (fun (n : Nat) => vNum t n), (mBelow 2 l).2)) := by show _ = _; simp only [rMsg]; rw [if_neg (by omega), if_neg (by omega), if_pos hk]
  rw [hk]
  have HKK := hide hk
  clear hk
  go_wp2_with fail
  refine (kByte_any (HK1.out.quiet (Fr.alloc _ _ _)) (by have := HI.out.hs; unfold maxLen; omega) 2 (by omega)).mono ?_
  rintro e w2 ⟨hF2, hK2, rfl⟩
  have HF2 := hide ((KFr.quiet (HF1.out.trans (Fr.alloc _ _ _)) hlt).trans hF2)
  have HK2 := hide hK2
  clear hF2 hK2
  obtain ⟨d, hd, hd2⟩ : ∃ d : Nat, (mBelow 2 l).1.getD 0 = d ∧ ∀ x, (mBelow 2 l).1 = some x → x = d ∧ d < 2 := by
    refine ⟨_, rfl, fun x hx => ?_⟩
    rw [hx]
    refine ⟨rfl, ?_⟩
    rcases l with _ | ⟨b, l⟩
    · simp [mBelow] at hx
    · simp only [mBelow] at hx
      split at hx
      · simp at hx; simp; omega
      · simp at hx
  rw [hd]
  have HD := hide hd2
  clear hd hd2
  have fin : ∀ tx : Bs, (∀ x, (mBelow 2 l).1 = some x → tx = if x = 0 then wNo else wYes) → SPost tb B db s nums ways k t p st l w (.returned (.string (ba tx))) w2 := fun tx hx => by
    refine ⟨HF2, ba tx, nums, ways, by rw [HE.out]; simpa using HK2.out, rfl, fun _ => ⟨by omega, by omega⟩, fun v hv => ?_⟩
    rw [HE.out] at hv
    simp only [Option.map_eq_some_iff] at hv
    obtain ⟨b, hb, rfl⟩ := hv
    refine ⟨?_, by rw [numsOf_leaf (by show ¬ t.kind ≤ 3; rw [HKK.out]; omega) rfl]; simp, by rw [kidsW_leaf rfl]; simp⟩
    have e : wText (k + 1) ⟨t, (b : Int), [], []⟩ = if (b : Int) = 0 then wNo else wYes := by rw [wText_mk, if_neg (by rw [HKK.out]; omega), if_pos HKK.out]
    rw [hx b hb]
    show _ = ba (wText (k + 1) ⟨t, (b : Int), [], []⟩)
    rw [e]
    by_cases h0 : b = 0
    · subst h0; rfl
    · rw [if_neg h0, if_neg (by omega)]
  have HFin := hide fin
  clear fin
  by_cases h1 : d = 1
  · have hb : ((d : Int) == 1) = true := beq_iff_eq.2 (by omega)
    have HY : Hid (∀ x, (mBelow 2 l).1 = some x → wYes = if x = 0 then wNo else wYes) := fun x hx => by have := HD.out x hx; rw [if_neg (by omega)]
    clear h1
    go_wp2_with fail
    go_ret
    exact HFin.out wYes HY
  · have hb : ((d : Int) == 1) = false := beq_eq_false_iff_ne.2 (by omega)
    have HY : Hid (∀ x, (mBelow 2 l).1 = some x → wNo = if x = 0 then wNo else wYes) := fun x hx => by have := HD.out x hx; rw [if_pos (by omega)]
    clear h1
    go_wp2_with fail
    go_ret
    exact HFin.out wNo HY

set_option maxHeartbeats 8000000 in
set_option maxRecDepth 100000 in
theorem sev_text {w : World} {B tb db : Nat} {s : ByteArray} {l : Bs} {nums : List (Bs × Int)} {ways : List (Bs × Bs)} {tab : List RT} {roots : List Nat} {k x : Nat} {t : PT} (p st : Bs) (h : SIn w B tb db s l nums ways tab roots) (hI : Is tab x t) (hk : t.kind = 5) (hn : Room (k + 1) nums.length l.length) :
    Calls Tryz.prog 179 #[.pointer (some ⟨tb, 0, none⟩), .int .i64 x, .string (ba p), .string (ba st)] w fun e w' => SPost tb B db s nums ways k t p st l w e w' := by
  obtain ⟨nv, wv, hb⟩ := h.ks.block
  have h0 := hb.at0
  have h3 := hb.at3
  have HI := hide h
  have HIs := hide hI
  have HR := hide hn
  have hlt := hb.lt
  clear h hI hn hb
  go_enter Tryz.func179, Tryz.ntmps179
  go_wp2_with fail
  refine (at_tab HI.out.df x t HIs.out HI.out.hB HI.out.tl).mono ?_
  rintro e w1 ⟨hF1, row, o, nv1, a, rfl, hrow, hRT⟩
  obtain ⟨po, qo, rfl⟩ := hRT.2.1.shape
  obtain ⟨pn, qn, rfl⟩ := hRT.2.2.1.shape
  obtain ⟨pa, qa, rfl⟩ := hRT.2.2.2.shape
  have hkk := hrow.kind
  rw [hkk]
  have HF1 := hide hF1
  have HK1 := hide (HI.out.ks.quiet hF1)
  clear hF1 hrow hRT hkk
  have HE : Hid (rMsg (k + 1) t l = ((mText l).1.map (vBytes t), (mText l).2)) := by show _ = _; simp only [rMsg]; rw [if_neg (by omega), if_neg (by omega), if_neg (by omega), if_pos hk]
  rw [hk]
  have HKK := hide hk
  clear hk
  go_wp2_with fail
  refine (kText_any (HK1.out.quiet (Fr.alloc _ _ _)) (by have := HI.out.hs; unfold maxLen; omega)).mono ?_
  rintro e w2 ⟨hF2, tx, hK2, rfl, hx⟩
  have HF2 := hide ((KFr.quiet (HF1.out.trans (Fr.alloc _ _ _)) hlt).trans hF2)
  have HK2 := hide hK2
  have HX := hide hx
  clear hF2 hK2 hx
  go_wp2_with fail
  go_ret
  refine ⟨HF2, tx, nums, ways, by rw [HE.out]; simpa using HK2.out, rfl, fun _ => ⟨by omega, by omega⟩, fun v hv => ?_⟩
  rw [HE.out] at hv
  simp only [Option.map_eq_some_iff] at hv
  obtain ⟨b, hb, rfl⟩ := hv
  refine ⟨?_, by rw [numsOf_leaf (by show ¬ t.kind ≤ 3; rw [HKK.out]; omega) rfl]; simp, by rw [kidsW_leaf rfl]; simp⟩
  rw [HX.out b hb]
  show _ = ba (wText (k + 1) ⟨t, 0, b, []⟩)
  rw [wText_mk, if_neg (by rw [HKK.out]; omega), if_neg (by rw [HKK.out]; omega), if_pos HKK.out]

set_option maxHeartbeats 8000000 in
set_option maxRecDepth 100000 in
theorem sev_bytes {w : World} {B tb db : Nat} {s : ByteArray} {l : Bs} {nums : List (Bs × Int)} {ways : List (Bs × Bs)} {tab : List RT} {roots : List Nat} {k x : Nat} {t : PT} (p st : Bs) (h : SIn w B tb db s l nums ways tab roots) (hI : Is tab x t) (hk : t.kind = 6) (hn : Room (k + 1) nums.length l.length) :
    Calls Tryz.prog 179 #[.pointer (some ⟨tb, 0, none⟩), .int .i64 x, .string (ba p), .string (ba st)] w fun e w' => SPost tb B db s nums ways k t p st l w e w' := by
  obtain ⟨nv, wv, hb⟩ := h.ks.block
  have h0 := hb.at0
  have h3 := hb.at3
  have HI := hide h
  have HIs := hide hI
  have HR := hide hn
  have hlt := hb.lt
  clear h hI hn hb
  go_enter Tryz.func179, Tryz.ntmps179
  go_wp2_with fail
  refine (at_tab HI.out.df x t HIs.out HI.out.hB HI.out.tl).mono ?_
  rintro e w1 ⟨hF1, row, o, nv1, a, rfl, hrow, hRT⟩
  obtain ⟨po, qo, rfl⟩ := hRT.2.1.shape
  obtain ⟨pn, qn, rfl⟩ := hRT.2.2.1.shape
  obtain ⟨pa, qa, rfl⟩ := hRT.2.2.2.shape
  have hkk := hrow.kind
  rw [hkk]
  have HF1 := hide hF1
  have HK1 := hide (HI.out.ks.quiet hF1)
  clear hF1 hrow hRT hkk
  have HE : Hid (rMsg (k + 1) t l = ((mBytes l).1.map (vBytes t), (mBytes l).2)) := by show _ = _; simp only [rMsg]; rw [if_neg (by omega), if_neg (by omega), if_neg (by omega), if_neg (by omega), if_pos hk]
  rw [hk]
  have HKK := hide hk
  clear hk
  go_wp2_with fail
  refine (kBytes_any (HK1.out.quiet (Fr.alloc _ _ _)) (by have := HI.out.hs; unfold maxLen; omega)).mono ?_
  rintro e w2 ⟨hF2, tx, hK2, rfl, hx⟩
  have HF2 := hide ((KFr.quiet (HF1.out.trans (Fr.alloc _ _ _)) hlt).trans hF2)
  have HK2 := hide hK2
  have HX := hide hx
  clear hF2 hK2 hx
  go_wp2_with fail
  go_ret
  refine ⟨HF2, tx, nums, ways, by rw [HE.out]; simpa using HK2.out, rfl, fun _ => ⟨by omega, by omega⟩, fun v hv => ?_⟩
  rw [HE.out] at hv
  simp only [Option.map_eq_some_iff] at hv
  obtain ⟨b, hb, rfl⟩ := hv
  refine ⟨?_, by rw [numsOf_leaf (by show ¬ t.kind ≤ 3; rw [HKK.out]; omega) rfl]; simp, by rw [kidsW_leaf rfl]; simp⟩
  rw [HX.out b hb]
  show _ = ba (wText (k + 1) ⟨t, 0, b, []⟩)
  rw [wText_mk, if_neg (by rw [HKK.out]; omega), if_neg (by rw [HKK.out]; omega), if_neg (by rw [HKK.out]; omega), if_pos HKK.out]

end Go.Proofs.YtnhkalnihjkoeaaGreatDoor

namespace Go.Proofs.YtnhkalnihjkoeaaGreatDoor
open Go.RowKit

theorem KS.notX {w : World} {B tb db : Nat} {s : ByteArray} {l : Bs} {bad : Bool} {nums : List (Bs × Int)} {ways : List (Bs × Bs)} (h : KS w B tb db s l bad nums ways) {b : Nat} {cs : Array Value} {fz : Nat × Nat} (hb : w.heap[b]? = some (.cells cs 293 fz)) : ¬ KX w tb b := fun hk => by
  obtain ⟨nv, wv, h1, h2, h3, h4⟩ := h
  rcases KX.of h1 hk with e | e | e
  · subst e
    rw [h1.block] at hb
    simp at hb
  · obtain ⟨c, q⟩ := own_type h3 e
    rw [q] at hb
    simp at hb
  · obtain ⟨c, q⟩ := own_type h4 e
    rw [q] at hb
    simp at hb
theorem SIn.keep {w w' : World} {B tb db : Nat} {s : ByteArray} {l l' : Bs} {nums nums' : List (Bs × Int)} {ways ways' : List (Bs × Bs)} {tab : List RT} {roots : List Nat} (h : SIn w B tb db s l nums ways tab roots) (hk : KS w' B tb db s l' false nums' ways') (hf : KFr tb w w') : SIn w' B tb db s l' nums' ways' tab roots :=
  ⟨hk, h.df.keep (h.ks.fromB hf), h.hs, h.tl, Nat.le_trans h.hB hf.fr.size⟩
theorem SIn.quiet {w w' : World} {B tb db : Nat} {s : ByteArray} {l : Bs} {nums : List (Bs × Int)} {ways : List (Bs × Bs)} {tab : List RT} {roots : List Nat} (h : SIn w B tb db s l nums ways tab roots) (hf : Fr Zero w w') : SIn w' B tb db s l nums ways tab roots :=
  ⟨h.ks.quiet hf, h.df.keep hf.of0, h.hs, h.tl, Nat.le_trans h.hB hf.size⟩

/-- What the reader's calls for parts are said to do. -/
def VSaid (k : Nat) : Prop := ∀ (w : World) (B tb db : Nat) (s : ByteArray) (l : Bs) (nums : List (Bs × Int)) (ways : List (Bs × Bs)) (tab : List RT) (roots : List Nat) (x : Nat) (t : PT) (p st : Bs),
  SIn w B tb db s l nums ways tab roots → Is tab x t → WFT k t → p.length + 500 * k ≤ 10000 → st.length + 500 * k ≤ 10000 → Room k nums.length l.length → Room k ways.length l.length →
  Calls Tryz.prog 108 #[.pointer (some ⟨tb, 0, none⟩), .int .i64 x, .string (ba p), .string (ba st)] w fun e w' => VPost tb B db s nums ways k t p st l w e w'

theorem Room.less {k n m m' : Nat} (h : Room (k + 1) n m) (hm : m' ≤ m) : Room k n m' := by
  unfold Room at *
  have h1 : (k + 1) * m = k * m + m := Nat.succ_mul k m
  have h2 : k * m' ≤ k * m := Nat.mul_le_mul_left k hm
  omega
theorem mBelow_len (c : Nat) (l : Bs) : (mBelow c l).2.length ≤ l.length := by
  rcases l with _ | ⟨b, l⟩
  · simp [mBelow]
  · simp only [mBelow]; split <;> simp

theorem Room.down {k n m m' : Nat} (h : Room k n m) (hm : m' ≤ m) : Room k n m' := by
  unfold Room at *
  have h2 : k * m' ≤ k * m := Nat.mul_le_mul_left k hm
  omega
theorem KFr.below {w w' : World} {B tb db : Nat} {s : ByteArray} {l : Bs} {bad : Bool} {nums : List (Bs × Int)} {ways : List (Bs × Bs)} (hk : KS w B tb db s l bad nums ways) (hf : KFr tb w w') {a : Addr} {v : Value} (ha : a.block < B) (h : w.cell? a = some v) : w'.cell? a = some v := by
  rw [hf.fr.cell (World.block_lt_of_cell? w _ h) (fun e => by have := hk.from e; omega)]
  exact h

theorem T9.keep {w w' : World} {B rb kd go co : Nat} {row : RT} {nv av : Value} (h : T9 w B rb row kd go co nv av) {tb db : Nat} {s : ByteArray} {l : Bs} {bad : Bool} {nums : List (Bs × Int)} {ways : List (Bs × Bs)} (hk : KS w B tb db s l bad nums ways) (hf : KFr tb w w') : T9 w' B rb row kd go co nv av :=
  ⟨hf.fr.keep h.blk (hk.notX h.blk), fun i hi => KFr.below hk hf h.lt (h.of i hi), h.lt⟩
set_option maxHeartbeats 8000000 in
set_option maxRecDepth 100000 in
theorem sev_option {w : World} {B tb db : Nat} {s : ByteArray} {l : Bs} {nums : List (Bs × Int)} {ways : List (Bs × Bs)} {tab : List RT} {roots : List Nat} {k x : Nat} {t : PT} (hV : VSaid k) (p st : Bs) (h : SIn w B tb db s l nums ways tab roots) (hI : Is tab x t) (hk : t.kind = 8) (hW : WFT (k + 1) t)
    (hp : p.length + 500 * (k + 1) ≤ 10000) (hst : st.length + 500 * (k + 1) ≤ 10000) (hn : Room (k + 1) nums.length l.length) (hm : Room k ways.length l.length) :
    Calls Tryz.prog 179 #[.pointer (some ⟨tb, 0, none⟩), .int .i64 x, .string (ba p), .string (ba st)] w fun e w' => SPost tb B db s nums ways k t p st l w e w' := by
  obtain ⟨nv, wv, hb⟩ := h.ks.block
  have h0 := hb.at0
  have h3 := hb.at3
  have HI := hide h
  have HIs := hide hI
  have HR := hide hn
  have HM := hide hm
  have HW := hide hW
  have HV := hide hV
  have hlt := hb.lt
  clear h hI hn hm hW hV hb
  go_enter Tryz.func179, Tryz.ntmps179
  go_wp2_with fail
  refine (at_tab HI.out.df x t HIs.out HI.out.hB HI.out.tl).mono ?_
  rintro e w1 ⟨hF1, row, o, nv1, a, rfl, hrow, hRT⟩
  have hs1 : t.subs.length = 1 := HW.out.2.2.2.2.1 (.inr hk)
  have hol : row.of.length = 1 := hrow.len.trans hs1
  have hkk := hrow.kind
  rw [hkk] at hRT ⊢
  have hRT1 := hRT.keep hF1.of0
  obtain ⟨go, co, rfl, hT9⟩ := T9.new hRT1 (by omega)
  obtain ⟨pn, qn, rfl⟩ := hRT.2.2.1.shape
  obtain ⟨pa, qa, rfl⟩ := hRT.2.2.2.shape
  have HIsub := hide (hrow.sub 0 (by omega))
  have HF1 := hide (hF1.trans (Fr.alloc Zero w1 (.cells #[.int .i64 t.kind, .slice (some ⟨go, 0, none⟩) row.of.length co, .slice pn (texts row.names).length qn, .slice pa (ints row.ats).length qa] 293)))
  have HT9 := hide hT9
  have HOL := hide hol
  have HE : Hid (rMsg (k + 1) t l = ((mOpt (rMsg k (t.sub 0)) l).1.map (vParts t 0), (mOpt (rMsg k (t.sub 0)) l).2)) := by show _ = _; simp only [rMsg]; rw [if_neg (by omega), if_neg (by omega), if_neg (by omega), if_neg (by omega), if_neg (by omega), if_neg (by omega), if_pos hk]
  rw [hol] at HT9
  rw [hol] at HF1
  rw [hol]
  rw [hk] at HT9
  rw [hk] at HF1
  rw [hk]
  have HKK := hide hk
  have HWs := hide (HW.out.sub (i := 0) (by omega))
  clear hF1 hrow hRT hRT1 hkk hT9 hol hk hs1
  go_wp2_with fail
  have HI1 := hide (HI.out.quiet HF1.out)
  refine (kByte_any HI1.out.ks (by have := HI.out.hs; unfold maxLen; omega) 2 (by omega)).mono ?_
  rintro e w2 ⟨hF2, hK2, rfl⟩
  have HF2 := hide ((KFr.quiet HF1.out hlt).trans hF2)
  have HK2 := hide hK2
  have HT2 := hide (HT9.out.keep HI1.out.ks hF2)
  have HLN := hide (mBelow_len 2 l)
  rcases hq : mBelow 2 l with ⟨_ | d, r⟩
  · rw [hq] at HK2
    have HU : Hid (mOpt (rMsg k (t.sub 0)) l = (none, r)) := by show _ = _; unfold mOpt; rw [hq]
    clear hF2 hK2 hq
    have e0 : ((((none : Option Nat), r).1.getD 0 : Nat) : Int) = 0 := rfl
    rw [e0]
    go_wp2_with fail
    go_ret
    refine ⟨HF2, _, nums, ways, by rw [HE.out, HU.out]; exact HK2.out, rfl, fun _ => ⟨by omega, by omega⟩, fun v hv => ?_⟩
    rw [HE.out, HU.out] at hv
    simp at hv
  · rw [hq] at HK2
    rw [hq] at HLN
    have e0 : (((some d, r).1.getD 0 : Nat) : Int) = (d : Int) := rfl
    rw [e0]
    have hd2 : d < 2 := by
      rcases l with _ | ⟨b, l⟩
      · simp [mBelow] at hq
      · simp only [mBelow] at hq
        split at hq
        · simp at hq; omega
        · simp at hq
    have HU : Hid (mOpt (rMsg k (t.sub 0)) l = mSeveral (rMsg k (t.sub 0)) d [] r) := by show _ = _; unfold mOpt; rw [hq]
    clear hF2 hK2 hq
    simp only [Option.isNone_some] at HK2
    simp only at HLN
    obtain rfl | rfl : d = 0 ∨ d = 1 := by omega
    · have HU2 : Hid (mOpt (rMsg k (t.sub 0)) l = (some [], r)) := HU
      go_wp2_with fail
      go_ret
      refine ⟨HF2, _, nums, ways, by rw [HE.out, HU2.out]; exact HK2.out, rfl, fun _ => ⟨by omega, by omega⟩, fun v hv => ?_⟩
      rw [HE.out, HU2.out] at hv
      simp at hv
      subst hv
      refine ⟨?_, by rw [numsOf_leaf (by show ¬ t.kind ≤ 3; rw [HKK.out]; omega) rfl]; simp, by rw [kidsW_leaf rfl]; simp⟩
      show _ = ba (wText (k + 1) ⟨t, 0, [], []⟩)
      rw [wText_mk, if_neg (by rw [HKK.out]; omega), if_neg (by rw [HKK.out]; omega), if_neg (by rw [HKK.out]; omega), if_neg (by rw [HKK.out]; omega), if_neg (by rw [HKK.out]; omega), if_pos HKK.out]
      rfl
    · have c1 := HT2.out.at1
      rw [HOL.out] at c1
      have c2 := HT2.out.of 0 (by have := HOL.out; omega)
      have HI2 := hide (HI.out.keep HK2.out HF2.out)
      have hu1 := under_size p [43]
      have hu2 := under_size st [43]
      simp only [List.length_cons, List.length_nil] at hu1 hu2
      have HVC : Hid (∀ W, Fr Zero w2 W → Calls Tryz.prog 108 #[.pointer (some ⟨tb, 0, none⟩), .int .i64 (numAt row.of 0 : Nat), .string (ba (under p [43])), .string (ba (under st [43]))] W fun e w' => VPost tb B db s nums ways k (t.sub 0) (under p [43]) (under st [43]) r W e w') := fun W hf =>
        HV.out W B tb db s r nums ways tab roots _ (t.sub 0) _ _ (HI2.out.quiet hf) HIsub.out HWs.out (by omega) (by omega) (HR.out.less HLN.out) (HM.out.down HLN.out)
      have HU1 : Hid (p.length + [43].length + 1 ≤ 1000000) := by show _ ≤ _; simp; omega
      have HU2 : Hid (st.length + [43].length + 1 ≤ 1000000) := by show _ ≤ _; simp; omega
      have HK2d := hide (HK2.out.quiet (Fr.drew Zero w2))
      have HT2d := hide (HT2.out.quiet (Fr.drew Zero w2))
      clear hu1 hu2
      have ap : ∀ tx : Bs, ⟨#[43]⟩ ++ ba tx = ba (43 :: tx) := fun tx => ba_append [43] tx
      have HAP := hide ap
      have HO1 : Hid (0 < row.of.length) := by show _ < _; have := HOL.out; omega
      clear ap
      go_wp2_with fail
      go_region_held3 (fun W => W.cell? ⟨w1.heap.size, 1, none⟩ = some (.slice (some ⟨go, 0, none⟩) 1 co) ∧ W.cell? ⟨go, 0, none⟩ = some (.int .i64 (numAt row.of 0 : Nat))) (first | exact ⟨by assumption, by assumption⟩) (first | (go_at_call 252; refine (under_any _ [43] _ (by first | exact HU1.out | exact HU2.out)).mono ?_; rintro e w' ⟨rfl, rfl⟩) | (go_at_call 108; refine (HVC.out _ (Fr.drew _ _)).mono ?_; rintro e w4 ⟨hF4, tx, nums', ways', hK4, rfl, htl, hbd, hgd⟩; have hz4 := ba_size tx; have hn4 : ¬ (9223372036854775807 < 1 + tx.length) := (by omega); have d1 := (HT2d.out.keep HK2d.out hF4).at1n HOL.out; have d2 := (HT2d.out.keep HK2d.out hF4).of 0 HO1.out; have HF4 := hide hF4; have HK4 := hide hK4; have HBD := hide hbd; have HGD := hide hgd; clear hF4 hK4 hbd hgd))
      all_goals
        go_wp2_with fail
        go_ret
        have HUq : mOpt (rMsg k (t.sub 0)) l = ((rMsg k (t.sub 0) r).1.map (fun v => [v]), (rMsg k (t.sub 0) r).2) := by
          rw [HU.out]
          simp only [mSeveral]
          rcases rMsg k (t.sub 0) r with ⟨_ | v, r'⟩ <;> rfl
        refine ⟨(HF2.out.trans (KFr.quiet (Fr.drew Zero w2) HK2.out.lt)).trans HF4.out, _, nums', ways', ?_, rfl, fun hno => ?_, fun v hv => ?_⟩
        · rw [HE.out, HUq]
          simpa using HK4.out
        · rw [HE.out, HUq] at hno
          obtain ⟨_, q2, q3⟩ := HBD.out (by simpa using hno)
          have h1 : k * r.length ≤ k * l.length := Nat.mul_le_mul_left k HLN.out
          have h2 : (k + 1) * l.length = k * l.length + l.length := Nat.succ_mul k _
          exact ⟨by omega, by omega⟩
        · rw [HE.out, HUq] at hv
          simp only [Option.map_map, Option.map_eq_some_iff, Function.comp] at hv
          obtain ⟨v0, hv0, rfl⟩ := hv
          obtain ⟨q1, q2, q3⟩ := HGD.out v0 hv0
          refine ⟨?_, ?_, ?_⟩
          · rw [q1, HAP.out]
            show _ = ba (wText (k + 1) ⟨t, 0, [], [v0]⟩)
            rw [wText_mk, if_neg (by rw [HKK.out]; omega), if_neg (by rw [HKK.out]; omega), if_neg (by rw [HKK.out]; omega), if_neg (by rw [HKK.out]; omega), if_neg (by rw [HKK.out]; omega), if_pos HKK.out]
            rfl
          · rw [q2]
            have hk8 := HKK.out
            simp [numsOf, vParts, kids, starOf, stepOf, hk8]
          · rw [q3]
            have hk8 := HKK.out
            simp [kidsW, vParts, kids, stepOf, hk8]

end Go.Proofs.YtnhkalnihjkoeaaGreatDoor

namespace Go.Proofs.YtnhkalnihjkoeaaGreatDoor
open Go.RowKit

theorem N9.keep {w w' : World} {B gn : Nat} {t : PT} (h : N9 w B gn t) {tb db : Nat} {s : ByteArray} {l : Bs} {bad : Bool} {nums : List (Bs × Int)} {ways : List (Bs × Bs)} (hk : KS w B tb db s l bad nums ways) (hf : KFr tb w w') : N9 w' B gn t :=
  ⟨fun i hi => KFr.below hk hf h.lt (h.nm i hi), h.lt⟩
set_option maxHeartbeats 8000000 in
set_option maxRecDepth 100000 in
theorem sev_choice {w : World} {B tb db : Nat} {s : ByteArray} {l : Bs} {nums : List (Bs × Int)} {ways : List (Bs × Bs)} {tab : List RT} {roots : List Nat} {k x : Nat} {t : PT} (hV : VSaid k) (p st : Bs) (h : SIn w B tb db s l nums ways tab roots) (hI : Is tab x t) (hk : t.kind = 10) (hW : WFT (k + 1) t)
    (hp : p.length + 500 * (k + 1) ≤ 10000) (hst : st.length + 500 * (k + 1) ≤ 10000) (hn : Room (k + 1) nums.length l.length) (hm : Room k ways.length l.length) :
    Calls Tryz.prog 179 #[.pointer (some ⟨tb, 0, none⟩), .int .i64 x, .string (ba p), .string (ba st)] w fun e w' => SPost tb B db s nums ways k t p st l w e w' := by
  obtain ⟨nv, wv, hb⟩ := h.ks.block
  have h0 := hb.at0
  have h3 := hb.at3
  have HI := hide h
  have HIs := hide hI
  have HR := hide hn
  have HM := hide hm
  have HW := hide hW
  have HV := hide hV
  have hlt := hb.lt
  clear h hI hn hm hW hV hb
  go_enter Tryz.func179, Tryz.ntmps179
  go_wp2_with fail
  refine (at_tab HI.out.df x t HIs.out HI.out.hB HI.out.tl).mono ?_
  rintro e w1 ⟨hF1, row, o, nv1, a, rfl, hrow, hRT⟩
  have hsl := HW.out.2.2.2.2.2.1.1
  have hpos := HW.out.2.2.2.1 (by omega)
  have hol : row.of.length = t.subs.length := hrow.len
  have hkk := hrow.kind
  have hnl : row.names.length = t.subs.length := (hrow.nml (by omega)).trans hol
  have htn : row.names = t.names := by
    have := hrow.nms
    unfold namesR at this
    rw [if_neg (by intro h; rw [List.isEmpty_iff] at h; rw [h] at hnl; simp at hnl; omega)] at this
    exact this
  rw [hkk] at hRT ⊢
  have hRT1 := hRT.keep hF1.of0
  obtain ⟨go, co, rfl, hT9⟩ := T9.new hRT1 (by omega)
  obtain ⟨gn, cn, rfl, hN9⟩ := N9.new hRT1 htn (by rw [htn] at hnl; omega)
  obtain ⟨pa, qa, rfl⟩ := hRT.2.2.2.shape
  have hnl' : t.names.length = t.subs.length := by rw [← htn]; exact hnl
  have HSUB := hide hrow.sub
  have HNM : Hid (∀ i, (t.name i).length ≤ 400) := fun i => by
    unfold PT.name
    rcases hq : t.names[i]? with _ | n
    · simp
    · have := HW.out.2.2.2.2.2.1.2 n (List.mem_of_getElem? hq)
      simpa using this
  have HF1 := hide (hF1.trans (Fr.alloc Zero w1 (.cells #[.int .i64 t.kind, .slice (some ⟨go, 0, none⟩) row.of.length co, .slice (some ⟨gn, 0, none⟩) t.names.length cn, .slice pa (ints row.ats).length qa] 293)))
  have HT9 := hide hT9
  have HN9 := hide (hN9.quiet (Fr.alloc Zero w1 (.cells #[.int .i64 t.kind, .slice (some ⟨go, 0, none⟩) row.of.length co, .slice (some ⟨gn, 0, none⟩) t.names.length cn, .slice pa (ints row.ats).length qa] 293)))
  have HOL := hide hol
  have HNL := hide hnl'
  have HE : Hid (rMsg (k + 1) t l = ((mCase (rMsg k) t l).1.map (fun p => vParts t p.1 [p.2]), (mCase (rMsg k) t l).2)) := by show _ = _; simp only [rMsg]; rw [if_neg (by omega), if_neg (by omega), if_neg (by omega), if_neg (by omega), if_neg (by omega), if_neg (by omega), if_neg (by omega), if_neg (by omega)]
  obtain ⟨m, hm⟩ : ∃ m, t.subs.length = m := ⟨_, rfl⟩
  rw [hm] at HOL HNL hpos hsl hol hnl'
  simp only [hol, hnl', hk] at HT9 HN9 HF1 ⊢
  have HKK := hide hk
  have HMM := hide hm
  clear hF1 hrow hRT hRT1 hkk hT9 hol hk hN9 hnl hnl' htn hm
  have HI1 := hide (HI.out.quiet HF1.out)
  have b1 := HT9.out.at1n HOL.out
  go_wp2_with fail
  refine (kByte_any HI1.out.ks (by have := HI.out.hs; unfold maxLen; omega) m (by omega)).mono ?_
  rintro e w2 ⟨hF2, hK2, rfl⟩
  have HF2 := hide ((KFr.quiet HF1.out hlt).trans hF2)
  have HK2 := hide hK2
  have HT2 := hide (HT9.out.keep HI1.out.ks hF2)
  have HN2 := hide (HN9.out.keep HI1.out.ks hF2)
  have HLN := hide (mBelow_len m l)
  clear b1
  rcases hq : mBelow m l with ⟨_ | d, r⟩
  · rw [hq] at HK2
    have HU : Hid (mCase (rMsg k) t l = (none, r)) := by show _ = _; unfold mCase; rw [HMM.out, hq]
    obtain ⟨_, _, hb2⟩ := HK2.out.block
    have g3 := hb2.at3
    simp only [Option.isNone_none] at g3
    clear hF2 hK2 hq hb2
    go_wp2_with fail
    go_ret
    refine ⟨HF2, _, nums, ways, by rw [HE.out, HU.out]; exact HK2.out, rfl, fun _ => ⟨by omega, by omega⟩, fun v hv => ?_⟩
    rw [HE.out, HU.out] at hv
    simp at hv
  · rw [hq] at HK2
    rw [hq] at HLN
    have e0 : (((some d, r).1.getD 0 : Nat) : Int) = (d : Int) := rfl
    rw [e0]
    have hd2 : d < m := by
      rcases l with _ | ⟨b, l⟩
      · simp [mBelow] at hq
      · simp only [mBelow] at hq
        split at hq
        · simp at hq; omega
        · simp at hq
    have HU : Hid (mCase (rMsg k) t l = ((rMsg k (t.sub d) r).1.map (fun v => (d, v)), (rMsg k (t.sub d) r).2)) := by show _ = _; unfold mCase; rw [HMM.out, hq]
    obtain ⟨_, _, hb2⟩ := HK2.out.block
    have g3 := hb2.at3
    simp only [Option.isNone_some] at g3
    clear hF2 hK2 hq hb2
    simp only [Option.isNone_some] at HK2
    simp only at HLN
    have c1 := HT2.out.at1n HOL.out
    have c2 := HT2.out.of d (by rw [HOL.out]; omega)
    have c3 := HT2.out.at2
    have c4 := HN2.out.nm d (by rw [HNL.out]; omega)
    have hdI : (d : Int) < (m : Int) := by omega
    have HI2 := hide (HI.out.keep HK2.out HF2.out)
    have HIsub := hide (HSUB.out d (by rw [HMM.out]; omega))
    have HWs := hide (HW.out.sub (i := d) (by rw [HMM.out]; omega))
    have hnm := HNM.out d
    have hu1 := under_size p (t.name d)
    have hu2 := under_size st (t.name d)
    have HVC : Hid (∀ W, Fr Zero w2 W → Calls Tryz.prog 108 #[.pointer (some ⟨tb, 0, none⟩), .int .i64 (numAt row.of d : Nat), .string (ba (under p (t.name d))), .string (ba (under st (t.name d)))] W fun e w' => VPost tb B db s nums ways k (t.sub d) (under p (t.name d)) (under st (t.name d)) r W e w') := fun W hf =>
      HV.out W B tb db s r nums ways tab roots _ (t.sub d) _ _ (HI2.out.quiet hf) HIsub.out HWs.out (by omega) (by omega) (HR.out.less HLN.out) (HM.out.down HLN.out)
    have HU1 : Hid (p.length + (t.name d).length + 1 ≤ 1000000) := by show _ ≤ _; omega
    have HU2 : Hid (st.length + (t.name d).length + 1 ≤ 1000000) := by show _ ≤ _; omega
    have HK2d := hide (HK2.out.quiet (Fr.drew Zero w2))
    have HT2d := hide (HT2.out.quiet (Fr.drew Zero w2))
    have HN2d := hide (HN2.out.quiet (Fr.drew Zero w2))
    have HO1 : Hid (d < row.of.length) := by show _ < _; have := HOL.out; omega
    have HO2 : Hid (d < t.names.length) := by show _ < _; have := HNL.out; omega
    have HNMD : Hid (t.name d = t.name d) := rfl
    clear hu1 hu2 e0
    have a1 : ba (t.name d) ++ ⟨#[58]⟩ = ba (t.name d ++ [58]) := ba_append (t.name d) [58]
    have z1 := ba_size (t.name d)
    have z2 := ba_size (t.name d ++ [58])
    simp only [List.length_append, List.length_cons, List.length_nil] at z2
    obtain ⟨nm, hnme⟩ : ∃ nm, t.name d = nm := ⟨_, rfl⟩
    have HNME := hide hnme
    have HNL2 := HNL.out
    rw [hnme] at a1 z1 z2 c4 HU1 HU2 HVC hnm
    clear hnme
    have n1 : ¬ (9223372036854775807 < nm.length + 1) := by omega
    have HAP : Hid (∀ tx : Bs, ba (nm ++ [58]) ++ ba tx = ba (nm ++ 58 :: tx)) := fun tx => (ba_append (nm ++ [58]) tx).trans (by simp)
    clear HNL2
    go_wp2_with fail
    go_region_held3 (fun W => W.cell? ⟨w1.heap.size, 1, none⟩ = some (.slice (some ⟨go, 0, none⟩) m co) ∧ W.cell? ⟨go, d, none⟩ = some (.int .i64 (numAt row.of d : Nat)) ∧ W.cell? ⟨w1.heap.size, 2, none⟩ = some (.slice (some ⟨gn, 0, none⟩) m cn) ∧ W.cell? ⟨gn, d, none⟩ = some (.string (ba nm))) (first | exact ⟨by assumption, by assumption, by assumption, by assumption⟩) (first | (go_at_call 252; refine (under_any _ nm _ (by first | exact HU1.out | exact HU2.out)).mono ?_; rintro e w' ⟨rfl, rfl⟩) | (go_at_call 108; refine (HVC.out _ (Fr.drew _ _)).mono ?_; rintro e w4 ⟨hF4, tx, nums', ways', hK4, rfl, htl, hbd, hgd⟩; have hz4 := ba_size tx; have hn4 : ¬ (9223372036854775807 < nm.length + 1 + tx.length) := (by omega); have d1 := (HT2d.out.keep HK2d.out hF4).at1n HOL.out; have d2 := (HT2d.out.keep HK2d.out hF4).of d HO1.out; have d3 := (HT2d.out.keep HK2d.out hF4).at2; have d4 := (HN2d.out.keep HK2d.out hF4).nm d HO2.out; rw [HNME.out] at d4; have HF4 := hide hF4; have HK4 := hide hK4; have HBD := hide hbd; have HGD := hide hgd; clear hF4 hK4 hbd hgd))
    all_goals
      go_wp2_with fail
      go_ret
      refine ⟨(HF2.out.trans (KFr.quiet (Fr.drew Zero w2) HK2.out.lt)).trans HF4.out, _, nums', ways', ?_, rfl, fun hno => ?_, fun v hv => ?_⟩
      · rw [HE.out, HU.out]
        simpa using HK4.out
      · rw [HE.out, HU.out] at hno
        obtain ⟨_, q2, q3⟩ := HBD.out (by simpa using hno)
        have h1 : k * r.length ≤ k * l.length := Nat.mul_le_mul_left k HLN.out
        have h2 : (k + 1) * l.length = k * l.length + l.length := Nat.succ_mul k _
        exact ⟨by omega, by omega⟩
      · rw [HE.out, HU.out] at hv
        simp only [Option.map_map, Option.map_eq_some_iff, Function.comp] at hv
        obtain ⟨v0, hv0, rfl⟩ := hv
        obtain ⟨q1, q2, q3⟩ := HGD.out v0 hv0
        have hk8 := HKK.out
        refine ⟨?_, ?_, ?_⟩
        · rw [q1, HAP.out]
          show _ = ba (wText (k + 1) ⟨t, (d : Int), [], [v0]⟩)
          rw [wText_mk, if_neg (by omega), if_neg (by omega), if_neg (by omega), if_neg (by omega), if_neg (by omega), if_neg (by omega), if_neg (by omega), Int.toNat_natCast, HNME.out]
          rfl
        · rw [q2]
          simp [numsOf, vParts, kids, starOf, stepOf, hk8, HNME.out]
        · rw [q3]
          simp [kidsW, vParts, kids, stepOf, hk8, HNME.out]

end Go.Proofs.YtnhkalnihjkoeaaGreatDoor
