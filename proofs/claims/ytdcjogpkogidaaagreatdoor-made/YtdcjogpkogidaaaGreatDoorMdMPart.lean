/- The maker's values: what is made of parts. -/
import Derived.Test.YtdcjogpkogidaaaGreatDoorMdMLeaf
import Derived.Test.YtdcjogpkogidaaaGreatDoorMdMNum
section
namespace Go.Proofs.YtdcjogpkogidaaaGreatDoor.Q
open Go.RowKit

def CM (k : Nat) : Nat := 40 * 4 ^ k
theorem CM_pos (k : Nat) : 40 ≤ CM k := by unfold CM; have := Nat.one_le_pow k 4 (by omega); omega
theorem CM_succ (k : Nat) : CM (k + 1) = 4 * CM k := by unfold CM; rw [Nat.pow_succ]; omega
/-- What is told of a value's parts. -/
def kidsM (k : Nat) (p : Bs) (v : PV) : List (Bs × Bs) := kids (fun i x => waysOf k (under p (stepOf v.of v.num i)) x) 0 v.parts
theorem waysOf_kids (k : Nat) (p : Bs) (v : PV) : waysOf (k + 1) p v = (p, wText (k + 1) v) :: kidsM k p v := rfl

/-- A maker, a type, and what lies where. -/
structure VIn (w : World) (B B2 mb : Nat) (tv : Value) (n : Nat) (ways : List (Bs × Bs)) (nums : List (Bs × Int)) (sz k : Nat) (a : Addr) (t : PT) : Prop where
  mz : MZ w B2 mb tv n ways nums sz
  tp : TapeAt w B tv
  sr : SRep w (MF mb B2) k a t
  md : MadeT k t
  hB : B ≤ mb
  hBB : B ≤ B2
  h2 : B2 ≤ w.heap.size
/-- There is room for what is made. -/
structure VRoom (x n : Nat) (ways : List (Bs × Bs)) (nums : List (Bs × Int)) (sz k : Nat) (p st : Bs) : Prop where
  n : n + CM k ≤ 10000000
  ways : ways.length + CM k ≤ 10000000 + x
  nums : nums.length + CM k ≤ 10000000
  sz : sz + CM k ≤ 10000000
  p : p.length + 30 * k ≤ 1000000
  st : st.length + 30 * k ≤ 1000000

/-- What `several` leaves. -/
structure SevOut (w : World) (B2 mb : Nat) (tv : Value) (n : Nat) (ways : List (Bs × Bs)) (nums : List (Bs × Int)) (sz k : Nat) (t : PT) (p st : Bs) (v : PV) (n' sz' : Nat) (w' : World) : Prop where
  va : Valid (k + 1) t v
  fr : Fr (MF mb B2) w w'
  mz : MZ w' B2 mb tv n' (ways ++ kidsM k p v) (nums ++ numsOf (k + 1) st v) sz'
  cn : n' + 10 ≤ n + CM (k + 1)
  cs : sz' + 10 ≤ sz + CM (k + 1)
  ct : (wText (k + 1) v).length ≤ CM (k + 1)
  cm : (wMsg (k + 1) v).length ≤ CM (k + 1)
  ck : (kidsM k p v).length + 10 ≤ CM (k + 1)
  cu : (numsOf (k + 1) st v).length ≤ CM (k + 1)
def SevPost (w : World) (B2 mb : Nat) (tv : Value) (n : Nat) (ways : List (Bs × Bs)) (nums : List (Bs × Int)) (sz k : Nat) (t : PT) (p st : Bs) (e : Ending) (w' : World) : Prop :=
  ∃ (v : PV) (n' sz' : Nat), e = .returned (.tuple #[.string (ba (wText (k + 1) v)), .string (ba (wMsg (k + 1) v))]) ∧ SevOut w B2 mb tv n ways nums sz k t p st v n' sz' w'
/-- What `value` leaves. -/
structure ValOut (w : World) (B2 mb : Nat) (tv : Value) (n : Nat) (ways : List (Bs × Bs)) (nums : List (Bs × Int)) (sz k : Nat) (t : PT) (p st : Bs) (v : PV) (n' sz' : Nat) (w' : World) : Prop where
  va : Valid k t v
  fr : Fr (MF mb B2) w w'
  mz : MZ w' B2 mb tv n' (ways ++ waysOf k p v) (nums ++ numsOf k st v) sz'
  cn : n' ≤ n + CM k
  cs : sz' ≤ sz + CM k
  ct : (wText k v).length ≤ CM k
  cm : (wMsg k v).length ≤ CM k
  ck : (waysOf k p v).length ≤ CM k
  cu : (numsOf k st v).length ≤ CM k
def ValPost (w : World) (B2 mb : Nat) (tv : Value) (n : Nat) (ways : List (Bs × Bs)) (nums : List (Bs × Int)) (sz k : Nat) (t : PT) (p st : Bs) (e : Ending) (w' : World) : Prop :=
  ∃ (v : PV) (n' sz' : Nat), e = .returned (.tuple #[.string (ba (wText k v)), .string (ba (wMsg k v))]) ∧ ValOut w B2 mb tv n ways nums sz k t p st v n' sz' w'

def SevSaid (k : Nat) : Prop := ∀ (w : World) (B B2 mb : Nat) (tv : Value) (n : Nat) (ways : List (Bs × Bs)) (nums : List (Bs × Int)) (sz : Nat) (a : Addr) (t : PT) (p st : Bs), VIn w B B2 mb tv n ways nums sz (k + 1) a t → VRoom 1 n ways nums sz (k + 1) p st →
    Calls Tryz.prog 24 #[.pointer (some ⟨mb, 0, none⟩), .pointer (some a), .string (ba p), .string (ba st)] w fun e w' => SevPost w B2 mb tv n ways nums sz k t p st e w'
def ValSaid (k : Nat) : Prop := ∀ (w : World) (B B2 mb : Nat) (tv : Value) (n : Nat) (ways : List (Bs × Bs)) (nums : List (Bs × Int)) (sz : Nat) (a : Addr) (t : PT) (p st : Bs), VIn w B B2 mb tv n ways nums sz k a t → VRoom 0 n ways nums sz k p st →
    Calls Tryz.prog 14 #[.pointer (some ⟨mb, 0, none⟩), .pointer (some a), .string (ba p), .string (ba st)] w fun e w' => ValPost w B2 mb tv n ways nums sz k t p st e w'

theorem kidsM_leaf {k : Nat} {p : Bs} {v : PV} (h : v.parts = []) : kidsM k p v = [] := by unfold kidsM; rw [h]; rfl
theorem mnums_num {k : Nat} {st : Bs} {v : PV} (h : v.of.kind ≤ 3) : numsOf (k + 1) st v = [(st, v.num)] := by simp only [numsOf]; rw [if_pos h]
theorem mnums_leaf {k : Nat} {st : Bs} {v : PV} (h : ¬ v.of.kind ≤ 3) (hp : v.parts = []) : numsOf (k + 1) st v = [] := by simp only [numsOf]; rw [if_neg h, hp]; rfl

section
variable {w : World} {B B2 mb n sz k : Nat} {tv : Value} {ways : List (Bs × Bs)} {nums : List (Bs × Int)} {a : Addr} {t : PT} {p st : Bs}
theorem sevOut_num {w' : World} {v : Int} {bs : Bs} {n' : Nat} (hF : Fr (MF mb B2) w w') (hM : MZ w' B2 mb tv n' ways (nums ++ [(st, v)]) sz) (hn : n' ≤ n + 8) (hk : t.kind ≤ 3) (h2 : t.kind ≤ 2 → 0 ≤ v ∧ v ≤ mostOf t.kind ∧ bs = leBytes (widthOf t.kind) v.toNat) (h3 : t.kind = 3 → -9223372036854775808 ≤ v ∧ v ≤ 9223372036854775807 ∧ bs = beBytes 8 (ofInt64 v)) :
    wText (k + 1) (vNum t v) = decI v ∧ wMsg (k + 1) (vNum t v) = bs ∧ SevOut w B2 mb tv n ways nums sz k t p st (vNum t v) n' sz w' := by
  have e1 : wText (k + 1) (vNum t v) = decI v := by unfold vNum; rw [wText_mk, if_pos hk]
  have e2 : wMsg (k + 1) (vNum t v) = bs := by
    unfold vNum
    rw [wMsg_mk]
    by_cases hk2 : t.kind ≤ 2
    · rw [if_pos hk2, (h2 hk2).2.2]
    · rw [if_neg hk2, if_pos (by omega), (h3 (by omega)).2.2]
  have hc := CM_pos k
  have hcs := CM_succ k
  refine ⟨e1, e2, ⟨rfl, ?_⟩, hF, ?_, by omega, by omega, ?_, ?_, ?_, ?_⟩
  · by_cases hk2 : t.kind ≤ 2
    · rw [if_pos hk2]
      exact ⟨rfl, rfl, (h2 hk2).1, (h2 hk2).2.1⟩
    · rw [if_neg hk2, if_pos (by omega)]
      exact ⟨rfl, rfl, (h3 (by omega)).1, (h3 (by omega)).2.1⟩
  · rw [kidsM_leaf rfl, List.append_nil, mnums_num hk]
    exact hM
  · rw [e1]; have := decI_len v; omega
  · rw [e2]
    by_cases hk2 : t.kind ≤ 2
    · rw [(h2 hk2).2.2, leBytes_length]; unfold widthOf; split <;> (try split) <;> omega
    · rw [(h3 (by omega)).2.2]; unfold beBytes; rw [List.length_reverse, leBytes_length]; omega
  · rw [kidsM_leaf rfl]; simp; omega
  · rw [mnums_num hk]; simp; omega
theorem sevOut_leaf {w' : World} {v : PV} {n' : Nat} {pv qv nv : Value} (hM : MM w B2 mb tv n (ways.map (·.1)) (ways.map (·.2)) nums sz pv qv nv) (h2 : B2 ≤ w.heap.size) (hF : Fr (TX mb w) w w') (hm : MK w' mb tv n' pv qv nv sz) (hn : n' ≤ n + 8) (hk : ¬ t.kind ≤ 3) (ho : v.of = t) (hp : v.parts = []) (hV : Valid (k + 1) t v) (ht : (wText (k + 1) v).length ≤ 20) (hg : (wMsg (k + 1) v).length ≤ 20) :
    SevOut w B2 mb tv n ways nums sz k t p st v n' sz w' := by
  have hc := CM_pos k
  have hcs := CM_succ k
  refine ⟨hV, Fr.mf h2 hF, ?_, by omega, by omega, by omega, by omega, ?_, ?_⟩
  · rw [kidsM_leaf hp, mnums_leaf (by rw [ho]; exact hk) hp, List.append_nil, List.append_nil]
    exact ⟨pv, qv, nv, hM.tx (Nat.le_refl _) hF hm⟩
  · rw [kidsM_leaf hp]; simp; omega
  · rw [mnums_leaf (by rw [ho]; exact hk) hp]; simp
end

theorem SRep.kind {w : World} {X : Nat → Prop} {k : Nat} {a : Addr} {t : PT} (h : SRep w X (k + 1) a t) : ∃ b, a = ⟨b, 0, none⟩ ∧ ¬ X b ∧ b < w.heap.size ∧ w.cell? ⟨b, 0, none⟩ = some (.int .i64 t.kind) := by
  obtain ⟨b, sv, rows, h1, h2, h3, _⟩ := h
  exact ⟨b, h1, h3, lt_of_heap h2, (cell_of_heap (o := 0) h2).trans rfl⟩

set_option maxHeartbeats 16000000 in
set_option maxRecDepth 100000 in
theorem sevM_num {k : Nat} {w : World} {B B2 mb : Nat} {tv : Value} {n : Nat} {ways : List (Bs × Bs)} {nums : List (Bs × Int)} {sz : Nat} {a : Addr} {t : PT} {p st : Bs} (h : VIn w B B2 mb tv n ways nums sz (k + 1) a t) (hr : VRoom 1 n ways nums sz (k + 1) p st) (hk : t.kind ≤ 3) :
    Calls Tryz.prog 24 #[.pointer (some ⟨mb, 0, none⟩), .pointer (some a), .string (ba p), .string (ba st)] w fun e w' => SevPost w B2 mb tv n ways nums sz k t p st e w' := by
  obtain ⟨b, rfl, hxb, hb, c0⟩ := h.sr.kind
  have hc := CM_pos (k + 1)
  have r1 := hr.n
  have r3 := hr.nums
  rcases (show t.kind = 0 ∨ t.kind = 1 ∨ t.kind = 2 ∨ t.kind = 3 by omega) with hk' | hk' | hk' | hk'
  all_goals
    have HC : Hid (Calls Tryz.prog 36 #[.pointer (some ⟨mb, 0, none⟩), .int .i64 t.kind, .string (ba st)] w fun e w' => MNumPost w B2 mb tv n ways nums sz t.kind st e w') := by
      rw [hk']
      first
      | exact number_int h.mz h.tp h.hB h.h2 h.hBB (by omega) (by omega) st
      | exact number_small h.mz h.tp h.hB h.h2 h.hBB (by omega) (by omega) st _ (by omega)
    have HK := hide hk
    rw [hk'] at c0
    have HK' := hide hk'
    rw [hk'] at HC
    clear h hr hk hk'
    go_enter Tryz.func24, Tryz.ntmps24
    go_wp2_with fail
    refine HC.out.mono ?_
    rintro e w1 ⟨v, bs, n', rfl, hF, hM, hn, h2, h3⟩
    have HO := hide (sevOut_num (k := k) (t := t) (p := p) hF hM hn HK.out (fun _ => by rw [HK'.out]; exact h2 (by have := HK'.out; omega)) (fun _ => h3 (by have := HK'.out; omega)))
    clear hF hM hn h2 h3 HC
    go_wp2_with fail
    go_ret2
    refine ⟨vNum t v, n', sz, ?_, HO.out.2.2⟩
    rw [HO.out.1, HO.out.2.1]
    rfl

set_option maxHeartbeats 16000000 in
set_option maxRecDepth 100000 in
theorem sevM_text {k : Nat} {w : World} {B B2 mb : Nat} {tv : Value} {n : Nat} {ways : List (Bs × Bs)} {nums : List (Bs × Int)} {sz : Nat} {a : Addr} {t : PT} {p st : Bs} (h : VIn w B B2 mb tv n ways nums sz (k + 1) a t) (hr : VRoom 1 n ways nums sz (k + 1) p st) (hk : t.kind = 5) :
    Calls Tryz.prog 24 #[.pointer (some ⟨mb, 0, none⟩), .pointer (some a), .string (ba p), .string (ba st)] w fun e w' => SevPost w B2 mb tv n ways nums sz k t p st e w' := by
  obtain ⟨b, rfl, hxb, hb, c0⟩ := h.sr.kind
  have r1 := hr.n
  have H := hide h
  obtain ⟨pv, qv, nv, hM⟩ := h.mz
  have HM := hide hM
  have HC := hide (mtext_any hM.bk h.tp h.hB (by omega))
  have hlt := hM.lt
  rw [hk] at c0
  have HK := hide hk
  clear h hr hk hM
  go_enter Tryz.func24, Tryz.ntmps24
  go_wp2_with fail
  refine HC.out.mono ?_
  rintro e w1 ⟨cs, n', rfl, hF, hm, hn, hl, hP⟩
  have HO := hide (And.intro hF (And.intro hm (And.intro hn (And.intro hl hP))))
  clear hF hm hn hl hP HC
  go_wp2_with fail
  go_ret2
  obtain ⟨hF, hm, hn, hl, hP⟩ := HO.out
  have hk := HK.out
  have e1 : wText (k + 1) (vBytes t cs) = 34 :: (wQuo cs ++ [34]) := by unfold vBytes; rw [wText_mk, if_neg (by omega), if_neg (by omega), if_pos hk]
  have e2 : wMsg (k + 1) (vBytes t cs) = UInt8.ofNat cs.length :: cs := by
    unfold vBytes
    rw [wMsg_mk, if_neg (by omega), if_neg (by omega), if_neg (by omega), if_pos (by omega)]
    unfold wCount
    rw [if_pos (by omega)]
    rfl
  have hq := wQuo_length cs
  refine ⟨vBytes t cs, n', sz, ?_, sevOut_leaf HM.out H.out.h2 hF hm (by omega) (by omega) rfl rfl ⟨rfl, ?_⟩ (by rw [e1]; simp; omega) (by rw [e2]; simp; omega)⟩
  · rw [e1, e2]; rfl
  · rw [if_neg (by omega), if_neg (by omega), if_neg (by omega), if_pos hk]
    exact ⟨rfl, rfl, by show cs.length ≤ 300; omega, hP⟩

set_option maxHeartbeats 16000000 in
set_option maxRecDepth 100000 in
theorem sevM_bytes {k : Nat} {w : World} {B B2 mb : Nat} {tv : Value} {n : Nat} {ways : List (Bs × Bs)} {nums : List (Bs × Int)} {sz : Nat} {a : Addr} {t : PT} {p st : Bs} (h : VIn w B B2 mb tv n ways nums sz (k + 1) a t) (hr : VRoom 1 n ways nums sz (k + 1) p st) (hk : t.kind = 6) :
    Calls Tryz.prog 24 #[.pointer (some ⟨mb, 0, none⟩), .pointer (some a), .string (ba p), .string (ba st)] w fun e w' => SevPost w B2 mb tv n ways nums sz k t p st e w' := by
  obtain ⟨b, rfl, hxb, hb, c0⟩ := h.sr.kind
  have r1 := hr.n
  have H := hide h
  obtain ⟨pv, qv, nv, hM⟩ := h.mz
  have HM := hide hM
  have HC := hide (mbytes_any hM.bk h.tp h.hB (by omega))
  have hlt := hM.lt
  rw [hk] at c0
  have HK := hide hk
  clear h hr hk hM
  go_enter Tryz.func24, Tryz.ntmps24
  go_wp2_with fail
  refine HC.out.mono ?_
  rintro e w1 ⟨cs, n', rfl, hF, hm, hn, hl, hP⟩
  have HO := hide (And.intro hF (And.intro hm (And.intro hn hl)))
  clear hF hm hn hl hP HC
  go_wp2_with fail
  go_ret2
  obtain ⟨hF, hm, hn, hl⟩ := HO.out
  have hk := HK.out
  have e1 : wText (k + 1) (vBytes t cs) = 120 :: wHex cs := by unfold vBytes; rw [wText_mk, if_neg (by omega), if_neg (by omega), if_neg (by omega), if_pos hk]
  have e2 : wMsg (k + 1) (vBytes t cs) = UInt8.ofNat cs.length :: cs := by
    unfold vBytes
    rw [wMsg_mk, if_neg (by omega), if_neg (by omega), if_neg (by omega), if_pos (by omega)]
    unfold wCount
    rw [if_pos (by omega)]
    rfl
  have hq := wHex_length cs
  refine ⟨vBytes t cs, n', sz, ?_, sevOut_leaf HM.out H.out.h2 hF hm (by omega) (by omega) rfl rfl ⟨rfl, ?_⟩ (by rw [e1]; simp; omega) (by rw [e2]; simp; omega)⟩
  · rw [e1, e2]; rfl
  · rw [if_neg (by omega), if_neg (by omega), if_neg (by omega), if_neg (by omega), if_pos hk]
    exact ⟨rfl, rfl, by show cs.length ≤ 300; omega⟩

set_option maxHeartbeats 16000000 in
set_option maxRecDepth 100000 in
theorem sevM_bool {k : Nat} {w : World} {B B2 mb : Nat} {tv : Value} {n : Nat} {ways : List (Bs × Bs)} {nums : List (Bs × Int)} {sz : Nat} {a : Addr} {t : PT} {p st : Bs} (h : VIn w B B2 mb tv n ways nums sz (k + 1) a t) (hr : VRoom 1 n ways nums sz (k + 1) p st) (hk : t.kind = 4) :
    Calls Tryz.prog 24 #[.pointer (some ⟨mb, 0, none⟩), .pointer (some a), .string (ba p), .string (ba st)] w fun e w' => SevPost w B2 mb tv n ways nums sz k t p st e w' := by
  obtain ⟨b, rfl, hxb, hb, c0⟩ := h.sr.kind
  have r1 := hr.n
  have H := hide h
  obtain ⟨pv, qv, nv, hM⟩ := h.mz
  have HM := hide hM
  have hlt := hM.lt
  rw [hk] at c0
  have HK := hide hk
  have HA : Hid (Fr Zero w (w.alloc (.cells #[.string ⟨#[110, 111]⟩, .string ⟨#[121, 101, 115]⟩] 9))) := Fr.alloc _ _ _
  have HL : Hid ((w.alloc (.cells #[.string ⟨#[110, 111]⟩, .string ⟨#[121, 101, 115]⟩] 9)).heap[w.heap.size]? = some (.cells #[.string ⟨#[110, 111]⟩, .string ⟨#[121, 101, 115]⟩] 9 (0, 0))) := heap_new_at rfl _
  have HC := hide (next_any (HA.out.keep hM.bk (fun e => e)) (h.tp.keep HA.out (fun _ _ e => e)) h.hB (by omega) 2 (by omega) (by omega))
  clear h hr hk hM
  go_enter Tryz.func24, Tryz.ntmps24
  go_wp2_with fail
  refine HC.out.mono ?_
  rintro e w1 ⟨⟨r, hr, rfl⟩, hF1, hM1⟩
  have HF1 : Hid (Fr (TX mb w) w w1) := HA.out.of0.trans (hF1.mono (fun k _ e => .inl e))
  have HM1 := hide hM1
  have hL1 : w1.heap[w.heap.size]? = some (.cells #[.string ⟨#[110, 111]⟩, .string ⟨#[121, 101, 115]⟩] 9 (0, 0)) := hF1.keep HL.out (fun e => by have e' : w.heap.size = mb := e; omega)
  have hs1 := lt_of_heap hL1
  have l0 : w1.drew.cell? ⟨w.heap.size, 0, none⟩ = some (.string ⟨#[110, 111]⟩) := (cell_of_heap (o := 0) hL1).trans rfl
  have l1 : w1.drew.cell? ⟨w.heap.size, 1, none⟩ = some (.string ⟨#[121, 101, 115]⟩) := (cell_of_heap (o := 1) hL1).trans rfl
  clear hF1 hM1 hL1 HC HL
  rcases (show r = 0 ∨ r = 1 by omega) with rfl | rfl
  · have HG := hide ((Fr.alloc Zero w1 (.cells #[.int .u8 0] 5)).trans (Fr.drew Zero _))
    have l2 : (w1.alloc (.cells #[.int .u8 0] 5)).drew.cell? ⟨w.heap.size, 0, none⟩ = _ := (HG.out.cell (a := ⟨w.heap.size, 0, none⟩) hs1 (fun e => e)).trans l0
    have hcv : (convert 24 9 (.slice (some ⟨w1.heap.size, 0, none⟩) 1 1)).run Tryz.prog (w1.alloc (.cells #[.int .u8 0] 5)).drew = .ok (.string (ba [0])) (w1.alloc (.cells #[.int .u8 0] 5)).drew := conv_at (b := 0) (heap_new_at (w := w1) rfl _)
    go_wp2_with fail
    go_region
    all_goals
      go_wp2_with fail
      go_ret2
      have hk := HK.out
      have e1 : wText (k + 1) (vNum t 0) = wNo := by unfold vNum; rw [wText_mk, if_neg (by omega), if_pos hk]; rfl
      have e2 : wMsg (k + 1) (vNum t 0) = [0] := by unfold vNum; rw [wMsg_mk, if_neg (by omega), if_neg (by omega), if_pos hk]; rfl
      refine ⟨vNum t 0, n + 1, sz, ?_, sevOut_leaf HM.out H.out.h2 (HF1.out.trans HG.out.of0) (HG.out.keep HM1.out (fun e => e)) (by omega) (by omega) rfl rfl ⟨rfl, ?_⟩ (by rw [e1]; decide) (by rw [e2]; decide)⟩
      · rw [e1, e2]; rfl
      · rw [if_neg (by omega), if_neg (by omega), if_pos hk]
        exact ⟨rfl, rfl, .inl rfl⟩
  · have HG := hide ((Fr.alloc Zero w1 (.cells #[.int .u8 1] 5)).trans (Fr.drew Zero _))
    have l2 : (w1.alloc (.cells #[.int .u8 1] 5)).drew.cell? ⟨w.heap.size, 1, none⟩ = _ := (HG.out.cell (a := ⟨w.heap.size, 1, none⟩) hs1 (fun e => e)).trans l1
    have hcv : (convert 24 9 (.slice (some ⟨w1.heap.size, 0, none⟩) 1 1)).run Tryz.prog (w1.alloc (.cells #[.int .u8 1] 5)).drew = .ok (.string (ba [1])) (w1.alloc (.cells #[.int .u8 1] 5)).drew := conv_at (b := 1) (heap_new_at (w := w1) rfl _)
    go_wp2_with fail
    go_region
    all_goals
      go_wp2_with fail
      go_ret2
      have hk := HK.out
      have e1 : wText (k + 1) (vNum t 1) = wYes := by unfold vNum; rw [wText_mk, if_neg (by omega), if_pos hk]; rfl
      have e2 : wMsg (k + 1) (vNum t 1) = [1] := by unfold vNum; rw [wMsg_mk, if_neg (by omega), if_neg (by omega), if_pos hk]; rfl
      refine ⟨vNum t 1, n + 1, sz, ?_, sevOut_leaf HM.out H.out.h2 (HF1.out.trans HG.out.of0) (HG.out.keep HM1.out (fun e => e)) (by omega) (by omega) rfl rfl ⟨rfl, ?_⟩ (by rw [e1]; decide) (by rw [e2]; decide)⟩
      · rw [e1, e2]; rfl
      · rw [if_neg (by omega), if_neg (by omega), if_pos hk]
        exact ⟨rfl, rfl, .inr rfl⟩

end Go.Proofs.YtdcjogpkogidaaaGreatDoor.Q
end
section
namespace Go.Proofs.YtdcjogpkogidaaaGreatDoor.Q
open Go.RowKit

def wayK (k : Nat) (p : Bs) (T : PT) (num : Int) (vs : List PV) : List (Bs × Bs) := kids (fun j x => waysOf k (under p (stepOf T num j)) x) 0 vs
def numK (k : Nat) (st : Bs) (T : PT) (num : Int) (vs : List PV) : List (Bs × Int) := kids (fun j x => numsOf k (under st (starOf T num j)) x) 0 vs
theorem wayK_snoc (k : Nat) (p : Bs) (T : PT) (num : Int) (vs : List PV) (v : PV) : wayK k p T num (vs ++ [v]) = wayK k p T num vs ++ waysOf k (under p (stepOf T num vs.length)) v := by unfold wayK; rw [kids_snoc, Nat.zero_add]
theorem numK_snoc (k : Nat) (st : Bs) (T : PT) (num : Int) (vs : List PV) (v : PV) : numK k st T num (vs ++ [v]) = numK k st T num vs ++ numsOf k (under st (starOf T num vs.length)) v := by unfold numK; rw [kids_snoc, Nat.zero_add]

/-- Between two parts. -/
structure PInv (w wr : World) (B B2 mb : Nat) (tv : Value) (n : Nat) (ways : List (Bs × Bs)) (nums : List (Bs × Int)) (sz k : Nat) (T : PT) (sub : Nat → PT) (p st : Bs) (num : Int) (i : Nat) (vs : List PV) (n' sz' : Nat) (acc bacc : Bs) : Prop where
  len : vs.length = i
  val : ∀ j x, vs[j]? = some x → Valid k (sub j) x
  fr : Fr (MF mb B2) w wr
  tp : TapeAt wr B tv
  mz : MZ wr B2 mb tv n' (ways ++ wayK k p T num vs) (nums ++ numK k st T num vs) sz'
  ea : acc = wBetween (wText k) vs
  eb : bacc = vs.flatMap (wMsg k)
  cn : n' ≤ n + 1 + i * CM k
  cs : sz' ≤ sz + i * CM k
  ct : acc.length ≤ i * (CM k + 1)
  cm : bacc.length ≤ i * CM k
  ck : (wayK k p T num vs).length ≤ i * CM k
  cu : (numK k st T num vs).length ≤ i * CM k

section
variable {w wr w' : World} {B B2 mb n sz k i n1 sz1 : Nat} {tv : Value} {ways : List (Bs × Bs)} {nums : List (Bs × Int)} {T : PT} {sub : Nat → PT} {p st acc bacc : Bs} {num : Int} {vs : List PV}
theorem PInv.start (hf : Fr (MF mb B2) w wr) (ht : TapeAt wr B tv) (hm : MZ wr B2 mb tv n1 ways nums sz) (hn : n1 ≤ n + 1) : PInv w wr B B2 mb tv n ways nums sz k T sub p st num 0 [] n1 sz [] [] :=
  ⟨rfl, fun j x h => by simp at h, hf, ht, by simpa [wayK, numK, kids] using hm, rfl, rfl, by omega, by omega, by simp, by simp, by simp [wayK, kids], by simp [numK, kids]⟩
theorem PInv.quiet (h : PInv w wr B B2 mb tv n ways nums sz k T sub p st num i vs n1 sz1 acc bacc) (hf : Fr Zero wr w') : PInv w w' B B2 mb tv n ways nums sz k T sub p st num i vs n1 sz1 acc bacc := by
  obtain ⟨pv, qv, nv, hm⟩ := h.mz
  exact ⟨h.len, h.val, h.fr.trans hf.of0, h.tp.keep hf (fun _ _ e => e), ⟨pv, qv, nv, hm.quiet hf⟩, h.ea, h.eb, h.cn, h.cs, h.ct, h.cm, h.ck, h.cu⟩
theorem PInv.more (h : PInv w wr B B2 mb tv n ways nums sz k T sub p st num i vs n1 sz1 acc bacc) (hB : B ≤ mb) (hBB : B ≤ B2) {v : PV} {n2 sz2 : Nat} {pp ss : Bs} (hp : pp = under p (stepOf T num i)) (hs : ss = under st (starOf T num i))
    (ho : ValOut wr B2 mb tv n1 (ways ++ wayK k p T num vs) (nums ++ numK k st T num vs) sz1 k (sub i) pp ss v n2 sz2 w') :
    PInv w w' B B2 mb tv n ways nums sz k T sub p st num (i + 1) (vs ++ [v]) n2 sz2 (acc ++ (if i = 0 then [] else [44]) ++ wText k v) (bacc ++ wMsg k v) := by
  subst hp hs
  have hl := h.len
  have e1 : (i + 1) * CM k = i * CM k + CM k := Nat.succ_mul _ _
  have e2 : (i + 1) * (CM k + 1) = i * (CM k + 1) + (CM k + 1) := Nat.succ_mul _ _
  have c1 := h.cn
  have c2 := h.cs
  have c3 := h.ct
  have c4 := h.cm
  have c5 := h.ck
  have c6 := h.cu
  have d1 := ho.cn
  have d2 := ho.cs
  have d3 := ho.ct
  have d4 := ho.cm
  have d5 := ho.ck
  have d6 := ho.cu
  have w1 : wayK k p T num (vs ++ [v]) = wayK k p T num vs ++ waysOf k (under p (stepOf T num i)) v := by rw [wayK_snoc, hl]
  have w2 : numK k st T num (vs ++ [v]) = numK k st T num vs ++ numsOf k (under st (starOf T num i)) v := by rw [numK_snoc, hl]
  have e44 : (if i = 0 then ([] : Bs) else [44]).length ≤ 1 := by split <;> simp
  refine ⟨by simp [hl], fun j x hj => ?_, h.fr.trans ho.fr, h.tp.keep ho.fr (fun k hk e => ?_), ?_, ?_, ?_, by omega, by omega, ?_, ?_, ?_, ?_⟩
  · rcases Nat.lt_or_ge j vs.length with q | q
    · rw [List.getElem?_append_left q] at hj
      exact h.val j x hj
    · rw [List.getElem?_append_right q] at hj
      have hj1 := (List.getElem?_eq_some_iff.1 hj).1
      simp at hj1
      obtain rfl : j = i := by omega
      rw [hl, Nat.sub_self] at hj
      simp at hj
      subst hj
      exact ho.va
  · rcases e with e | e <;> omega
  · rw [w1, w2, ← List.append_assoc, ← List.append_assoc]
    exact ho.mz
  · rw [wBetween_more, hl, h.ea, List.append_assoc]
  · rw [h.eb]; simp
  · simp only [List.length_append]; omega
  · simp only [List.length_append]; omega
  · rw [w1, List.length_append]; omega
  · rw [w2, List.length_append]; omega
/-- All parts are there. -/
theorem PInv.out (h : PInv w wr B B2 mb tv n ways nums sz k T sub p st num i vs n1 sz1 acc bacc) (hi : i ≤ 3) (hk : ¬ T.kind ≤ 3) (hV : Valid (k + 1) T (vParts T num vs)) (ht : (wText (k + 1) (vParts T num vs)).length ≤ acc.length + 5) (hm : (wMsg (k + 1) (vParts T num vs)).length ≤ bacc.length + 5) :
    SevOut w B2 mb tv n ways nums sz k T p st (vParts T num vs) n1 sz1 wr := by
  have hc := CM_pos k
  have hcs := CM_succ k
  have e1 : i * CM k ≤ 3 * CM k := Nat.mul_le_mul_right _ hi
  have e2 : i * (CM k + 1) ≤ 3 * (CM k + 1) := Nat.mul_le_mul_right _ hi
  have c1 := h.cn
  have c2 := h.cs
  have c3 := h.ct
  have c4 := h.cm
  have c5 := h.ck
  have c6 := h.cu
  have k1 : kidsM k p (vParts T num vs) = wayK k p T num vs := rfl
  have k2 : numsOf (k + 1) st (vParts T num vs) = numK k st T num vs := by simp only [numsOf]; rw [if_neg (show ¬ (vParts T num vs).of.kind ≤ 3 from hk)]; rfl
  refine ⟨hV, h.fr, ?_, by omega, by omega, by omega, by omega, by rw [k1]; omega, by rw [k2]; omega⟩
  rw [k1, k2]
  exact h.mz
end

/-- The maker's rows stand in a maker's fields. -/
theorem PRow.val {w : World} {ty : TypeId} {c m : Nat} {v : Value} {xs : List Value} (h : PRow w ty c v m xs) : ∃ a cap, v = .slice a m cap := h.len

theorem infoStr : (Tryz.prog.info? 9).map (fun i => (i.zero, i.size, i.bytes)) = some (some (.string ⟨#[]⟩), 1, 16) := by kernel_rfl
theorem VRoom.value {n : Nat} {ways : List (Bs × Bs)} {nums : List (Bs × Int)} {sz k : Nat} {p st : Bs} (h : VRoom 0 n ways nums sz k p st) (x : Bs × Bs) : VRoom 1 n (ways ++ [x]) nums sz k p st :=
  ⟨h.n, by have := h.ways; simp; omega, h.nums, h.sz, h.p, h.st⟩
theorem VRoom.part {n n' : Nat} {ways more : List (Bs × Bs)} {nums mor : List (Bs × Int)} {sz sz' k i : Nat} {p st p' st' : Bs} (h : VRoom 1 n ways nums sz (k + 1) p st) (hi : i ≤ 2) (c1 : n' ≤ n + 1 + i * CM k) (c2 : sz' ≤ sz + i * CM k) (c3 : more.length ≤ i * CM k) (c4 : mor.length ≤ i * CM k) (h1 : p'.length ≤ p.length + 25) (h2 : st'.length ≤ st.length + 25) :
    VRoom 0 n' (ways ++ more) (nums ++ mor) sz' k p' st' := by
  have hc := CM_pos k
  have hcs := CM_succ k
  have e1 : i * CM k ≤ 2 * CM k := Nat.mul_le_mul_right _ hi
  have a1 := h.n
  have a2 := h.ways
  have a3 := h.nums
  have a4 := h.sz
  have a5 := h.p
  have a6 := h.st
  refine ⟨by omega, ?_, ?_, by omega, by omega, by omega⟩
  · rw [List.length_append]; omega
  · rw [List.length_append]; omega

set_option maxHeartbeats 16000000 in
set_option maxRecDepth 100000 in
theorem value_of {k : Nat} (HS : SevSaid k) : ValSaid (k + 1) := by
  intro w B B2 mb tv n ways nums sz a t p st h hr
  have hc := CM_pos k
  have hcs := CM_succ k
  have H := hide h
  have HR := hide hr
  have r2 := hr.ways
  have r4 := hr.sz
  obtain ⟨pv, qv, nv, hM⟩ := h.mz
  have h2 := h.h2
  have hlt := hM.lt
  have m2 := hM.bk.at2
  have hwl : (ways.map (·.1)).length = ways.length := by simp
  have hwq : (ways.map (·.2)).length = ways.length := by simp
  have hrp := hM.rp
  rw [hwl] at hrp
  have hrq := hM.rq
  rw [hwq] at hrq
  obtain ⟨pa, pc, hpv⟩ := hrp.len
  obtain ⟨qa, qc, hqv⟩ := hrq.len
  subst hpv hqv
  have HSRC : Hid (Src Tryz.prog 1 33 (.slice (some ⟨w.heap.size, 0, none⟩) 1 1) 1 [.string (ba p)] (w.alloc (.cells #[.string (ba p)] 9))) := src_one Tryz.underlying33 (heap_new_at rfl _) rfl
  have HM1 := hide (hM.quiet (Fr.alloc Zero w (.cells #[.string (ba p)] 9)))
  have HRP := hide (hrp.keep (Fr.alloc Zero w (.cells #[.string (ba p)] 9)) (fun _ _ e => e))
  have HSS := hide HS
  clear h hr hM HS hrp hrq
  go_enter Tryz.func14, Tryz.ntmps14
  go_wp2_with (at_builtin; refine wpList_pappend rfl (.tmp 22) (.tmp 24) 33 33 rfl Tryz.underlying33 infoStr rfl 1 [.string (ba p)] rfl rfl HRP.out HSRC.out ?hl9 ?h639 ?_)
  case hl9 => omega
  case h639 => omega
  intro v1 w1 hA1 hF1 hv1
  obtain ⟨hk1, hM2, hF2⟩ := HM1.out.addP (p := p) (by simp; omega) (by rw [hwl]; exact hA1) hF1 (by simpa using hv1)
  obtain ⟨va, vc, rfl⟩ := hA1.len
  have c1 := hk1.at2
  have f1 := hk1.free 2
  have l1 := hk1.lt
  have hs2 := hF2.size
  have c3 := hM2.bk.at3
  have hrq := hM2.rq
  rw [hwq] at hrq
  have HM2 := hide hM2
  have HF2 := hide ((Fr.alloc (MF mb B2) w (.cells #[.string (ba p)] 9)).trans hF2)
  have hs2' := HF2.out.size
  have HRQ := hide (hrq.keep (Fr.alloc Zero _ (.cells #[.string ⟨#[]⟩] 9)) (fun _ _ e => e))
  have HSR2 : Hid (Src Tryz.prog 1 33 (.slice (some ⟨w1.heap.size, 0, none⟩) 1 1) 1 [.string (ba [])] ((w1.setCell ⟨mb, 2, none⟩ (.slice va (ways.length + 1) vc)).alloc (.cells #[.string ⟨#[]⟩] 9))) := src_one Tryz.underlying33 (heap_new_at (by simp) _) rfl
  clear hA1 hF1 hv1 hk1 hM2 hF2 HM1 HSRC HRP hrq m2
  go_wp2_with (at_builtin; refine wpList_pappend rfl (.tmp 32) (.tmp 33) 33 33 rfl Tryz.underlying33 infoStr rfl 1 [.string (ba [])] rfl rfl HRQ.out HSR2.out ?hl8 ?h638 ?_)
  case hl8 => omega
  case h638 => omega
  intro v3 w3 hA3 hF3 hv3
  obtain ⟨hk3, hM4, hF4⟩ := (HM2.out.quiet (Fr.alloc Zero _ (.cells #[.string ⟨#[]⟩] 9))).addQ (p := []) (by simp at hs2' ⊢; omega) (by rw [hwq]; exact hA3) hF3 (by simpa using hv3)
  obtain ⟨xa, xc, rfl⟩ := hA3.len
  have d1 := hk3.at3
  have f3 := hk3.free 3
  have l3 := hk3.lt
  have HF4 := hide ((HF2.out.trans (Fr.alloc (MF mb B2) _ (.cells #[.string ⟨#[]⟩] 9))).trans hF4)
  have hs4 := HF4.out.size
  have HC := hide (HSS.out _ B B2 mb tv n (ways ++ [(p, [])]) nums sz a t p st ⟨⟨_, _, _, by simpa using hM4⟩, H.out.tp.keep HF4.out (fun k hk e => by have := H.out.hB; have := H.out.hBB; rcases e with e | e <;> omega), SRep.keep HF4.out _ _ _ H.out.sr, H.out.md, H.out.hB, H.out.hBB, Nat.le_trans h2 hs4⟩ (HR.out.value _))
  clear hA3 hF3 hv3 hk3 hM4 hF4 HM2 HF2 HRQ HSR2 c1 f1 c3
  go_wp2_with fail
  refine HC.out.mono ?_
  rintro e w5 ⟨v, n', sz', rfl, ho⟩
  obtain ⟨pv5, qv5, nv5, hM5⟩ := ho.mz
  have hM5' : MM w5 B2 mb tv n' (ways.map (·.1) ++ p :: (kidsM k p v).map (·.1)) (ways.map (·.2) ++ [] :: (kidsM k p v).map (·.2)) (nums ++ numsOf (k + 1) st v) sz' pv5 qv5 nv5 := by simpa using hM5
  obtain ⟨fb, off, cap, rfl, hc5, hf5, hM6, hF6⟩ := hM5'.setQ (q := wText (k + 1) v)
  rw [hwq] at hc5 hf5 hM6 hF6
  obtain ⟨L, hL⟩ : ∃ L, (ways.map (·.2) ++ [] :: (kidsM k p v).map (·.2)).length = L := ⟨_, rfl⟩
  have hLw : ways.length < L := by rw [← hL]; simp
  have hLI : (ways.length : Int) < (L : Int) := by omega
  rw [hL] at hM5' hM6
  have e3 := hM5'.bk.at3
  have e5 := hM6.bk.at5
  have ef := hM6.bk.free 5
  have l5 := hM5'.lt
  have lf := World.block_lt_of_cell? _ _ hc5
  have hsz : sz' + 10 ≤ sz + CM (k + 1) := ho.cs
  have HO := hide ho
  have HM6 := hide hM6
  have HF6 := hide hF6
  clear ho hM5 hM5' hM6 hF6 HC hL
  generalize hx : wText (k + 1) v = x at *
  have HX := hide hx
  clear hx
  go_wp2_with fail
  go_ret2
  have hb7 : MK ((w5.setCell ⟨fb, off + ways.length, none⟩ (.string (ba x))).setCell ⟨mb, 5, none⟩ (.int .i64 ((sz' : Int) + 1))) mb tv n' pv5 (.slice (some ⟨fb, off, none⟩) L cap) nv5 (sz' + 1) := by
    show _ = _
    rw [heap_setCell_same HM6.out.bk]
    rfl
  have hM7 := HM6.out.one (Fr.setCell (One mb) _ ⟨mb, 5, none⟩ _ rfl) hb7
  have hck := HO.out.ck
  refine ⟨v, n', sz' + 1, ?_, HO.out.va, (HF4.out.trans HO.out.fr).trans (HF6.out.trans (Fr.setCell _ _ _ _ (.inl rfl))), ⟨pv5, .slice (some ⟨fb, off, none⟩) L cap, nv5, ?_⟩, ?_, ?_, HO.out.ct, HO.out.cm, ?_, HO.out.cu⟩
  · rw [HX.out]; rfl
  · rw [waysOf_kids, HX.out]
    simpa using hM7
  · have := HO.out.cn; omega
  · omega
  · rw [waysOf_kids, List.length_cons]; omega

end Go.Proofs.YtdcjogpkogidaaaGreatDoor.Q
end
