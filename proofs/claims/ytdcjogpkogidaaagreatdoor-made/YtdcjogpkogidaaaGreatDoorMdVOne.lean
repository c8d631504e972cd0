/- How one of some words is read of a text. -/
import Derived.Deep.Cut
import Derived.Deep.CutRange
import Derived.Deep.RegionHeld3
import Derived.Test.YtdcjogpkogidaaaGreatDoorMdVReg
namespace Go.Proofs.YtdcjogpkogidaaaGreatDoor
open Go.RowKit

/-- The cells of a row of texts. -/
def sCells (ws : List Bs) : List Value := ws.map fun x => .string (ba x)

theorem prefix_slice (s p : Bs) (h : p.length ≤ s.length) : decide ((ba s).extract 0 p.length = ba p) = p.isPrefixOf s := by
  rw [Bool.eq_iff_iff, decide_eq_true_eq, List.isPrefixOf_iff_prefix]
  have e : ((ba s).extract 0 p.length).data.toList = s.take p.length := by
    simp only [ByteArray.data_extract, Array.toList_extract, List.extract_eq_take_drop, ba, List.toList_toArray]
    simp
  constructor
  · intro h'
    have := congrArg (fun b => b.data.toList) h'
    simp only [e, ba_list] at this
    exact ⟨s.drop p.length, by rw [← this, List.length_take, Nat.min_eq_left h, List.take_append_drop]⟩
  · rintro ⟨t, rfl⟩
    apply bytes_data
    rw [e, ba_list]
    simp

theorem hasPrefix0 (s p : Bs) (_hs : s.length ≤ maxLen) (w : World) :
    Calls Tryz.prog 222 #[.string (ba s), .string (ba p)] w fun e w' => e = .returned (.bool (p.isPrefixOf s)) ∧ Fr Zero w w' := by
  have h1 := ba_size s
  have h2 := ba_size p
  unfold maxLen at _hs
  by_cases hl : p.length ≤ s.length
  · have HP := hide (prefix_slice s p hl)
    have hI : ((p.length : Nat) : Int) ≤ ((s.length : Nat) : Int) := by omega
    go_enter Tryz.func222, Tryz.ntmps222
    go_wp2_with fail
    go_ret
    refine ⟨?_, Fr.refl _ _⟩
    have := HP.out
    rw [← strEq] at this
    rw [← this]
    rfl
  · have HP : Hid (p.isPrefixOf s = false) := by
      show _ = _
      rw [Bool.eq_false_iff]
      intro h
      rw [List.isPrefixOf_iff_prefix] at h
      exact hl h.length_le
    have hI : ¬ ((p.length : Nat) : Int) ≤ ((s.length : Nat) : Int) := by omega
    go_enter Tryz.func222, Tryz.ntmps222
    go_wp2_with fail
    go_ret
    refine ⟨?_, Fr.refl _ _⟩
    rw [HP.out]
    rfl

def idxV (o : Option Nat) : Value := .int .i64 (match o with | some i => (i : Int) | none => -1)

theorem findIdx_at {q : Bs → Bool} {ws : List Bs} {k : Nat} {p : Bs} (hp : ws[k]? = some p) (hq : q p = true) (hn : ∀ j y, j < k → ws[j]? = some y → q y = false) : ws.findIdx? q = some k := by
  obtain ⟨hk, he⟩ := List.getElem?_eq_some_iff.1 hp
  refine List.findIdx?_eq_some_iff_getElem.2 ⟨hk, by rw [he]; exact hq, fun j hj => ?_⟩
  rw [hn j ws[j] hj (by rw [List.getElem?_eq_getElem])]
  simp
theorem findIdx_no {q : Bs → Bool} {ws : List Bs} (hn : ∀ j y, j < ws.length → ws[j]? = some y → q y = false) : ws.findIdx? q = none := by
  rw [List.findIdx?_eq_none_iff]
  intro x hx
  obtain ⟨j, hj, he⟩ := List.getElem_of_mem hx
  exact hn j x hj (by rw [List.getElem?_eq_getElem hj, he])

set_option maxHeartbeats 1000000 in
theorem index_row (g cap : Nat) (ws : List Bs) (x : Bs) (w : World) (hl : ws.length ≤ 1000) (hown : w.ownsRow 0 9 1 (.slice (some ⟨g, 0, none⟩) ws.length cap) ws.length (sCells ws)) :
    Calls Tryz.prog 164 #[.slice (some ⟨g, 0, none⟩) ws.length cap, .string (ba x)] w fun e w' => e = .returned (idxV (ws.findIdx? (fun y => y == x))) ∧ Fr Zero w w' := by
  have hg : g < w.heap.size := (hown.lt g rfl).2
  have HO := hide hown
  clear hown
  go_enter Tryz.func164, Tryz.ntmps164
  go_wp2_with fail
  go_loopw [8] (fun i wr => ∃ k : Nat, k ≤ ws.length ∧ i = .int .i64 k ∧ Hid (∀ j y, j < k → ws[j]? = some y → (y == x) = false) ∧ Hid (Fr Zero w wr)) (fun i _ => ws.length - (intOf i).toNat)
  case atStart => exact ⟨0, by omega, rfl, fun j q hj => by omega, Fr.refl _ _⟩
  case round =>
    obtain ⟨k, hk, rfl, HN, HF⟩ := hrel
    by_cases hlt : k < ws.length
    · obtain ⟨p, hp⟩ : ∃ p, ws[k]? = some p := ⟨ws[k], by simp [hlt]⟩
      have hc0 : wr.cell? ⟨g, k, none⟩ = some (.string (ba p)) := by
        rw [HF.out.cell (a := ⟨g, k, none⟩) hg (by intro h; exact h), HO.out.cellAt k (by omega)]
        simp [sCells, hp]
      have HPp := hide hp
      clear hp
      by_cases hq : p = x
      · have hb : ((ba x).toList == (ba p).toList) = true := by rw [strEq]; simp [hq]
        have HQ := hide hq
        clear hq
        go_wp2_with fail
        go_ret
        refine ⟨?_, HF⟩
        rw [findIdx_at HPp.out (by simpa using HQ.out) HN]
        rfl
      · have hb : ((ba x).toList == (ba p).toList) = false := by
          rw [strEq]
          refine decide_eq_false (fun e => hq ?_)
          have := congrArg (fun b => b.data.toList) e
          simpa [ba] using this.symm
        have HQ := hide hq
        clear hq
        go_wp2_with fail
        refine ⟨⟨k + 1, by omega, by go_num, fun j y hj hy => ?_, HF⟩, by simp [intOf]; omega⟩
        by_cases e : j = k
        · subst e
          rw [HPp.out] at hy
          cases hy
          simpa using HQ.out
        · exact HN j y (by omega) hy
    · have hkl : k = ws.length := by omega
      subst hkl
      go_wp2_with fail
      go_ret
      refine ⟨?_, HF⟩
      rw [findIdx_no HN]
      rfl

theorem begins_any (b : Nat) (x p : Bs) (w : World) (hx : x.length ≤ maxLen) (hb : w.cell? ⟨b, 0, none⟩ = some (.string (ba p))) :
    Calls Tryz.prog 197 #[.string (ba x), .pointer (some ⟨b, 0, none⟩)] w fun e w' => e = .returned (.bool (p.isPrefixOf x)) ∧ Fr Zero w w' := by
  go_enter Tryz.func197, Tryz.ntmps197
  go_wp2_with fail
  refine Calls.mono (R := fun e w' => e = .returned (.bool (p.isPrefixOf x)) ∧ Fr Zero w w') ?_ ?_
  · go_enter Tryz.func198, Tryz.ntmps198
    go_wp2_with fail
    refine (hasPrefix0 x p hx _).mono ?_
    rintro e w1 ⟨rfl, hF⟩
    have HF := hide hF
    clear hF
    go_wp2_with fail
    go_ret
    exact ⟨rfl, HF⟩
  · rintro e w1 ⟨rfl, hF⟩
    have HF := hide hF
    clear hF
    go_wp2_with fail
    go_ret
    exact ⟨rfl, HF⟩

set_option maxHeartbeats 1000000 in
theorem indexFunc_row (g cap b : Nat) (ws : List Bs) (p : Bs) (w : World) (hl : ws.length ≤ 1000) (hx : ∀ x ∈ ws, x.length ≤ maxLen) (hb : w.cell? ⟨b, 0, none⟩ = some (.string (ba p))) (hbl : b < w.heap.size) (hown : w.ownsRow 0 9 1 (.slice (some ⟨g, 0, none⟩) ws.length cap) ws.length (sCells ws)) :
    Calls Tryz.prog 221 #[.slice (some ⟨g, 0, none⟩) ws.length cap, .func (Fn.func 197) #[] #[.pointer (some ⟨b, 0, none⟩)]] w fun e w' => e = .returned (idxV (ws.findIdx? (fun y => p.isPrefixOf y))) ∧ Fr Zero w w' := by
  have hg : g < w.heap.size := (hown.lt g rfl).2
  have HO := hide hown
  have HX := hide hx
  have HB := hide hb
  clear hown hx hb
  go_enter Tryz.func221, Tryz.ntmps221
  go_wp2_with fail
  go_loopw [8] (fun i wr => ∃ k : Nat, k ≤ ws.length ∧ i = .int .i64 k ∧ Hid (∀ j y, j < k → ws[j]? = some y → (p.isPrefixOf y) = false) ∧ Hid (Fr Zero w wr)) (fun i _ => ws.length - (intOf i).toNat)
  case atStart => exact ⟨0, by omega, rfl, fun j q hj => by omega, Fr.refl _ _⟩
  case round =>
    obtain ⟨k, hk, rfl, HN, HF⟩ := hrel
    by_cases hlt : k < ws.length
    · obtain ⟨x, hp⟩ : ∃ p, ws[k]? = some p := ⟨ws[k], by simp [hlt]⟩
      have hc0 : wr.cell? ⟨g, k, none⟩ = some (.string (ba x)) := by
        rw [HF.out.cell (a := ⟨g, k, none⟩) hg (by intro h; exact h), HO.out.cellAt k (by omega)]
        simp [sCells, hp]
      have HPp := hide hp
      clear hp
      go_wp2_with fail
      refine (begins_any b x p _ (HX x (List.mem_of_getElem? HPp)) ((HF.out.cell (a := ⟨b, 0, none⟩) hbl (by intro h; exact h)).trans HB)).mono ?_
      rintro e w1 ⟨rfl, hF1⟩
      have HF1 := hide (HF.out.trans hF1)
      clear hF1
      rcases hq : p.isPrefixOf x with _ | _
      · have HQ := hide hq
        clear hq
        go_wp2_with fail
        refine ⟨⟨k + 1, by omega, by go_num, fun j y hj hy => ?_, HF1⟩, by simp [intOf]; omega⟩
        by_cases e : j = k
        · subst e
          rw [HPp.out] at hy
          cases hy
          exact HQ
        · exact HN j y (by omega) hy
      · have HQ := hide hq
        clear hq
        go_wp2_with fail
        go_ret
        refine ⟨?_, HF1⟩
        rw [findIdx_at (q := fun y => p.isPrefixOf y) HPp.out HQ HN]
        rfl
    · have hkl : k = ws.length := by omega
      subst hkl
      go_wp2_with fail
      go_ret
      refine ⟨?_, HF⟩
      rw [findIdx_no (q := fun y => p.isPrefixOf y) HN]
      rfl

theorem any_findIdx {q : Bs → Bool} (ws : List Bs) : (ws.findIdx? q).isSome = ws.any q := by
  rw [Bool.eq_iff_iff, List.any_eq_true]
  constructor
  · intro h
    obtain ⟨i, hi⟩ := Option.isSome_iff_exists.1 h
    obtain ⟨hi', he, _⟩ := List.findIdx?_eq_some_iff_getElem.1 hi
    exact ⟨ws[i], List.getElem_mem _, he⟩
  · rintro ⟨x, hx, hq⟩
    rcases h : ws.findIdx? q with _ | i
    · rw [List.findIdx?_eq_none_iff] at h
      have := h x hx
      rw [hq] at this
      cases this
    · rfl

set_option maxHeartbeats 1000000 in
theorem anyBegins_row (g cap : Nat) (ws : List Bs) (p : Bs) (w : World) (hl : ws.length ≤ 1000) (hx : ∀ x ∈ ws, x.length ≤ maxLen) (hown : w.ownsRow 0 9 1 (.slice (some ⟨g, 0, none⟩) ws.length cap) ws.length (sCells ws)) :
    Calls Tryz.prog 166 #[.slice (some ⟨g, 0, none⟩) ws.length cap, .string (ba p)] w fun e w' => e = .returned (.bool (ws.any (fun y => p.isPrefixOf y))) ∧ Fr Zero w w' := by
  have HO := hide hown
  have HX := hide hx
  clear hown hx
  go_enter Tryz.func166, Tryz.ntmps166
  go_wp2_with fail
  refine Calls.mono (R := fun e w' => e = .returned (.bool (ws.any (fun y => p.isPrefixOf y))) ∧ Fr Zero (w.alloc (.cells #[.string (ba p)] 9)) w') ?_ ?_
  · go_enter Tryz.func196, Tryz.ntmps196
    go_wp2_with fail
    refine (indexFunc_row g cap w.heap.size ws p _ hl HX (by rw [cell_of_heap (heap_new_at rfl _)]; rfl) (by simp) (HO.out.alloc _)).mono ?_
    rintro e w1 ⟨rfl, hF⟩
    have HF := hide hF
    have HA := hide (any_findIdx (q := fun y => p.isPrefixOf y) ws)
    clear hF
    rcases hq : ws.findIdx? (fun y => p.isPrefixOf y) with _ | i
    · rw [hq] at HA
      simp only [idxV]
      clear hq
      go_wp2_with fail
      go_ret
      exact ⟨by rw [← HA.out]; rfl, HF⟩
    · rw [hq] at HA
      simp only [idxV]
      clear hq
      go_wp2_with fail
      go_ret
      exact ⟨by rw [← HA.out]; rfl, HF⟩
  · rintro e w1 ⟨rfl, hF⟩
    have HF := hide hF
    clear hF
    go_wp2_with fail
    go_ret
    exact ⟨rfl, (Fr.alloc Zero w _).trans HF⟩

theorem ba_append (x y : Bs) : ba x ++ ba y = ba (x ++ y) := by
  apply bytes_data
  simp [ba]
theorem RB.same {ty : TypeId} {w w' : World} {rb : Nat} {s : ByteArray} {l : Bs} (h : RB ty w rb s l) (e : w'.heap = w.heap) : RB ty w' rb s l := ⟨h.len, h.tail, by rw [e]; exact h.block⟩
theorem owns_same {w w' : World} {base : Nat} {e : TypeId} {size : Nat} {v : Value} {n : Nat} {xs : List Value} (h : w.ownsRow base e size v n xs) (he : w'.heap = w.heap) : w'.ownsRow base e size v n xs := by
  refine ⟨h.1, ?_⟩
  rcases h.2 with h' | ⟨g, cap, cur, hv, hb, hg, r⟩
  · exact .inl h'
  · exact .inr ⟨g, cap, cur, hv, hb, by rw [he]; exact hg, r⟩
theorem Fr.drew (X : Nat → Prop) (w : World) : Fr X w w.drew := ⟨rfl, rfl, rfl, Nat.le_refl _, fun _ _ _ => rfl⟩
theorem conv_at {b : UInt8} {k : Nat} {w : World} (h : w.heap[k]? = some (.cells #[.int .u8 b.toNat] 5 (0, 0))) : (convert 24 9 (.slice (some ⟨k, 0, none⟩) 1 1)).run Tryz.prog w = .ok (.string (ba [b])) w := by
  refine run_convert_bytes_back (P := Tryz.prog) _ 24 9 5 ⟨k, 0, none⟩ 1 [b] Tryz.underlying24 Tryz.underlying5 Tryz.underlying9 (fun j hj => ?_)
  have : j = 0 := by simp at hj; omega
  subst this
  show w.cell? ⟨k, 0, none⟩ = _
  rw [cell_of_heap h]; rfl

set_option maxHeartbeats 40000000 in
set_option maxRecDepth 100000 in
theorem oneOf_any {ty : TypeId} {w : World} {rb : Nat} {s : ByteArray} {l : Bs} (g cap : Nat) (ws : List Bs) (hl : ws.length ≤ 1000) (hx : ∀ x ∈ ws, x.length ≤ 1000) (hown : w.ownsRow 0 9 1 (.slice (some ⟨g, 0, none⟩) ws.length cap) ws.length (sCells ws)) (hgr : g ≠ rb)
    (h : RB ty w rb s l) (hs : s.size ≤ maxLen) :
    Calls Tryz.prog 112 #[.pointer (some ⟨rb, 0, none⟩), .slice (some ⟨g, 0, none⟩) ws.length cap] w fun e w' => NumPost ty w rb s ((rOne ws [] l).1.map Int.ofNat, (rOne ws [] l).2) e w' := by
  have HR := hide h
  have HO := hide hown
  have HX := hide hx
  have hll := h.len
  have HT := hide h.tail
  clear hown h hx
  go_enter Tryz.func112, Tryz.ntmps112
  go_wp2_with fail
  refine (vAt HR).mono ?_
  rintro e w1 ⟨rfl, e1⟩
  obtain rfl := e1.symm
  go_wp2_with fail
  go_loopw [] (fun wr => ∃ (got r : Bs), l = got ++ r ∧ Hid (rOne ws [] l = rOne ws got r) ∧ Hid (RB ty wr rb s r) ∧ Hid (Fr (One rb) w wr)) (fun wr => s.size + 1 - placeR rb wr)
  case atStart => exact ⟨[], l, rfl, rfl, HR, Fr.refl _ _⟩
  case round =>
    obtain ⟨got, r, hgot, HD, HRr, HF⟩ := hrel
    have HO1 := hide (ownsRow_keep HO.out HF (fun g' hg' e => by simp [Value.ownBlock] at hg'; have e' : g' = rb := e; omega))
    subst hgot
    go_wp2_with fail
    refine (vSince HRr hs hll HT).mono ?_
    rintro e w2 ⟨rfl, hR2, hF2⟩
    have HR2 := hide hR2
    have HF2 := hide (HF.out.trans hF2)
    have HO2 := hide (ownsRow_keep HO1.out hF2 (fun g' hg' e => by simp [Value.ownBlock] at hg'; have e' : g' = rb := e; omega))
    clear hR2 hF2
    go_wp2_with fail
    refine (index_row g cap ws got _ hl HO2).mono ?_
    rintro e w3 ⟨rfl, hF3⟩
    have HF3 := hide (HF2.out.trans hF3.of0)
    have HR3 := hide (HR2.out.keep hF3 (fun h => h))
    have HO3 := hide (ownsRow_keep HO2.out hF3 (fun g' _ h => h))
    clear hF3
    rcases hq : ws.findIdx? (fun y => y == got) with _ | i
    · simp only [idxV]
      rcases r with _ | ⟨b, r⟩
      · have HE : Hid (rOne ws [] (got ++ []) = (none, [])) := HD.out.trans (by simp only [rOne]; rw [hq])
        clear hq
        go_wp2_with fail
        refine (vPeek_no HR3 hs).mono ?_
        rintro e w4 ⟨rfl, hR4, hF4⟩
        have HR4 := hide hR4
        have HF4 := hide (HF3.out.trans hF4)
        clear hR4 hF4
        go_wp2_with fail
        go_quiet (fail)
        go_wp2_with fail
        go_ret2
        rw [HE.out]
        exact ⟨HF4.out.trans (Fr.drewN _ _ _), HR4.out.drewN _, 0, rfl, fun x hx => by simp at hx⟩
      · go_wp2_with fail
        refine (vPeek_yes HR3 hs).mono ?_
        rintro e w4 ⟨rfl, hR4, hF4⟩
        have HR4 := hide hR4
        have HF4 := hide (HF3.out.trans hF4)
        have HO4 := hide (ownsRow_keep HO3.out hF4 (fun g' hg' e => by simp [Value.ownBlock] at hg'; have e' : g' = rb := e; omega))
        clear hR4 hF4
        have happ := ba_append got [b]
        have hcv : ∀ (W : World) (k : Nat), k = W.heap.size → (convert 24 9 (.slice (some ⟨k, 0, none⟩) 1 1)).run Tryz.prog (W.alloc (.cells #[.int .u8 b.toNat] 5)) = .ok (.string (ba [b])) (W.alloc (.cells #[.int .u8 b.toNat] 5)) := fun W k e => conv_at (by rw [e]; exact heap_new_at rfl _)
        have hcw : ∀ (W : World) (k : Nat), k = W.heap.size → (convert 24 9 (.slice (some ⟨k, 0, none⟩) 1 1)).run Tryz.prog (W.alloc (.cells #[.int .u8 b.toNat] 5)).drew = .ok (.string (ba [b])) (W.alloc (.cells #[.int .u8 b.toNat] 5)).drew := fun W k e => conv_at (by rw [e]; exact heap_new_at rfl _)
        have hz1 := ba_size got
        have HXL : Hid (∀ x ∈ ws, x.length ≤ maxLen) := fun x hx => by have := HX.out x hx; unfold maxLen; omega
        have hz2 : (ba [b]).size = 1 := ba_size [b]
        have hgl : got.length + 1 ≤ 9223372036854775807 := by unfold maxLen at hs; simp at hll; omega
        have hgI : ((got.length : Nat) : Int) + 1 ≤ 9223372036854775807 := by omega
        have hgN : ¬ (9223372036854775807 < got.length + 1) := by omega
        go_wp2_with fail
        go_cut [47] from 15 to 52 (fun bv wx => bv = .bool (!(ws.any (fun x => (got ++ [b]).isPrefixOf x))) ∧ Hid (RB ty wx rb s (b :: r)) ∧ Hid (Fr (One rb) w wx))
        case first =>
          refine wp_region_held_drew (S := fun _ => True) (by kernel_rfl) trivial (fun hT => ?_)
          refine wtake0 (by kernel_rfl) (by kernel_rfl) (by kernel_rfl) (fun _ _ _ h => h) (Or.inl ⟨by rfl, fun W _ => by go_simp; try with_reducible rfl⟩) trivial ?_
          try simp only [Act.put, List.setIfInBounds_toArray, List.set_cons_zero, List.set_cons_succ]
          refine wtake1 (by kernel_rfl) (by kernel_rfl) (by kernel_rfl) (fun _ _ _ h => h) (Or.inl ⟨by rfl, fun W _ => by go_simp; try with_reducible rfl⟩) trivial ?_
          try simp only [Act.put, List.setIfInBounds_toArray, List.set_cons_zero, List.set_cons_succ]
          refine wtake2 (by kernel_rfl) (by kernel_rfl) (by kernel_rfl) (fun _ _ _ h => h) (Or.inl ⟨by rfl, fun W _ => by go_simp; try with_reducible rfl⟩) trivial ?_
          try simp only [Act.put, List.setIfInBounds_toArray, List.set_cons_zero, List.set_cons_succ]
          refine wtake3 (by kernel_rfl) (by kernel_rfl) (by kernel_rfl) (fun _ _ _ h => h) (Or.inl ⟨by rfl, fun W _ => by go_simp; try with_reducible rfl⟩) trivial ?_
          try simp only [Act.put, List.setIfInBounds_toArray, List.set_cons_zero, List.set_cons_succ]
          refine wtake4 (by kernel_rfl) (by kernel_rfl) (by kernel_rfl) (fun _ _ _ h => h) (Or.inl ⟨by rfl, fun W _ => by go_simp; try with_reducible rfl⟩) trivial ?_
          try simp only [Act.put, List.setIfInBounds_toArray, List.set_cons_zero, List.set_cons_succ]
          refine wtake5 (by kernel_rfl) (by kernel_rfl) (by kernel_rfl) (fun _ _ _ h => h) (Or.inl ⟨by rfl, fun W _ => by go_simp; try with_reducible rfl⟩) trivial ?_
          try simp only [Act.put, List.setIfInBounds_toArray, List.set_cons_zero, List.set_cons_succ]
          refine wtake6 (by kernel_rfl) (by kernel_rfl) (by kernel_rfl) (fun _ _ _ h => h) (Or.inl ⟨by rfl, fun W _ => by go_simp; try with_reducible rfl⟩) trivial ?_
          try simp only [Act.put, List.setIfInBounds_toArray, List.set_cons_zero, List.set_cons_succ]
          refine wtake7 (by kernel_rfl) (by kernel_rfl) (by kernel_rfl) (fun _ _ _ h => h) (Or.inl ⟨by rfl, fun W _ => by go_simp; try with_reducible rfl⟩) trivial ?_
          try simp only [Act.put, List.setIfInBounds_toArray, List.set_cons_zero, List.set_cons_succ]
          refine wtake9 (by kernel_rfl) (by kernel_rfl) (by kernel_rfl) (fun _ _ _ h => h) (Or.inl ⟨by rfl, fun W _ => by go_simp; try with_reducible rfl⟩) trivial ?_
          try simp only [Act.put, List.setIfInBounds_toArray, List.set_cons_zero, List.set_cons_succ]
          refine wpAnyH_ready (rs := [8, 10]) (by kernel_rfl) (by simp) ?_
          refine wcons8 (fun K hK => ?_) (wcons10 (fun K hK => ?_) AllReadyH.nil)
          · go_simp; refine (vSince (by exact HR4.out.same rfl) hs hll HT).mono ?_; rintro e w5 ⟨rfl, hR5, hF5⟩; have HR5 := hide hR5; have HF5 : Hid (Fr (One rb) w w5) := (HF4.out.trans (Fr.drew _ _)).trans hF5; have HO5 := hide (ownsRow_keep (by exact owns_same HO4.out rfl) hF5 (fun g' hg' e => by simp [Value.ownBlock] at hg'; have e' : g' = rb := e; omega)); clear hR5 hF5; go_wp2_with fail
            refine hK.out _ _ trivial (fun _ => ?_)
            clear hK K
            try simp only [Act.put, List.setIfInBounds_toArray, List.set_cons_zero, List.set_cons_succ]
            refine wpAnyH_ready (rs := [10]) (by kernel_rfl) (by simp) ?_
            refine wcons10 (fun K hK => ?_) AllReadyH.nil
            go_simp
            refine hK.out _ _ trivial (fun _ => ?_)
            clear hK K
            try simp only [Act.put, List.setIfInBounds_toArray, List.set_cons_zero, List.set_cons_succ]
            refine wpAnyH_ready (rs := [11]) (by kernel_rfl) (by simp) ?_
            refine wcons11 (fun K hK => ?_) AllReadyH.nil
            go_simp
            refine hK.out _ _ trivial (fun _ => ?_)
            clear hK K
            try simp only [Act.put, List.setIfInBounds_toArray, List.set_cons_zero, List.set_cons_succ]
            refine wpAnyH_ready (rs := [12]) (by kernel_rfl) (by simp) ?_
            refine wcons12 (fun K hK => ?_) AllReadyH.nil
            go_simp
            refine hK.out _ _ trivial (fun _ => ?_)
            clear hK K
            try simp only [Act.put, List.setIfInBounds_toArray, List.set_cons_zero, List.set_cons_succ]
            refine wpAnyH_ready (rs := [13]) (by kernel_rfl) (by simp) ?_
            refine wcons13 (fun K hK => ?_) AllReadyH.nil
            go_simp; refine (anyBegins_row g cap ws (got ++ [b]) _ hl HXL (by exact owns_same (HO5.out.alloc (.cells #[.int .u8 b.toNat] 5)) rfl)).mono ?_; rintro e w6 ⟨rfl, hF6⟩; have HF6 : Hid (Fr (One rb) w w6) := (HF5.out.trans (Fr.alloc _ w5 (.cells #[.int .u8 b.toNat] 5))).trans (Fr.of0 hF6); have HR6 : Hid (RB ty w6 rb s (b :: r)) := (HR5.out.keep (Fr.alloc Zero w5 (.cells #[.int .u8 b.toNat] 5)) (fun h => h)).keep hF6 (fun h => h); clear hF6; go_wp2_with fail
            refine hK.out _ _ trivial (fun _ => ?_)
            clear hK K
            try simp only [Act.put, List.setIfInBounds_toArray, List.set_cons_zero, List.set_cons_succ]
            refine wpAnyH_ready (rs := [14]) (by kernel_rfl) (by simp) ?_
            refine wcons14 (fun K hK => ?_) AllReadyH.nil
            go_simp
            refine hK.out _ _ trivial (fun _ => ?_)
            clear hK K
            try simp only [Act.put, List.setIfInBounds_toArray, List.set_cons_zero, List.set_cons_succ]
            refine wpAnyH_ready (rs := [15]) (by kernel_rfl) (by simp) ?_
            refine wcons15 (fun K hK => ?_) AllReadyH.nil
            go_simp
            refine hK.out _ _ trivial (fun _ => ?_)
            clear hK K
            try simp only [Act.put, List.setIfInBounds_toArray, List.set_cons_zero, List.set_cons_succ]
            refine wpAnyH_done (by kernel_rfl) ?_ _
            go_wp2_with fail
            go_meet
            exact ⟨rfl, HR6, HF6⟩
          · go_simp
            refine hK.out _ _ trivial (fun _ => ?_)
            clear hK K
            try simp only [Act.put, List.setIfInBounds_toArray, List.set_cons_zero, List.set_cons_succ]
            refine wpAnyH_ready (rs := [8, 11]) (by kernel_rfl) (by simp) ?_
            refine wcons8 (fun K hK => ?_) (wcons11 (fun K hK => ?_) AllReadyH.nil)
            · go_simp; refine (vSince (by exact (HR4.out.keep (Fr.alloc Zero w4 (.cells #[.int .u8 b.toNat] 5)) (fun h => h)).same rfl) hs hll HT).mono ?_; rintro e w5 ⟨rfl, hR5, hF5⟩; have HR5 := hide hR5; have HF5 : Hid (Fr (One rb) w w5) := HF4.out.trans ((Fr.alloc _ w4 (.cells #[.int .u8 b.toNat] 5)).trans ((Fr.drew _ _).trans hF5)); have HO5 := hide (ownsRow_keep (by exact owns_same (HO4.out.alloc (.cells #[.int .u8 b.toNat] 5)) rfl) hF5 (fun g' hg' e => by simp [Value.ownBlock] at hg'; have e' : g' = rb := e; omega)); have hc5 := conv_at (hF5.keep (b := w4.heap.size) (heap_new_at (w := w4) rfl (.cells #[.int .u8 b.toNat] 5)) (fun e => by have e' : w4.heap.size = rb := e; have := HR4.out.lt; omega)); clear hR5 hF5; go_wp2_with fail
              refine hK.out _ _ trivial (fun _ => ?_)
              clear hK K
              try simp only [Act.put, List.setIfInBounds_toArray, List.set_cons_zero, List.set_cons_succ]
              refine wpAnyH_ready (rs := [11]) (by kernel_rfl) (by simp) ?_
              refine wcons11 (fun K hK => ?_) AllReadyH.nil
              go_simp
              refine hK.out _ _ trivial (fun _ => ?_)
              clear hK K
              try simp only [Act.put, List.setIfInBounds_toArray, List.set_cons_zero, List.set_cons_succ]
              refine wpAnyH_ready (rs := [12]) (by kernel_rfl) (by simp) ?_
              refine wcons12 (fun K hK => ?_) AllReadyH.nil
              go_simp
              refine hK.out _ _ trivial (fun _ => ?_)
              clear hK K
              try simp only [Act.put, List.setIfInBounds_toArray, List.set_cons_zero, List.set_cons_succ]
              refine wpAnyH_ready (rs := [13]) (by kernel_rfl) (by simp) ?_
              refine wcons13 (fun K hK => ?_) AllReadyH.nil
              go_simp; refine (anyBegins_row g cap ws (got ++ [b]) _ hl HXL (by exact owns_same HO5.out rfl)).mono ?_; rintro e w6 ⟨rfl, hF6⟩; have HF6 : Hid (Fr (One rb) w w6) := HF5.out.trans (Fr.of0 hF6); have HR6 : Hid (RB ty w6 rb s (b :: r)) := HR5.out.keep hF6 (fun h => h); clear hF6; go_wp2_with fail
              refine hK.out _ _ trivial (fun _ => ?_)
              clear hK K
              try simp only [Act.put, List.setIfInBounds_toArray, List.set_cons_zero, List.set_cons_succ]
              refine wpAnyH_ready (rs := [14]) (by kernel_rfl) (by simp) ?_
              refine wcons14 (fun K hK => ?_) AllReadyH.nil
              go_simp
              refine hK.out _ _ trivial (fun _ => ?_)
              clear hK K
              try simp only [Act.put, List.setIfInBounds_toArray, List.set_cons_zero, List.set_cons_succ]
              refine wpAnyH_ready (rs := [15]) (by kernel_rfl) (by simp) ?_
              refine wcons15 (fun K hK => ?_) AllReadyH.nil
              go_simp
              refine hK.out _ _ trivial (fun _ => ?_)
              clear hK K
              try simp only [Act.put, List.setIfInBounds_toArray, List.set_cons_zero, List.set_cons_succ]
              refine wpAnyH_done (by kernel_rfl) ?_ _
              go_wp2_with fail
              go_meet
              exact ⟨rfl, HR6, HF6⟩
            · go_simp
              refine hK.out _ _ trivial (fun _ => ?_)
              clear hK K
              try simp only [Act.put, List.setIfInBounds_toArray, List.set_cons_zero, List.set_cons_succ]
              refine wpAnyH_ready (rs := [8]) (by kernel_rfl) (by simp) ?_
              refine wcons8 (fun K hK => ?_) AllReadyH.nil
              go_simp; refine (vSince (by exact (HR4.out.keep (Fr.alloc Zero w4 (.cells #[.int .u8 b.toNat] 5)) (fun h => h)).same rfl) hs hll HT).mono ?_; rintro e w5 ⟨rfl, hR5, hF5⟩; have HR5 := hide hR5; have HF5 : Hid (Fr (One rb) w w5) := HF4.out.trans ((Fr.alloc _ w4 (.cells #[.int .u8 b.toNat] 5)).trans ((Fr.drew _ _).trans hF5)); have HO5 := hide (ownsRow_keep (by exact owns_same (HO4.out.alloc (.cells #[.int .u8 b.toNat] 5)) rfl) hF5 (fun g' hg' e => by simp [Value.ownBlock] at hg'; have e' : g' = rb := e; omega)); have hc5 := conv_at (hF5.keep (b := w4.heap.size) (heap_new_at (w := w4) rfl (.cells #[.int .u8 b.toNat] 5)) (fun e => by have e' : w4.heap.size = rb := e; have := HR4.out.lt; omega)); clear hR5 hF5; go_wp2_with fail
              refine hK.out _ _ trivial (fun _ => ?_)
              clear hK K
              try simp only [Act.put, List.setIfInBounds_toArray, List.set_cons_zero, List.set_cons_succ]
              refine wpAnyH_ready (rs := [12]) (by kernel_rfl) (by simp) ?_
              refine wcons12 (fun K hK => ?_) AllReadyH.nil
              go_simp
              refine hK.out _ _ trivial (fun _ => ?_)
              clear hK K
              try simp only [Act.put, List.setIfInBounds_toArray, List.set_cons_zero, List.set_cons_succ]
              refine wpAnyH_ready (rs := [13]) (by kernel_rfl) (by simp) ?_
              refine wcons13 (fun K hK => ?_) AllReadyH.nil
              go_simp; refine (anyBegins_row g cap ws (got ++ [b]) _ hl HXL (by exact owns_same HO5.out rfl)).mono ?_; rintro e w6 ⟨rfl, hF6⟩; have HF6 : Hid (Fr (One rb) w w6) := HF5.out.trans (Fr.of0 hF6); have HR6 : Hid (RB ty w6 rb s (b :: r)) := HR5.out.keep hF6 (fun h => h); clear hF6; go_wp2_with fail
              refine hK.out _ _ trivial (fun _ => ?_)
              clear hK K
              try simp only [Act.put, List.setIfInBounds_toArray, List.set_cons_zero, List.set_cons_succ]
              refine wpAnyH_ready (rs := [14]) (by kernel_rfl) (by simp) ?_
              refine wcons14 (fun K hK => ?_) AllReadyH.nil
              go_simp
              refine hK.out _ _ trivial (fun _ => ?_)
              clear hK K
              try simp only [Act.put, List.setIfInBounds_toArray, List.set_cons_zero, List.set_cons_succ]
              refine wpAnyH_ready (rs := [15]) (by kernel_rfl) (by simp) ?_
              refine wcons15 (fun K hK => ?_) AllReadyH.nil
              go_simp
              refine hK.out _ _ trivial (fun _ => ?_)
              clear hK K
              try simp only [Act.put, List.setIfInBounds_toArray, List.set_cons_zero, List.set_cons_succ]
              refine wpAnyH_done (by kernel_rfl) ?_ _
              go_wp2_with fail
              go_meet
              exact ⟨rfl, HR6, HF6⟩
        case rest =>
          obtain ⟨rfl, HR6, HF6⟩ := hcut
          have HSTEP : Hid (rOne ws [] (got ++ b :: r) = if ws.any (fun x => (got ++ [b]).isPrefixOf x) then rOne ws (got ++ [b]) r else (none, b :: r)) := HD.out.trans (by simp only [rOne]; rw [hq])
          have HPC := hide HRr.out.place
          have hlr := HR6.out.len
          clear HD hq happ hcv hcw hz1 hz2 hgl hgI hgN
          rcases hany : ws.any (fun x => (got ++ [b]).isPrefixOf x) with _ | _
          · rw [hany] at HSTEP
            have HE : Hid (rOne ws [] (got ++ b :: r) = (none, b :: r)) := HSTEP
            clear hany HSTEP
            go_wp2_with fail
            go_ret2
            rw [HE.out]
            exact ⟨HF6, HR6, 0, rfl, fun x hx => by simp at hx⟩
          · rw [hany] at HSTEP
            have HE : Hid (rOne ws [] (got ++ b :: r) = rOne ws (got ++ [b]) r) := HSTEP
            clear hany HSTEP
            go_wp2_with fail
            refine (vStep (a := [b]) HR6 hs 1 rfl).mono ?_
            rintro e w7 ⟨rfl, hR7, hF7⟩
            have HR7 := hide hR7
            have HF7 := hide (HF6.out.trans hF7)
            have HPC7 := hide hR7.place
            clear hR7 hF7
            go_wp2_with fail
            refine ⟨⟨got ++ [b], r, by simp, HE, HR7, HF7⟩, ?_⟩
            rw [HPC.out, HPC7.out]
            simp only [pos, List.length_cons]
            simp only [List.length_cons] at hlr
            omega
    · have HE : Hid (rOne ws [] (got ++ r) = (some i, r)) := HD.out.trans (by cases r with
        | nil => simp only [rOne]; rw [hq]
        | cons b r => simp only [rOne]; rw [hq])
      simp only [idxV]
      have hi : i < ws.length := (List.findIdx?_eq_some_iff_getElem.1 hq).1
      clear hq
      go_wp2_with fail
      go_ret2
      rw [HE.out]
      exact ⟨HF3, HR3, i, rfl, fun x hx => by simp at hx; subst hx; rfl⟩

end Go.Proofs.YtdcjogpkogidaaaGreatDoor
