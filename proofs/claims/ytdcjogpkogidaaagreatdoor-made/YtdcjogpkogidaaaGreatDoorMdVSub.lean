/- How what is made of parts is read of a text. -/
import Derived.Test.YtdcjogpkogidaaaGreatDoorMdVHex
import Derived.Test.YtdcjogpkogidaaaGreatDoorMdDPure
import Derived.Test.YtdcjogpkogidaaaGreatDoorMdVOne
section
namespace Go.Proofs.YtdcjogpkogidaaaGreatDoor
open Go.RowKit

theorem conv_new (d : Nat) (hd : d < 256) (W : World) (k : Nat) (x : Int) (hx : x = d) (hk : k = W.heap.size) :
    (convert 24 9 (.slice (some ⟨k, 0, none⟩) 1 1)).run Tryz.prog (W.alloc (.cells #[.int .u8 x] 5)) = .ok (.string (ba [UInt8.ofNat d])) (W.alloc (.cells #[.int .u8 x] 5)) := by
  refine conv_at (b := UInt8.ofNat d) ?_
  rw [hk, toNat_ofNat hd, ← hx]
  exact heap_new_at rfl _

theorem u64_abs {n : Int} (h1 : -9223372036854775808 ≤ n) (hn : n < 0) : IntKind.u64.wrap (-IntKind.u64.wrap n) = (n.natAbs : Int) := by
  simp only [IntKind.wrap, IntKind.bits, IntKind.signed]
  simp
  omega
theorem u64_pos {n : Int} (hn : ¬ n < 0) (h2 : n ≤ 9223372036854775807) : IntKind.u64.wrap n = (n.natAbs : Int) := by
  simp only [IntKind.wrap, IntKind.bits, IntKind.signed]
  simp
  omega

/-- The digits of a number, one by one from the last. -/
def Digs (N m : Nat) (acc : Bs) : Prop := m < 10 ^ 20 ∧ decN 20 N = decN 20 m ++ acc
theorem Digs.more {N m : Nat} {acc : Bs} (h : Digs N m acc) (hm : 9 < m) : Digs N (m / 10) (UInt8.ofNat (48 + m % 10) :: acc) := by
  obtain ⟨h1, h2⟩ := h
  refine ⟨by omega, ?_⟩
  rw [h2]
  have := decN_step (a := m / 10) (d := m % 10) (by omega) (by omega) (by omega)
  rw [show m / 10 * 10 + m % 10 = m by omega] at this
  rw [this]
  simp
theorem Digs.last {N m : Nat} {acc : Bs} (h : Digs N m acc) (hm : m ≤ 9) : decN 20 N = UInt8.ofNat (48 + m) :: acc := by
  rw [h.2, decN_one (by omega)]; rfl
theorem Digs.len {N m : Nat} {acc : Bs} (h : Digs N m acc) : acc.length ≤ 20 := by
  have := congrArg List.length h.2
  have h2 := decN_len 20 N
  simp at this
  omega

end Go.Proofs.YtdcjogpkogidaaaGreatDoor
end
section
namespace Go.Proofs.YtdcjogpkogidaaaGreatDoor
open Go.RowKit

theorem Tryz.info69 : (Tryz.prog.info? 96).map (fun i => (i.zero, i.size, i.bytes)) = some (some (.agg #[.pointer none, .int .i64 0, .string ⟨#[]⟩, .slice none 0 0]), 4, 56) := by kernel_rfl

/-- What a reader of a value leaves. -/
def ValPost (ty : TypeId) (w : World) (X : Nat → Prop) (rb : Nat) (s : ByteArray) (res : Option PV × Bs) (e : Ending) (w' : World) : Prop :=
  Fr (One rb) w w' ∧ RB ty w' rb s res.2 ∧ ∃ c : VC, (∃ o n k, c.sv = .slice o n k) ∧ e = .returned (.tuple #[c.val, .bool res.1.isSome]) ∧ (∀ v, res.1 = some v → VR w' X c v)

/-- What a reader of parts leaves. -/
def PartsPost (ty : TypeId) (w : World) (X : Nat → Prop) (rb : Nat) (s : ByteArray) (res : Option (List PV) × Bs) (e : Ending) (w' : World) : Prop :=
  Fr (One rb) w w' ∧ RB ty w' rb s res.2 ∧ ∃ sv : Value, (∃ o n k, sv = .slice o n k) ∧ e = .returned (.tuple #[sv, .bool res.1.isSome]) ∧ (∀ vs, res.1 = some vs → ∃ rows : List VC, w'.ownsRow 0 96 4 sv rows.length (vCells rows) ∧ (∀ g, sv.ownBlock = some g → w.heap.size ≤ g) ∧ VL w' (XO X sv) rows vs)

theorem TR.past {w : World} {X : Nat → Prop} {a : Addr} {t : PT} (h : TR w X a t) : TR w (fun b => X b ∨ w.heap.size ≤ b) a t :=
  h.avoid (fun b hb hx => by rcases hx with hx | hx; exact hx; omega)
theorem TR.open_ {w w' : World} {X : Nat → Prop} {rb B : Nat} {v : Value} {a : Addr} {t : PT} (h : TR w (fun b => X b ∨ B ≤ b) a t) (hX : X rb) (hf : Fr (One rb) w w') (hv : ∀ g, v.ownBlock = some g → B ≤ g) : TR w' (XO X v) a t :=
  (h.keep (hf.mono (fun k _ e => .inl (by have e' : k = rb := e; rw [e']; exact hX)))).avoid (fun b _ hx => by
    rcases hx with hx | hx
    · exact .inl hx
    · exact .inr (hv b hx))
theorem XO.lt {w w' : World} {X : Nat → Prop} {v : Value} {n : Nat} {xs : List Value} {e : TypeId} {size : Nat} (hX : ∀ b, X b → b < w.heap.size) (hO : w'.ownsRow 0 e size v n xs) (hs : w.heap.size ≤ w'.heap.size) : ∀ b, XO X v b → b < w'.heap.size := fun b hb => by
  rcases hb with h | h
  · exact Nat.lt_of_lt_of_le (hX b h) hs
  · exact (hO.lt b h).2
/-- What is there avoids what comes later. -/
theorem VR.past {w w' : World} {X : Nat → Prop} {sv : Value} {c : VC} {p : PV} (h : VR w X c p) (hf : Fr Zero w w') (hv : ∀ g, sv.ownBlock = some g → w.heap.size ≤ g) : VR w' (XO X sv) c p :=
  ((h.avoid (Y := fun b => X b ∨ w.heap.size ≤ b) (fun b hb hx => by rcases hx with hx | hx; exact hx; omega)).keep hf.of0).avoid (fun b _ hx => by
    rcases hx with hx | hx
    · exact .inl hx
    · exact .inr (hv b hx))
/-- A row of one value in a block of its own. -/
theorem own_one {w : World} {g : Nat} {c : VC} (h : w.heap[g]? = some (.cells #[.pointer (some c.a), .int .i64 c.n, .string (ba c.b), c.sv] 96 (0, 0))) : w.ownsRow 0 96 4 (.slice (some ⟨g, 0, none⟩) 1 1) 1 (vCells [c]) :=
  ⟨rfl, .inr ⟨g, 1, _, rfl, Nat.zero_le _, h, by omega, by decide, rfl, rfl⟩⟩
theorem own_slice {w : World} {base : Nat} {e : TypeId} {size : Nat} {v : Value} {n : Nat} {xs : List Value} (h : w.ownsRow base e size v n xs) : ∃ a cap, v = .slice a n cap := by
  rcases h.2 with ⟨rfl, rfl⟩ | ⟨g, cap, cur, rfl, _⟩
  · exact ⟨none, 0, rfl⟩
  · exact ⟨_, cap, rfl⟩

/-- Reading by a function, of the types t. -/
def Said (ty : TypeId) (f : FuncId) (rd : PT → Bs → Option PV × Bs) (t : PT) (s : ByteArray) : Prop :=
  ∀ (w : World) (X : Nat → Prop) (rb : Nat) (a : Addr) (l : Bs), RB ty w rb s l → X rb → (∀ b, X b → b < w.heap.size) → TR w X a t →
    Calls Tryz.prog f #[.pointer (some ⟨rb, 0, none⟩), .pointer (some a)] w fun e w' => ValPost ty w X rb s (rd t l) e w'

set_option maxHeartbeats 8000000 in
set_option maxRecDepth 100000 in
theorem list_any {ty : TypeId} {w : World} {X : Nat → Prop} {rb : Nat} {s : ByteArray} {a : Addr} {l : Bs} {t : PT} {rd : PT → Bs → Option PV × Bs} (hT : Said ty 76 rd t s) (h : RB ty w rb s l) (hX : X rb) (hXlt : ∀ b, X b → b < w.heap.size) (ht : TR w X a t) (hs : s.size ≤ maxLen) :
    Calls Tryz.prog 115 #[.pointer (some ⟨rb, 0, none⟩), .pointer (some a)] w fun e w' => PartsPost ty w X rb s (rList (rd t) l) e w' := by
  have HR := hide h
  have hrb := h.lt
  have HT := hide hT
  have HX := hide hXlt
  have HTR := hide ht
  clear h hT hXlt ht
  rcases hc : rAcc 91 l with _ | l1
  · have HC := hide hc
    have HU : Hid (rList (rd t) l = (none, l)) := by show rList (rd t) l = _; unfold rList; rw [hc]
    clear hc
    go_enter Tryz.func115, Tryz.ntmps115
    go_wp2_with fail
    refine (vAccept_no HR hs 91 HC).mono ?_
    rintro e w1 ⟨rfl, hR1, hF1⟩
    have HR1 := hide hR1
    have HF1 := hide hF1
    clear hR1 hF1
    go_wp2_with fail
    go_ret2
    rw [HU.out]
    exact ⟨HF1, HR1, .slice none 0 0, ⟨_, _, _, rfl⟩, rfl, fun x hx => by cases hx⟩
  · have HC := hide hc
    rcases hd : rAcc 93 l1 with _ | l2
    · have HD := hide hd
      have HU : Hid (rList (rd t) l = rElems (rd t) 300 [] l1) := by show rList (rd t) l = _; unfold rList; rw [hc]; simp only [hd]
      clear hc hd
      go_enter Tryz.func115, Tryz.ntmps115
      go_wp2_with fail
      refine (vAccept_yes HR hs 91 HC).mono ?_
      rintro e w1 ⟨rfl, hR1, hF1⟩
      have HR1 := hide hR1
      have HF1 := hide hF1
      clear hR1 hF1
      go_wp2_with fail
      refine (vAccept_no HR1 hs 93 HD).mono ?_
      rintro e w2 ⟨rfl, hR2, hF2⟩
      have HR2 := hide hR2
      have HF2 := hide (HF1.out.trans hF2)
      clear hR2 hF2
      go_wp2_with fail
      go_loopw [6] (fun ev wr => ∃ (acc : List PV) (rows : List VC) (r : Bs), acc.length < 300 ∧ lenV ev = acc.length ∧ Hid (rElems (rd t) 300 [] l1 = rElems (rd t) (300 - acc.length) acc r) ∧ Hid (wr.ownsRow 0 96 4 ev rows.length (vCells rows)) ∧ Hid (∀ g, ev.ownBlock = some g → w.heap.size ≤ g) ∧
        Hid (VL wr (XO X ev) rows acc) ∧ Hid (RB ty wr rb s r) ∧ Hid (Fr (One rb) w wr)) (fun ev _ => 300 - lenV ev)
      case atStart => exact ⟨[], [], l1, by simp, rfl, rfl, World.ownsRow_nil _ _ _ _, fun g hg => by simp [Value.ownBlock] at hg, VL.nil _ _, HR2, HF2⟩
      case round =>
        obtain ⟨acc, rows, r, hacc, hlen, HE, HO, HG, HVL, HRr, HF⟩ := hrel
        have hrl : Hid (rows.length = acc.length) := HVL.out.1
        obtain ⟨ea, ecap, rfl⟩ := own_slice HO.out
        clear hlen
        have hX' : XO X (.slice ea rows.length ecap) rb := .inl hX
        have HNE : Hid (∀ g, (Value.slice ea rows.length ecap).ownBlock = some g → ¬ One rb g) := fun g hg e => by
          have e' : g = rb := e
          have := HG.out g hg
          omega
        go_wp2_with fail
        refine (HT.out _ (XO X (.slice ea rows.length ecap)) rb a r HRr hX' (XO.lt HX HO HF.out.size) (HTR.out.past.open_ hX HF HG)).mono ?_
        have HSTEP : Hid (rElems (rd t) 300 [] l1 = match rd t r with
            | (none, l1) => (none, l1)
            | (some v, l1) => match rAcc 93 l1 with
              | some l2 => (some (acc ++ [v]), l2)
              | none => if acc.length + 1 = 300 then (none, l1) else
                match rAcc 44 l1 with
                | some l2 => rElems (rd t) (300 - (acc.length + 1)) (acc ++ [v]) l2
                | none => (none, l1)) := HE.out.trans (by rw [show 300 - acc.length = (300 - (acc.length + 1)) + 1 by omega]; rfl)
        rcases hq : rd t r with ⟨_ | v, r3⟩
        · rw [hq] at HSTEP
          clear hq
          rintro e w3 ⟨hF3, hR3, ⟨ca, cn, cb, csv⟩, ⟨o, n, k, hsv⟩, rfl, -⟩
          simp only at hsv
          subst hsv
          have HX3 : Hid (rElems (rd t) 300 [] l1 = (none, r3)) := HSTEP
          have HR3 := hide hR3
          have HF3 := hide (HF.out.trans hF3)
          clear hR3 hF3 HSTEP HE
          simp only [VC.val]
          go_wp2_with fail
          go_ret2
          rw [HU.out, HX3.out]
          exact ⟨HF3.out.trans (Fr.alloc _ _ _), HR3.out.keep (Fr.alloc Zero _ _) (fun h => h), .slice none 0 0, ⟨_, _, _, rfl⟩, rfl, fun x hx => by cases hx⟩
        · rw [hq] at HSTEP
          clear hq
          rintro e w3 ⟨hF3, hR3, ⟨ca, cn, cb, csv⟩, ⟨o, n, k, hsv⟩, rfl, hv⟩
          simp only at hsv
          subst hsv
          have HV := hide (hv v rfl)
          have HR3 := hide hR3
          have HF3 := hide hF3
          clear hR3 hF3 hv HE
          simp only [VC.val]
          obtain ⟨i0, hi, hz0, hz1, hz2⟩ := info_parts Tryz.info69
          go_wp2_with (at_builtin; refine wpList_append_mine _ rfl _ _ 94 rfl 0 96 i0 (.agg #[.pointer none, .int .i64 0, .string ⟨#[]⟩, .slice none 0 0]) 4 56 Tryz.underlying94 hi hz0 hz1 hz2 rfl (by decide) (.slice ea rows.length ecap) rows.length (vCells rows) rfl ?o1 ⟨w3.heap.size + 1, 0, none⟩ 1 1 (by omega) [.pointer (some ca), .int .i64 cn, .string (ba cb), .slice o n k] rfl rfl ?c1 ?c2 ?c3 ?c4 (Nat.zero_le _) ?_)
          case o1 => exact (ownsRow_keep HO.out HF3 HNE.out).alloc _ |>.alloc _
          case c2 => exact ⟨rfl, rfl, rfl, rfl⟩
          case c3 => have := hrl.out; unfold maxLen; omega
          case c4 => have := hrl.out; omega
          intro v' w4 hO4 hg4 g cap hv' hgg
          have hFa : Fr (One rb) wr ((w3.alloc (.cells #[.pointer (some ca), .int .i64 cn, .string (ba cb), .slice o n k] 96)).alloc (.cells #[.pointer (some ca), .int .i64 cn, .string (ba cb), .slice o n k] 96)) := HF3.out.trans ((Fr.alloc _ _ _).trans (Fr.alloc _ _ _))
          have hFz : Fr Zero w3 ((w3.alloc (.cells #[.pointer (some ca), .int .i64 cn, .string (ba cb), .slice o n k] 96)).alloc (.cells #[.pointer (some ca), .int .i64 cn, .string (ba cb), .slice o n k] 96)) := (Fr.alloc _ _ _).trans (Fr.alloc _ _ _)
          have hsz := HF.out.size
          have hsz2 := hFa.size
          obtain ⟨hL4, hO5, hG4, hF4, -⟩ := VL.grow (B := w.heap.size) (c := ⟨ca, cn, cb, .slice o n k⟩) (v := v) HG (Nat.le_trans hsz hsz2) (HVL.out.keep (hFa.mono (fun q _ e => by have e' : q = rb := e; rw [e']; exact hX'))) (HV.out.keep hFz.of0) hO4 hg4 ⟨g, cap, hv', by simpa using hgg⟩
          have HF4 := hide ((HF.out.trans hFa).past hF4)
          have HR4 := hide ((HR3.out.keep hFz (fun h => h)).keep hF4 (by omega))
          have HL4 := hide hL4
          have HO5 := hide hO5
          have HG4 := hide hG4
          subst hv'
          clear hO4 hg4 hgg hFa hFz hL4 hO5 hG4 hF4 hi hz0 hz1 hz2 hsz hsz2 HNE HO HG HVL HRr HF HR3 HF3 HV
          rcases hA : rAcc 93 r3 with _ | r4
          · rw [hA] at HSTEP
            have HA := hide hA
            clear hA
            go_wp2_with fail
            refine (vAccept_no HR4 hs 93 HA).mono ?_
            rintro e w5 ⟨rfl, hR5, hF5⟩
            have HR5 := hide hR5
            have HF5 := hide (HF4.out.trans hF5)
            have HO6 := hide (ownsRow_keep HO5.out hF5 (fun g' hg' e => by have e' : g' = rb := e; have := HG4.out g' hg'; omega))
            have HL6 := hide (HL4.out.keep (hF5.mono (Y := XO X (.slice (some ⟨g, 0, none⟩) (rows.length + 1) cap)) (fun q _ e => by have e' : q = rb := e; rw [e']; exact .inl hX)))
            clear hR5 hF5 HO5 HL4
            by_cases hfull : acc.length + 1 = 300
            · have HE : Hid (rElems (rd t) 300 [] l1 = (none, r3)) := HSTEP.out.trans (by rw [if_pos hfull])
              have hq : ((rows.length : Int) + 1 == 300) = true := beq_iff_eq.2 (by have := hrl.out; omega)
              clear HSTEP
              go_wp2_with fail
              try go_quiet (fail)
              try go_wp2_with fail
              go_ret2
              rw [HU.out, HE.out]
              exact ⟨HF5, HR5, .slice none 0 0, ⟨_, _, _, rfl⟩, rfl, fun x hx => by cases hx⟩
            · have hq : ((rows.length : Int) + 1 == 300) = false := beq_eq_false_iff_ne.2 (by have := hrl.out; omega)
              have HSTEP2 : Hid (rElems (rd t) 300 [] l1 = match rAcc 44 r3 with
                | some l2 => rElems (rd t) (300 - (acc.length + 1)) (acc ++ [v]) l2
                | none => (none, r3)) := HSTEP.out.trans (by rw [if_neg hfull])
              clear HSTEP
              rcases hB : rAcc 44 r3 with _ | r5
              · rw [hB] at HSTEP2
                have HB := hide hB
                have HE : Hid (rElems (rd t) 300 [] l1 = (none, r3)) := HSTEP2
                clear hB HSTEP2
                go_wp2_with fail
                refine (vAccept_no HR5 hs 44 HB).mono ?_
                rintro e w6 ⟨rfl, hR6, hF6⟩
                have HR6 := hide hR6
                have HF6 := hide (HF5.out.trans hF6)
                clear hR6 hF6
                go_wp2_with fail
                go_ret2
                rw [HU.out, HE.out]
                exact ⟨HF6, HR6, .slice none 0 0, ⟨_, _, _, rfl⟩, rfl, fun x hx => by cases hx⟩
              · rw [hB] at HSTEP2
                have HB := hide hB
                have HE : Hid (rElems (rd t) 300 [] l1 = rElems (rd t) (300 - (acc.length + 1)) (acc ++ [v]) r5) := HSTEP2
                clear hB HSTEP2
                go_wp2_with fail
                refine (vAccept_yes HR5 hs 44 HB).mono ?_
                rintro e w6 ⟨rfl, hR6, hF6⟩
                have HR6 := hide hR6
                have HF6 := hide (HF5.out.trans hF6)
                have HO7 := hide (ownsRow_keep HO6.out hF6 (fun g' hg' e => by have e' : g' = rb := e; have := HG4.out g' hg'; omega))
                have HL7 := hide (HL6.out.keep (hF6.mono (Y := XO X (.slice (some ⟨g, 0, none⟩) (rows.length + 1) cap)) (fun q _ e => by have e' : q = rb := e; rw [e']; exact .inl hX)))
                clear hR6 hF6 HO6 HL6
                go_wp2_with fail
                refine ⟨⟨acc ++ [v], rows ++ [⟨ca, cn, cb, .slice o n k⟩], r5, by simp; omega, by have := hrl.out; simp [lenV]; omega, ?_, HO7, HG4, HL7, HR6, HF6⟩, by have := hrl.out; simp [lenV]; omega⟩
                rw [List.length_append]
                exact HE
          · rw [hA] at HSTEP
            have HA := hide hA
            have HE : Hid (rElems (rd t) 300 [] l1 = (some (acc ++ [v]), r4)) := HSTEP
            clear hA HSTEP
            go_wp2_with fail
            refine (vAccept_yes HR4 hs 93 HA).mono ?_
            rintro e w5 ⟨rfl, hR5, hF5⟩
            have HR5 := hide hR5
            have HF5 := hide (HF4.out.trans hF5)
            have HO6 := hide (ownsRow_keep HO5.out hF5 (fun g' hg' e => by have e' : g' = rb := e; have := HG4.out g' hg'; omega))
            have HL6 := hide (HL4.out.keep (hF5.mono (Y := XO X (.slice (some ⟨g, 0, none⟩) (rows.length + 1) cap)) (fun q _ e => by have e' : q = rb := e; rw [e']; exact .inl hX)))
            clear hR5 hF5 HO5 HL4
            go_wp2_with fail
            go_ret2
            rw [HU.out, HE.out]
            exact ⟨HF5, HR5, _, ⟨_, _, _, rfl⟩, rfl, fun x hx => by simp at hx; subst hx; exact ⟨_, HO6, HG4, HL6⟩⟩
    · have HD := hide hd
      have HU : Hid (rList (rd t) l = (some [], l2)) := by show rList (rd t) l = _; unfold rList; rw [hc]; simp only [hd]
      clear hc hd
      go_enter Tryz.func115, Tryz.ntmps115
      go_wp2_with fail
      refine (vAccept_yes HR hs 91 HC).mono ?_
      rintro e w1 ⟨rfl, hR1, hF1⟩
      have HR1 := hide hR1
      have HF1 := hide hF1
      clear hR1 hF1
      go_wp2_with fail
      refine (vAccept_yes HR1 hs 93 HD).mono ?_
      rintro e w2 ⟨rfl, hR2, hF2⟩
      have HR2 := hide hR2
      have HF2 := hide (HF1.out.trans hF2)
      clear hR2 hF2
      go_wp2_with fail
      go_ret2
      rw [HU.out]
      exact ⟨HF2, HR2, .slice none 0 0, ⟨_, _, _, rfl⟩, rfl, fun x hx => by simp at hx; subst hx; exact ⟨[], World.ownsRow_nil _ _ _ _, fun g hg => by simp [Value.ownBlock] at hg, VL.nil _ _⟩⟩

set_option maxHeartbeats 4000000 in
set_option maxRecDepth 100000 in
theorem option_any {ty : TypeId} {w : World} {X : Nat → Prop} {rb : Nat} {s : ByteArray} {a : Addr} {l : Bs} {t : PT} {rd : PT → Bs → Option PV × Bs} (hT : Said ty 76 rd t s) (h : RB ty w rb s l) (hX : X rb) (hXlt : ∀ b, X b → b < w.heap.size) (ht : TR w X a t) (hs : s.size ≤ maxLen) :
    Calls Tryz.prog 116 #[.pointer (some ⟨rb, 0, none⟩), .pointer (some a)] w fun e w' => PartsPost ty w X rb s (rOpt (rd t) l) e w' := by
  have HR := hide h
  have hrb := h.lt
  have HT := hide hT
  have HX := hide hXlt
  have HTR := hide ht
  clear h hT hXlt ht
  rcases hc : rAcc 45 l with _ | l1
  · have HC := hide hc
    rcases hd : rAcc 43 l with _ | l2
    · have HD := hide hd
      have HU : Hid (rOpt (rd t) l = (none, l)) := by show rOpt (rd t) l = _; unfold rOpt; rw [hc]; simp only [hd]
      clear hc hd
      go_enter Tryz.func116, Tryz.ntmps116
      go_wp2_with fail
      refine (vAccept_no HR hs 45 HC).mono ?_
      rintro e w1 ⟨rfl, hR1, hF1⟩
      have HR1 := hide hR1
      have HF1 := hide hF1
      clear hR1 hF1
      go_wp2_with fail
      refine (vAccept_no HR1 hs 43 HD).mono ?_
      rintro e w2 ⟨rfl, hR2, hF2⟩
      have HR2 := hide hR2
      have HF2 := hide (HF1.out.trans hF2)
      clear hR2 hF2
      go_wp2_with fail
      go_ret2
      rw [HU.out]
      exact ⟨HF2, HR2, .slice none 0 0, ⟨_, _, _, rfl⟩, rfl, fun x hx => by cases hx⟩
    · have HD := hide hd
      have HU : Hid (rOpt (rd t) l = ((rd t l2).1.map (fun v => [v]), (rd t l2).2)) := by show rOpt (rd t) l = _; unfold rOpt; rw [hc]; simp only [hd]
      clear hc hd
      go_enter Tryz.func116, Tryz.ntmps116
      go_wp2_with fail
      refine (vAccept_no HR hs 45 HC).mono ?_
      rintro e w1 ⟨rfl, hR1, hF1⟩
      have HR1 := hide hR1
      have HF1 := hide hF1
      clear hR1 hF1
      go_wp2_with fail
      refine (vAccept_yes HR1 hs 43 HD).mono ?_
      rintro e w2 ⟨rfl, hR2, hF2⟩
      have HR2 := hide hR2
      have HF2 := hide (HF1.out.trans hF2)
      clear hR2 hF2
      go_wp2_with fail
      refine (HT.out _ X rb a l2 HR2 hX (fun b hb => Nat.lt_of_lt_of_le (HX.out b hb) HF2.out.size) (HTR.out.keep (HF2.out.one hX))).mono ?_
      rcases hq2 : rd t l2 with ⟨q, r3⟩
      rw [hq2] at HU
      clear hq2
      rintro e w3 ⟨hF3, hR3, ⟨ca, cn, cb, csv⟩, ⟨o, n, k, hsv⟩, rfl, hv⟩
      simp only at hsv
      subst hsv
      have HV := hide hv
      have HR3 := hide hR3
      have HF3 := hide (HF2.out.trans hF3)
      clear hR3 hF3 hv
      simp only [VC.val]
      go_wp2_with fail
      go_ret2
      rw [HU.out]
      refine ⟨HF3.out.trans ((Fr.alloc _ _ _).trans (Fr.alloc _ _ _)), (HR3.out.keep (Fr.alloc Zero _ _) (fun h => h)).keep (Fr.alloc Zero _ _) (fun h => h), .slice (some ⟨w3.heap.size + 1, 0, none⟩) 1 1, ⟨_, _, _, rfl⟩, by cases q <;> rfl, fun x hx => ?_⟩
      simp only [Option.map_eq_some_iff] at hx
      obtain ⟨v, hq, rfl⟩ := hx
      have hw3 := HF3.out.size
      have hnew : ((w3.alloc (.cells #[.pointer (some ca), .int .i64 cn, .string (ba cb), .slice o n k] 96)).alloc (.cells #[.pointer (some ca), .int .i64 cn, .string (ba cb), .slice o n k] 96)).heap[w3.heap.size + 1]? = some (.cells #[.pointer (some ca), .int .i64 cn, .string (ba cb), .slice o n k] 96 (0, 0)) := heap_new_at (by simp) _
      exact ⟨[⟨ca, cn, cb, .slice o n k⟩], own_one (c := ⟨ca, cn, cb, .slice o n k⟩) hnew, fun g hg => by simp [Value.ownBlock] at hg; omega, VL.snoc (rows := []) (VL.nil _ _) ((HV.out v hq).past ((Fr.alloc Zero w3 _).trans (Fr.alloc _ _ _)) (fun g hg => by simp [Value.ownBlock] at hg; omega))⟩
  · have HC := hide hc
    have HU : Hid (rOpt (rd t) l = (some [], l1)) := by show rOpt (rd t) l = _; unfold rOpt; rw [hc]
    clear hc
    go_enter Tryz.func116, Tryz.ntmps116
    go_wp2_with fail
    refine (vAccept_yes HR hs 45 HC).mono ?_
    rintro e w1 ⟨rfl, hR1, hF1⟩
    have HR1 := hide hR1
    have HF1 := hide hF1
    clear hR1 hF1
    go_wp2_with fail
    go_ret2
    rw [HU.out]
    exact ⟨HF1, HR1, .slice none 0 0, ⟨_, _, _, rfl⟩, rfl, fun x hx => by simp at hx; subst hx; exact ⟨[], World.ownsRow_nil _ _ _ _, fun g hg => by simp [Value.ownBlock] at hg, VL.nil _ _⟩⟩

end Go.Proofs.YtdcjogpkogidaaaGreatDoor
end
