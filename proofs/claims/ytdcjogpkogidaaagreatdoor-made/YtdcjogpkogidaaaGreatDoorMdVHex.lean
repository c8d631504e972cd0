/- How bytes are read of a text: two digits each. -/
import Derived.Lib.UnsafeStr
import Derived.Laws.IdiomStrings
import Derived.Laws.BytesArg
import Derived.Test.YtdcjogpkogidaaaGreatDoorMdVNum
section
namespace Go.Proofs.YtdcjogpkogidaaaGreatDoor
open Go.RowKit

theorem Tryz.info5 : (Tryz.prog.info? 5).map (fun i => (i.zero, i.size, i.bytes)) = some (some (.int .u8 0), 1, 1) := by kernel_rfl

/-- A row of bytes that a call has made: its blocks are from B on. -/
structure BO (w : World) (B : Nat) (sv : Value) (acc : Bs) : Prop where
  own : w.ownsRow 0 5 1 sv acc.length (Lib.byteCells acc)
  from_ : ∀ g, sv.ownBlock = some g → B ≤ g

theorem BO.nil (w : World) (B : Nat) : BO w B (.slice none 0 0) [] := ⟨World.ownsRow_nil _ _ _ _, fun g hg => by simp [Value.ownBlock] at hg⟩
theorem BO.keep {w w' : World} {B : Nat} {sv : Value} {acc : Bs} {X : Nat → Prop} (h : BO w B sv acc) (hf : Fr X w w') (hx : ∀ k, B ≤ k → ¬ X k) : BO w' B sv acc := ⟨ownsRow_keep h.own hf (fun g hg => hx g (h.from_ g hg)), h.from_⟩
theorem BO.alloc {w : World} {B : Nat} {sv : Value} {acc : Bs} (h : BO w B sv acc) (o : Obj) : BO (w.alloc o) B sv acc := ⟨h.own.alloc o, h.from_⟩
theorem BO.len {w : World} {B : Nat} {sv : Value} {acc : Bs} (h : BO w B sv acc) : ∃ a cap, sv = .slice a acc.length cap := by
  rcases h.own.2 with ⟨rfl, e⟩ | ⟨g, cap, cur, rfl, _⟩
  · exact ⟨none, 0, by rw [e]⟩
  · exact ⟨_, cap, rfl⟩
theorem BO.conv {w : World} {B : Nat} {sv : Value} {acc : Bs} (h : BO w B sv acc) : (convert 24 9 sv).run Tryz.prog w = .ok (.string (ba acc)) w := by
  rcases h.own.2 with ⟨rfl, e⟩ | ⟨g, cap, cur, rfl, _⟩
  · have : acc = [] := List.eq_nil_of_length_eq_zero e
    subst this
    exact run_convert_bytes_nil w 24 5 Tryz.underlying24 Tryz.underlying5 0 0 9 Tryz.underlying9
  · exact run_convert_bytes_back (P := Tryz.prog) w 24 9 5 ⟨g, 0, none⟩ cap acc Tryz.underlying24 Tryz.underlying5 Tryz.underlying9 (fun j hj => h.own.cells (g := g) rfl j _ (by simp [Lib.byteCells, hj]))
theorem BO.grow {w1 w2 : World} {B : Nat} {pv v' : Value} {acc more : Bs} (h : BO w1 B pv acc) (hB : B ≤ w1.heap.size) (hO2 : w2.ownsRow 0 5 1 v' (acc.length + more.length) (Lib.byteCells acc ++ Lib.byteCells more)) (hg : w1.grownBy w2 pv.ownBlock)
    (hv : ∃ g cap, v' = .slice (some ⟨g, 0, none⟩) (acc.length + more.length) cap ∧ (pv.ownBlock = some g ∨ w1.heap.size ≤ g)) : BO w2 B v' (acc ++ more) ∧ Fr (fun k => B ≤ k) w1 w2 := by
  obtain ⟨g, cap, rfl, hgg⟩ := hv
  refine ⟨⟨?_, ?_⟩, Fr.grown hg (fun k e _ => h.from_ k e)⟩
  · rw [List.length_append, show Lib.byteCells (acc ++ more) = Lib.byteCells acc ++ Lib.byteCells more by simp [Lib.byteCells]]
    exact hO2
  · intro g' hg'
    simp [Value.ownBlock] at hg'
    subst hg'
    rcases hgg with h' | h'
    · exact h.from_ _ h'
    · omega

/-- What a reader of bytes leaves. -/
def StrPost (ty : TypeId) (w : World) (rb : Nat) (s : ByteArray) (res : Option Bs × Bs) (e : Ending) (w' : World) : Prop :=
  Fr (One rb) w w' ∧ RB ty w' rb s res.2 ∧ ∃ v : ByteArray, e = .returned (.tuple #[.string v, .bool res.1.isSome]) ∧ (∀ x, res.1 = some x → v = ba x)

def rEsc : Bs → Option UInt8 × Bs
  | [] => (none, [])
  | c :: l' => if c.toNat = 34 ∨ c.toNat = 92 then (some c, l') else (none, c :: l')
/-- One byte of a text behind its first quote, that is no quote. -/
def rVis : Bs → Option UInt8 × Bs
  | [] => (none, [])
  | b :: l => if b.toNat = 92 then rEsc l else if 32 ≤ b.toNat ∧ b.toNat ≤ 126 then (some b, l) else (none, b :: l)

set_option maxHeartbeats 2000000 in
theorem visible_any {ty : TypeId} {w : World} {rb : Nat} {s : ByteArray} {l : Bs} (h : RB ty w rb s l) (hs : s.size ≤ maxLen) :
    Calls Tryz.prog 168 #[.pointer (some ⟨rb, 0, none⟩)] w fun e w' => Fr (One rb) w w' ∧ RB ty w' rb s (rVis l).2 ∧ ∃ c : Nat, c < 256 ∧ e = .returned (.tuple #[.int .u8 c, .bool (rVis l).1.isSome]) ∧ (∀ x, (rVis l).1 = some x → c = x.toNat) := by
  have HR := hide h
  rcases hc : rAcc 92 l with _ | r
  · have HC := hide hc
    clear h
    go_enter Tryz.func168, Tryz.ntmps168
    go_wp2_with fail
    refine (vAccept_no HR hs 92 HC).mono ?_
    rintro e w1 ⟨rfl, hR1, hF1⟩
    have HR1 := hide hR1
    have HF1 := hide hF1
    clear hR1 hF1
    by_cases hv : ∃ b r, l = b :: r ∧ 32 ≤ b.toNat ∧ b.toNat ≤ 126
    · obtain ⟨b, r, rfl, h1, h2⟩ := hv
      have hb92 : b.toNat ≠ 92 := fun e => by rw [rAcc_cons e] at hc; cases hc
      have HV : Hid (rVis (b :: r) = (some b, r)) := by
        show rVis (b :: r) = _
        simp only [rVis]; rw [if_neg hb92, if_pos ⟨h1, h2⟩]
      clear hc
      go_wp2_with fail
      refine (vIn_yes HR1 hs 32 126 (by omega) (by omega)).mono ?_
      rintro e w2 ⟨rfl, hR2, hF2⟩
      have HR2 := hide hR2
      have HF2 := hide (HF1.out.trans hF2)
      clear hR2 hF2
      go_wp2_with fail
      go_ret2
      rw [HV.out]
      exact ⟨HF2, HR2, b.toNat, b.toNat_lt, rfl, fun x hx => by simp at hx; subst hx; rfl⟩
    · have HV : Hid (rVis l = (none, l)) := by
        show rVis l = _
        cases l with
        | nil => rfl
        | cons b r =>
          have hb92 : b.toNat ≠ 92 := fun e => by rw [rAcc_cons e] at hc; cases hc
          simp only [rVis]; rw [if_neg hb92, if_neg (fun h => hv ⟨b, r, rfl, h⟩)]
      have hno : ∀ b r, l = b :: r → (b.toNat : Int) < 32 ∨ (126 : Int) < (b.toNat : Int) := fun b r e => by
        by_cases h1 : 32 ≤ b.toNat
        · by_cases h2 : b.toNat ≤ 126
          · exact (hv ⟨b, r, e, h1, h2⟩).elim
          · omega
        · omega
      have HNO := hide hno
      clear hc hv hno
      go_wp2_with fail
      refine (vIn_no HR1 hs 32 126 HNO).mono ?_
      rintro e w2 ⟨rfl, hR2, hF2⟩
      have HR2 := hide hR2
      have HF2 := hide (HF1.out.trans hF2)
      clear hR2 hF2
      go_wp2_with fail
      go_ret2
      rw [HV.out]
      exact ⟨HF2, HR2, 0, by omega, rfl, fun x hx => by cases hx⟩
  · have HC := hide hc
    obtain ⟨b, rfl, hb⟩ := rAcc_some hc
    clear h hc
    have HV0 : Hid (rVis (b :: r) = rEsc r) := by
      show rVis (b :: r) = _
      simp only [rVis]; rw [if_pos hb]
    go_enter Tryz.func168, Tryz.ntmps168
    go_wp2_with fail
    refine (vAccept_yes HR hs 92 HC).mono ?_
    rintro e w1 ⟨rfl, hR1, hF1⟩
    have HR1 := hide hR1
    have HF1 := hide hF1
    clear hR1 hF1
    rcases hq : rAcc 34 r with _ | r2
    · have HQ := hide hq
      go_wp2_with fail
      refine (vAccept_no HR1 hs 34 HQ).mono ?_
      rintro e w2 ⟨rfl, hR2, hF2⟩
      have HR2 := hide hR2
      have HF2 := hide (HF1.out.trans hF2)
      clear hR2 hF2
      rcases hz : rAcc 92 r with _ | r3
      · have HZ := hide hz
        have HV : Hid (rVis (b :: r) = (none, r)) := by
          show rVis (b :: r) = _
          rw [HV0.out]
          cases r with
          | nil => rfl
          | cons c r' =>
            have h34 : c.toNat ≠ 34 := fun e => by rw [rAcc_cons e] at hq; cases hq
            have h92 : c.toNat ≠ 92 := fun e => by rw [rAcc_cons e] at hz; cases hz
            simp only [rEsc]; rw [if_neg (by omega)]
        clear hq hz HV0
        go_wp2_with fail
        refine (vAccept_no HR2 hs 92 HZ).mono ?_
        rintro e w3 ⟨rfl, hR3, hF3⟩
        have HR3 := hide hR3
        have HF3 := hide (HF2.out.trans hF3)
        clear hR3 hF3
        go_wp2_with fail
        go_ret2
        rw [HV.out]
        exact ⟨HF3, HR3, 92, by omega, rfl, fun x hx => by cases hx⟩
      · have HZ := hide hz
        obtain ⟨c, rfl, hc92⟩ := rAcc_some hz
        have HV : Hid (rVis (b :: c :: r3) = (some c, r3)) := by
          show rVis (b :: c :: r3) = _
          rw [HV0.out]
          simp only [rEsc]; rw [if_pos (.inr hc92)]
        clear hq hz HV0
        go_wp2_with fail
        refine (vAccept_yes HR2 hs 92 HZ).mono ?_
        rintro e w3 ⟨rfl, hR3, hF3⟩
        have HR3 := hide hR3
        have HF3 := hide (HF2.out.trans hF3)
        clear hR3 hF3
        go_wp2_with fail
        go_ret2
        rw [HV.out]
        exact ⟨HF3, HR3, 92, by omega, rfl, fun x hx => by simp at hx; subst hx; omega⟩
    · have HQ := hide hq
      obtain ⟨c, rfl, hc34⟩ := rAcc_some hq
      have HV : Hid (rVis (b :: c :: r2) = (some c, r2)) := by
        show rVis (b :: c :: r2) = _
        rw [HV0.out]
        simp only [rEsc]; rw [if_pos (.inl hc34)]
      clear hq HV0
      go_wp2_with fail
      refine (vAccept_yes HR1 hs 34 HQ).mono ?_
      rintro e w2 ⟨rfl, hR2, hF2⟩
      have HR2 := hide hR2
      have HF2 := hide (HF1.out.trans hF2)
      clear hR2 hF2
      go_wp2_with fail
      go_ret2
      rw [HV.out]
      exact ⟨HF2, HR2, 34, by omega, rfl, fun x hx => by simp at hx; subst hx; omega⟩

theorem rQuo_step (k : Nat) (acc l : Bs) (h : rAcc 34 l = none) : rQuo (k + 1) acc l = match rVis l with | (some c, r) => rQuo k (acc ++ [c]) r | (none, r) => (none, r) := by
  cases l with
  | nil => rfl
  | cons b l =>
    have h34 : b.toNat ≠ 34 := fun e => by rw [rAcc_cons e] at h; cases h
    simp only [rQuo, rVis]
    rw [if_neg h34]
    by_cases h92 : b.toNat = 92
    · rw [if_pos h92, if_pos h92]
      cases l with
      | nil => rfl
      | cons c l =>
        simp only [rEsc]
        by_cases hc : c.toNat = 34 ∨ c.toNat = 92
        · rw [if_pos hc, if_pos hc]
        · rw [if_neg hc, if_neg hc]
    · rw [if_neg h92, if_neg h92]
      by_cases hv : 32 ≤ b.toNat ∧ b.toNat ≤ 126
      · rw [if_pos hv, if_pos hv]
      · rw [if_neg hv, if_neg hv]
theorem rQuo_end (k : Nat) (acc l r : Bs) (h : rAcc 34 l = some r) : rQuo k acc l = (some acc, r) := by
  obtain ⟨b, rfl, hb⟩ := rAcc_some h
  cases k with
  | zero => simp only [rQuo]; rw [if_pos hb]
  | succ k => simp only [rQuo]; rw [if_pos hb]
theorem rQuo_full (acc l : Bs) (h : rAcc 34 l = none) : rQuo 0 acc l = (none, l) := by
  cases l with
  | nil => rfl
  | cons b l =>
    have h34 : b.toNat ≠ 34 := fun e => by rw [rAcc_cons e] at h; cases h
    simp only [rQuo]; rw [if_neg h34]

set_option maxHeartbeats 4000000 in
set_option maxRecDepth 100000 in
theorem quoted_any {ty : TypeId} {w : World} {rb : Nat} {s : ByteArray} {l : Bs} (h : RB ty w rb s l) (hs : s.size ≤ maxLen) :
    Calls Tryz.prog 113 #[.pointer (some ⟨rb, 0, none⟩)] w fun e w' => StrPost ty w rb s (rQuoted l) e w' := by
  have HR := hide h
  have hrb := h.lt
  rcases hc : rAcc 34 l with _ | l0
  · have HC := hide hc
    have HU : Hid (rQuoted l = (none, l)) := by show rQuoted l = _; unfold rQuoted; rw [hc]
    clear hc h
    go_enter Tryz.func113, Tryz.ntmps113
    go_wp2_with fail
    refine (vAccept_no HR hs 34 HC).mono ?_
    rintro e w1 ⟨rfl, hR1, hF1⟩
    have HR1 := hide hR1
    have HF1 := hide hF1
    clear hR1 hF1
    go_wp2_with fail
    go_ret2
    rw [HU.out]
    exact ⟨HF1, HR1, ⟨#[]⟩, rfl, fun x hx => by cases hx⟩
  · have HC := hide hc
    have HU : Hid (rQuoted l = rQuo 300 [] l0) := by show rQuoted l = _; unfold rQuoted; rw [hc]
    clear hc h
    go_enter Tryz.func113, Tryz.ntmps113
    go_wp2_with fail
    refine (vAccept_yes HR hs 34 HC).mono ?_
    rintro e w1 ⟨rfl, hR1, hF1⟩
    have HR1 := hide hR1
    have HF1 := hide hF1
    clear hR1 hF1
    go_wp2_with fail
    go_loopw [4] (fun bv wr => ∃ (acc r : Bs), acc.length ≤ 300 ∧ lenV bv = acc.length ∧ Hid (rQuo 300 [] l0 = rQuo (300 - acc.length) acc r) ∧ Hid (BO wr w.heap.size bv acc) ∧ Hid (RB ty wr rb s r) ∧ Hid (Fr (One rb) w wr)) (fun bv _ => 300 - lenV bv)
    case atStart => exact ⟨[], l0, by simp, rfl, rfl, BO.nil _ _, HR1, HF1⟩
    case round =>
      obtain ⟨acc, r, hacc, hlen, HQ, HB, HRr, HF⟩ := hrel
      obtain ⟨a, cap, rfl⟩ := HB.out.len
      rcases hc : rAcc 34 r with _ | r1
      · have HC2 := hide hc
        go_wp2_with fail
        refine (vAccept_no HRr hs 34 HC2).mono ?_
        rintro e w2 ⟨rfl, hR2, hF2⟩
        have HR2 := hide hR2
        have HF2 := hide (HF.out.trans hF2)
        have HB2 := hide (HB.out.keep hF2 (fun k hk e => by have e' : k = rb := e; omega))
        clear hR2 hF2 hlen
        by_cases hfull : acc.length = 300
        · have HE : Hid (rQuo 300 [] l0 = (none, r)) := HQ.out.trans (by rw [hfull]; exact rQuo_full acc r hc)
          have hq : ((acc.length : Int) == 300) = true := beq_iff_eq.2 (by omega)
          clear hc hfull
          go_wp2_with fail
          go_ret2
          rw [HU.out, HE.out]
          exact ⟨HF2, HR2, ⟨#[]⟩, rfl, fun x hx => by cases hx⟩
        · have hq : ((acc.length : Int) == 300) = false := beq_eq_false_iff_ne.2 (by omega)
          have HE : Hid (rQuo 300 [] l0 = match rVis r with | (some c, r) => rQuo (300 - (acc.length + 1)) (acc ++ [c]) r | (none, r) => (none, r)) := HQ.out.trans (by rw [show 300 - acc.length = (300 - (acc.length + 1)) + 1 by omega]; exact rQuo_step _ acc r hc)
          clear hc
          go_wp2_with fail
          refine (visible_any HR2 hs).mono ?_
          rintro e w3 ⟨hF3, hR3, c, hc256, rfl, hcx⟩
          have HR3 := hide hR3
          have HF3 := hide (HF2.out.trans hF3)
          have HB3 := hide (HB2.out.keep hF3 (fun k hk e => by have e' : k = rb := e; omega))
          clear hR3 hF3
          rcases hv : rVis r with ⟨_ | x, r3⟩
          · rw [hv] at HE HR3
            have HX : Hid (rQuo 300 [] l0 = (none, r3)) := HE
            clear hcx hv HE
            go_wp2_with fail
            go_ret2
            rw [HU.out, HX.out]
            exact ⟨HF3, HR3, ⟨#[]⟩, rfl, fun x hx => by cases hx⟩
          · rw [hv] at HE HR3
            have hcx' : c = x.toNat := hcx x (by rw [hv])
            subst hcx'
            have HX : Hid (rQuo 300 [] l0 = rQuo (300 - (acc.length + 1)) (acc ++ [x]) r3) := HE
            clear hcx hv HE
            obtain ⟨i0, hi, hz0, hz1, hz2⟩ := info_parts Tryz.info5
            go_wp2_with (at_builtin; refine wpList_append_mine _ rfl _ _ 24 rfl 0 5 i0 (.int .u8 0) 1 1 Tryz.underlying24 hi hz0 hz1 hz2 rfl (by decide) (.slice a acc.length cap) acc.length (Lib.byteCells acc) rfl ?o1 ⟨w3.heap.size, 0, none⟩ 1 1 (by omega) [.int .u8 x.toNat] rfl rfl ?c1 ?c2 ?c3 ?c4 (Nat.zero_le _) ?_)
            case o1 => exact HB3.out.own.alloc _
            case c1 =>
              intro j u hj
              match j, hj with
              | 0, hj => simp at hj; subst hj; simp [Addr.add]
              | j + 1, hj => simp at hj
            case c2 => intro u hu; simp at hu; subst hu; rfl
            case c3 => unfold maxLen; omega
            case c4 => omega
            intro v' w4 hO4 hg4 g cap4 hv' hgg
            have hsz := HF3.out.size
            obtain ⟨hB4, hF4⟩ := (HB3.out.alloc _).grow (more := [x]) (by simp; omega) hO4 hg4 ⟨g, cap4, hv', by simpa using hgg⟩
            have HB4 := hide hB4
            have HF4 := hide ((HF3.out.trans (Fr.alloc _ _ _)).past hF4)
            have HR4 := hide ((HR3.out.keep (Fr.alloc Zero w3 _) (fun h => h)).keep hF4 (by omega))
            clear hB4 hF4 hO4 hg4 hgg
            subst hv'
            go_wp2_with fail
            refine ⟨⟨acc ++ [x], r3, by simp; omega, by simp [lenV], ?_, HB4, HR4, HF4⟩, by simp [lenV]; omega⟩
            rw [List.length_append]
            exact HX
      · have HC2 := hide hc
        have HE : Hid (rQuo 300 [] l0 = (some acc, r1)) := HQ.out.trans (rQuo_end _ acc r r1 hc)
        clear hc
        go_wp2_with fail
        refine (vAccept_yes HRr hs 34 HC2).mono ?_
        rintro e w2 ⟨rfl, hR2, hF2⟩
        have HR2 := hide hR2
        have HF2 := hide (HF.out.trans hF2)
        have HB2 := hide (HB.out.keep hF2 (fun k hk e => by have e' : k = rb := e; omega))
        clear hR2 hF2 hlen
        have hcv := HB2.out.conv
        go_wp2_with fail
        go_ret2
        rw [HU.out, HE.out]
        exact ⟨HF2, HR2, ba acc, rfl, fun x hx => by simp at hx; subst hx; rfl⟩

end Go.Proofs.YtdcjogpkogidaaaGreatDoor
end
section
namespace Go.Proofs.YtdcjogpkogidaaaGreatDoor
open Go.RowKit

theorem hexD_lt {l l1 : Bs} {h : Nat} (e : hexD l = some (h, l1)) : h < 16 := (hexD_some e).1

/-- What hexDigit leaves. -/
def HexPost (ty : TypeId) (w : World) (rb : Nat) (s : ByteArray) (l : Bs) (e : Ending) (w' : World) : Prop :=
  Fr (One rb) w w' ∧ ((∃ c : Nat, hexD l = none ∧ RB ty w' rb s l ∧ e = .returned (.tuple #[.int .u8 c, .bool false])) ∨ (∃ (h : Nat) (r : Bs), hexD l = some (h, r) ∧ RB ty w' rb s r ∧ e = .returned (.tuple #[.int .u8 h, .bool true])))

set_option maxHeartbeats 2000000 in
theorem hexDigit_any {ty : TypeId} {w : World} {rb : Nat} {s : ByteArray} {l : Bs} (h : RB ty w rb s l) (hs : s.size ≤ maxLen) :
    Calls Tryz.prog 169 #[.pointer (some ⟨rb, 0, none⟩)] w fun e w' => HexPost ty w rb s l e w' := by
  have HR := hide h
  clear h
  by_cases hv : ∃ b r, l = b :: r ∧ 48 ≤ b.toNat ∧ b.toNat ≤ 57
  · obtain ⟨b, r, rfl, h1, h2⟩ := hv
    have HV : Hid (hexD (b :: r) = some (b.toNat - 48, r)) := by show hexD _ = _; simp only [hexD]; rw [if_pos ⟨h1, h2⟩]
    have hI : (48 : Int) ≤ (b.toNat : Int) := by omega
    have hI2 : (b.toNat : Int) ≤ 57 := by omega
    go_enter Tryz.func169, Tryz.ntmps169
    go_wp2_with fail
    refine (vIn_yes HR hs 48 57 (by omega) (by omega)).mono ?_
    rintro e w1 ⟨rfl, hR1, hF1⟩
    have HR1 := hide hR1
    have HF1 := hide hF1
    clear hR1 hF1
    go_wp2_with fail
    go_ret2
    refine ⟨HF1, .inr ⟨b.toNat - 48, r, HV, HR1, ?_⟩⟩
    rw [show ((b.toNat - 48 : Nat) : Int) = (b.toNat : Int) - 48 by omega]
    rfl
  · have hno : ∀ b r, l = b :: r → (b.toNat : Int) < 48 ∨ (57 : Int) < (b.toNat : Int) := fun b r e => by
      by_cases h1 : 48 ≤ b.toNat
      · by_cases h2 : b.toNat ≤ 57
        · exact (hv ⟨b, r, e, h1, h2⟩).elim
        · omega
      · omega
    have HNO := hide hno
    by_cases hv2 : ∃ b r, l = b :: r ∧ 97 ≤ b.toNat ∧ b.toNat ≤ 102
    · obtain ⟨b, r, rfl, h1, h2⟩ := hv2
      have HV : Hid (hexD (b :: r) = some (b.toNat - 87, r)) := by show hexD _ = _; simp only [hexD]; rw [if_neg (by omega), if_pos ⟨h1, h2⟩]
      have hI : (97 : Int) ≤ (b.toNat : Int) := by omega
      have hI2 : (b.toNat : Int) ≤ 102 := by omega
      clear hv hno
      go_enter Tryz.func169, Tryz.ntmps169
      go_wp2_with fail
      refine (vIn_no HR hs 48 57 HNO).mono ?_
      rintro e w1 ⟨rfl, hR1, hF1⟩
      have HR1 := hide hR1
      have HF1 := hide hF1
      clear hR1 hF1
      go_wp2_with fail
      refine (vIn_yes HR1 hs 97 102 (by omega) (by omega)).mono ?_
      rintro e w2 ⟨rfl, hR2, hF2⟩
      have HR2 := hide hR2
      have HF2 := hide (HF1.out.trans hF2)
      clear hR2 hF2
      go_wp2_with fail
      go_ret2
      refine ⟨HF2, .inr ⟨b.toNat - 87, r, HV, HR2, ?_⟩⟩
      rw [show ((b.toNat - 87 : Nat) : Int) = (b.toNat : Int) - 97 + 10 by omega]
      rfl
    · have hno2 : ∀ b r, l = b :: r → (b.toNat : Int) < 97 ∨ (102 : Int) < (b.toNat : Int) := fun b r e => by
        by_cases h1 : 97 ≤ b.toNat
        · by_cases h2 : b.toNat ≤ 102
          · exact (hv2 ⟨b, r, e, h1, h2⟩).elim
          · omega
        · omega
      have HNO2 := hide hno2
      have HV : Hid (hexD l = none) := by
        show hexD l = _
        cases l with
        | nil => rfl
        | cons b r =>
          have := hno b r rfl
          have := hno2 b r rfl
          simp only [hexD]; rw [if_neg (by omega), if_neg (by omega)]
      clear hv hv2 hno hno2
      go_enter Tryz.func169, Tryz.ntmps169
      go_wp2_with fail
      refine (vIn_no HR hs 48 57 HNO).mono ?_
      rintro e w1 ⟨rfl, hR1, hF1⟩
      have HR1 := hide hR1
      have HF1 := hide hF1
      clear hR1 hF1
      go_wp2_with fail
      refine (vIn_no HR1 hs 97 102 HNO2).mono ?_
      rintro e w2 ⟨rfl, hR2, hF2⟩
      have HR2 := hide hR2
      have HF2 := hide (HF1.out.trans hF2)
      clear hR2 hF2
      go_wp2_with fail
      go_ret2
      exact ⟨HF2, .inl ⟨169, HV, HR2, rfl⟩⟩

theorem hex_or : ∀ h, h < 16 → ∀ g, g < 16 → bits BinOp.or IntKind.u8 ((h : Nat) * 16 : Int) (g : Nat) = ((16 * h + g : Nat) : Int) := by decide +kernel

set_option maxHeartbeats 4000000 in
set_option maxRecDepth 100000 in
theorem hexadecimal_any {ty : TypeId} {w : World} {rb : Nat} {s : ByteArray} {l : Bs} (h : RB ty w rb s l) (hs : s.size ≤ maxLen) :
    Calls Tryz.prog 114 #[.pointer (some ⟨rb, 0, none⟩)] w fun e w' => StrPost ty w rb s (rHexa l) e w' := by
  have HR := hide h
  have hrb := h.lt
  rcases hc : rAcc 120 l with _ | l0
  · have HC := hide hc
    have HU : Hid (rHexa l = (none, l)) := by show rHexa l = _; unfold rHexa; rw [hc]
    clear hc h
    go_enter Tryz.func114, Tryz.ntmps114
    go_wp2_with fail
    refine (vAccept_no HR hs 120 HC).mono ?_
    rintro e w1 ⟨rfl, hR1, hF1⟩
    have HR1 := hide hR1
    have HF1 := hide hF1
    clear hR1 hF1
    go_wp2_with fail
    go_ret2
    rw [HU.out]
    exact ⟨HF1, HR1, ⟨#[]⟩, rfl, fun x hx => by cases hx⟩
  · have HC := hide hc
    have HU : Hid (rHexa l = rHex 300 [] l0) := by show rHexa l = _; unfold rHexa; rw [hc]
    clear hc h
    go_enter Tryz.func114, Tryz.ntmps114
    go_wp2_with fail
    refine (vAccept_yes HR hs 120 HC).mono ?_
    rintro e w1 ⟨rfl, hR1, hF1⟩
    have HR1 := hide hR1
    have HF1 := hide hF1
    clear hR1 hF1
    go_wp2_with fail
    go_loopw [4] (fun bv wr => ∃ (acc r : Bs), acc.length ≤ 300 ∧ lenV bv = acc.length ∧ Hid (rHex 300 [] l0 = rHex (300 - acc.length) acc r) ∧ Hid (BO wr w.heap.size bv acc) ∧ Hid (RB ty wr rb s r) ∧ Hid (Fr (One rb) w wr)) (fun bv _ => 300 - lenV bv)
    case atStart => exact ⟨[], l0, by simp, rfl, rfl, BO.nil _ _, HR1, HF1⟩
    case round =>
      obtain ⟨acc, r, hacc, hlen, HQ, HB, HRr, HF⟩ := hrel
      obtain ⟨a, cap, rfl⟩ := HB.out.len
      clear hlen
      by_cases hfull : acc.length < 300
      · have hfI : (acc.length : Int) < 300 := by omega
        go_wp2_with fail
        refine (hexDigit_any HRr hs).mono ?_
        rintro e w2 ⟨hF2, ⟨c, hN, hR2, rfl⟩ | ⟨x, r2, hY, hR2, rfl⟩⟩
        · have HE : Hid (rHex 300 [] l0 = (some acc, r)) := HQ.out.trans (by rw [show 300 - acc.length = (300 - (acc.length + 1)) + 1 by omega]; simp only [rHex]; rw [hN])
          have HR2 := hide hR2
          have HF2 := hide (HF.out.trans hF2)
          have HB2 := hide (HB.out.keep hF2 (fun k hk e => by have e' : k = rb := e; omega))
          have hcv := HB2.out.conv
          clear hR2 hF2 hN
          go_wp2_with fail
          go_ret2
          rw [HU.out, HE.out]
          exact ⟨HF2, HR2, ba acc, rfl, fun x hx => by simp at hx; subst hx; rfl⟩
        · have HR2 := hide hR2
          have HF2 := hide (HF.out.trans hF2)
          have HB2 := hide (HB.out.keep hF2 (fun k hk e => by have e' : k = rb := e; omega))
          have HY := hide hY
          have hx16 := hexD_lt hY
          clear hR2 hF2 hY
          go_wp2_with fail
          refine (hexDigit_any HR2 hs).mono ?_
          rintro e w3 ⟨hF3, ⟨c, hN, hR3, rfl⟩ | ⟨y, r3, hY2, hR3, rfl⟩⟩
          · have HE : Hid (rHex 300 [] l0 = (none, r2)) := HQ.out.trans (by rw [show 300 - acc.length = (300 - (acc.length + 1)) + 1 by omega]; simp only [rHex]; rw [HY.out]; simp only [hN])
            have HR3 := hide hR3
            have HF3 := hide (HF2.out.trans hF3)
            clear hR3 hF3 hN
            go_wp2_with fail
            go_ret2
            rw [HU.out, HE.out]
            exact ⟨HF3, HR3, ⟨#[]⟩, rfl, fun x hx => by cases hx⟩
          · have HE : Hid (rHex 300 [] l0 = rHex (300 - (acc.length + 1)) (acc ++ [UInt8.ofNat (16 * x + y)]) r3) := HQ.out.trans (by rw [show 300 - acc.length = (300 - (acc.length + 1)) + 1 by omega]; simp only [rHex]; rw [HY.out]; simp only [hY2])
            have hy16 := hexD_lt hY2
            have HR3 := hide hR3
            have HF3 := hide (HF2.out.trans hF3)
            have HB3 := hide (HB2.out.keep hF3 (fun k hk e => by have e' : k = rb := e; omega))
            clear hR3 hF3 hY2
            obtain ⟨z, hz⟩ : ∃ z, z = UInt8.ofNat (16 * x + y) := ⟨_, rfl⟩
            have hor : bits BinOp.or IntKind.u8 ((x : Nat) * 16 : Int) (y : Nat) = (z.toNat : Int) := by rw [hex_or x hx16 y hy16, hz, toNat_ofNat (by omega)]
            rw [← hz] at HE
            clear hz
            obtain ⟨i0, hi, hz0, hz1, hz2⟩ := info_parts Tryz.info5
            go_wp2_with (at_builtin; refine wpList_append_mine _ rfl _ _ 24 rfl 0 5 i0 (.int .u8 0) 1 1 Tryz.underlying24 hi hz0 hz1 hz2 rfl (by decide) (.slice a acc.length cap) acc.length (Lib.byteCells acc) rfl ?o1 ⟨w3.heap.size, 0, none⟩ 1 1 (by omega) [.int .u8 z.toNat] rfl rfl ?c1 ?c2 ?c3 ?c4 (Nat.zero_le _) ?_)
            case o1 => exact HB3.out.own.alloc _
            case c1 =>
              intro j u hj
              match j, hj with
              | 0, hj => simp at hj; subst hj; simp [Addr.add]
              | j + 1, hj => simp at hj
            case c2 => intro u hu; simp at hu; subst hu; rfl
            case c3 => unfold maxLen; omega
            case c4 => omega
            intro v' w4 hO4 hg4 g cap4 hv' hgg
            have hsz := HF3.out.size
            obtain ⟨hB4, hF4⟩ := (HB3.out.alloc _).grow (more := [z]) (by simp; omega) hO4 hg4 ⟨g, cap4, hv', by simpa using hgg⟩
            have HB4 := hide hB4
            have HF4 := hide ((HF3.out.trans (Fr.alloc _ _ _)).past hF4)
            have HR4 := hide ((HR3.out.keep (Fr.alloc Zero w3 _) (fun h => h)).keep hF4 (by omega))
            clear hB4 hF4 hO4 hg4 hgg
            subst hv'
            go_wp2_with fail
            refine ⟨⟨acc ++ [z], r3, by simp; omega, by simp [lenV], ?_, HB4, HR4, HF4⟩, by simp [lenV]; omega⟩
            rw [List.length_append]
            exact HE
      · have hfI : ¬ (acc.length : Int) < 300 := by omega
        have HE : Hid (rHex 300 [] l0 = (some acc, r)) := HQ.out.trans (by rw [show 300 - acc.length = 0 by omega]; rfl)
        have hcv := HB.out.conv
        go_wp2_with fail
        go_ret2
        rw [HU.out, HE.out]
        exact ⟨HF, HRr, ba acc, rfl, fun x hx => by simp at hx; subst hx; rfl⟩

end Go.Proofs.YtdcjogpkogidaaaGreatDoor
end
