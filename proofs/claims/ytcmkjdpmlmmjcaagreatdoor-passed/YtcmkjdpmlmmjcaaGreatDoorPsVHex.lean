/- How bytes are read of a text: two digits each. -/
import Derived.Test.YtcmkjdpmlmmjcaaGreatDoorPsVText
namespace Go.Proofs.YtcmkjdpmlmmjcaaGreatDoor
open Go.RowKit

theorem hexD_lt {l l1 : Bs} {h : Nat} (e : hexD l = some (h, l1)) : h < 16 := (hexD_some e).1

/-- What hexDigit leaves. -/
def HexPost (ty : TypeId) (w : World) (rb : Nat) (s : ByteArray) (l : Bs) (e : Ending) (w' : World) : Prop :=
  Fr (One rb) w w' ∧ ((∃ c : Nat, hexD l = none ∧ RB ty w' rb s l ∧ e = .returned (.tuple #[.int .u8 c, .bool false])) ∨ (∃ (h : Nat) (r : Bs), hexD l = some (h, r) ∧ RB ty w' rb s r ∧ e = .returned (.tuple #[.int .u8 h, .bool true])))

set_option maxHeartbeats 2000000 in
theorem hexDigit_any {ty : TypeId} {w : World} {rb : Nat} {s : ByteArray} {l : Bs} (h : RB ty w rb s l) (hs : s.size ≤ maxLen) :
    Calls Tryz.prog 106 #[.pointer (some ⟨rb, 0, none⟩)] w fun e w' => HexPost ty w rb s l e w' := by
  have HR := hide h
  clear h
  by_cases hv : ∃ b r, l = b :: r ∧ 48 ≤ b.toNat ∧ b.toNat ≤ 57
  · obtain ⟨b, r, rfl, h1, h2⟩ := hv
    have HV : Hid (hexD (b :: r) = some (b.toNat - 48, r)) := by show hexD _ = _; simp only [hexD]; rw [if_pos ⟨h1, h2⟩]
    have hI : (48 : Int) ≤ (b.toNat : Int) := by omega
    have hI2 : (b.toNat : Int) ≤ 57 := by omega
    go_enter Tryz.func106, Tryz.ntmps106
    go_wp2_with fail
    refine (vIn_yes HR hs 48 57 (by omega) (by omega)).mono ?_
    rintro e w1 ⟨rfl, hR1, hF1⟩
    have HR1 := hide hR1
    have HF1 := hide hF1
    clear hR1 hF1
    go_wp2_with fail
    go_ret2
    refine ⟨HF1, .inr ⟨b.toNat - 48, r, HV, HR1, ?_⟩⟩
    rw [show ((b.toNat - 48 : Nat) : Int) = (b.toNat : Int) - 48 by omega]
    rfl
  · have hno : ∀ b r, l = b :: r → (b.toNat : Int) < 48 ∨ (57 : Int) < (b.toNat : Int) := fun b r e => by
      by_cases h1 : 48 ≤ b.toNat
      · by_cases h2 : b.toNat ≤ 57
        · exact (hv ⟨b, r, e, h1, h2⟩).elim
        · omega
      · omega
    have HNO := hide hno
    by_cases hv2 : ∃ b r, l = b :: r ∧ 97 ≤ b.toNat ∧ b.toNat ≤ 102
    · obtain ⟨b, r, rfl, h1, h2⟩ := hv2
      have HV : Hid (hexD (b :: r) = some (b.toNat - 87, r)) := by show hexD _ = _; simp only [hexD]; rw [if_neg (by omega), if_pos ⟨h1, h2⟩]
      have hI : (97 : Int) ≤ (b.toNat : Int) := by omega
      have hI2 : (b.toNat : Int) ≤ 102 := by omega
      clear hv hno
      go_enter Tryz.func106, Tryz.ntmps106
      go_wp2_with fail
      refine (vIn_no HR hs 48 57 HNO).mono ?_
      rintro e w1 ⟨rfl, hR1, hF1⟩
      have HR1 := hide hR1
      have HF1 := hide hF1
      clear hR1 hF1
      go_wp2_with fail
      refine (vIn_yes HR1 hs 97 102 (by omega) (by omega)).mono ?_
      rintro e w2 ⟨rfl, hR2, hF2⟩
      have HR2 := hide hR2
      have HF2 := hide (HF1.out.trans hF2)
      clear hR2 hF2
      go_wp2_with fail
      go_ret2
      refine ⟨HF2, .inr ⟨b.toNat - 87, r, HV, HR2, ?_⟩⟩
      rw [show ((b.toNat - 87 : Nat) : Int) = (b.toNat : Int) - 97 + 10 by omega]
      rfl
    · have hno2 : ∀ b r, l = b :: r → (b.toNat : Int) < 97 ∨ (102 : Int) < (b.toNat : Int) := fun b r e => by
        by_cases h1 : 97 ≤ b.toNat
        · by_cases h2 : b.toNat ≤ 102
          · exact (hv2 ⟨b, r, e, h1, h2⟩).elim
          · omega
        · omega
      have HNO2 := hide hno2
      have HV : Hid (hexD l = none) := by
        show hexD l = _
        cases l with
        | nil => rfl
        | cons b r =>
          have := hno b r rfl
          have := hno2 b r rfl
          simp only [hexD]; rw [if_neg (by omega), if_neg (by omega)]
      clear hv hv2 hno hno2
      go_enter Tryz.func106, Tryz.ntmps106
      go_wp2_with fail
      refine (vIn_no HR hs 48 57 HNO).mono ?_
      rintro e w1 ⟨rfl, hR1, hF1⟩
      have HR1 := hide hR1
      have HF1 := hide hF1
      clear hR1 hF1
      go_wp2_with fail
      refine (vIn_no HR1 hs 97 102 HNO2).mono ?_
      rintro e w2 ⟨rfl, hR2, hF2⟩
      have HR2 := hide hR2
      have HF2 := hide (HF1.out.trans hF2)
      clear hR2 hF2
      go_wp2_with fail
      go_ret2
      exact ⟨HF2, .inl ⟨169, HV, HR2, rfl⟩⟩

theorem hex_or : ∀ h, h < 16 → ∀ g, g < 16 → bits BinOp.or IntKind.u8 ((h : Nat) * 16 : Int) (g : Nat) = ((16 * h + g : Nat) : Int) := by decide +kernel

set_option maxHeartbeats 4000000 in
set_option maxRecDepth 100000 in
theorem hexadecimal_any {ty : TypeId} {w : World} {rb : Nat} {s : ByteArray} {l : Bs} (h : RB ty w rb s l) (hs : s.size ≤ maxLen) :
    Calls Tryz.prog 68 #[.pointer (some ⟨rb, 0, none⟩)] w fun e w' => StrPost ty w rb s (rHexa l) e w' := by
  have HR := hide h
  have hrb := h.lt
  rcases hc : rAcc 120 l with _ | l0
  · have HC := hide hc
    have HU : Hid (rHexa l = (none, l)) := by show rHexa l = _; unfold rHexa; rw [hc]
    clear hc h
    go_enter Tryz.func68, Tryz.ntmps68
    go_wp2_with fail
    refine (vAccept_no HR hs 120 HC).mono ?_
    rintro e w1 ⟨rfl, hR1, hF1⟩
    have HR1 := hide hR1
    have HF1 := hide hF1
    clear hR1 hF1
    go_wp2_with fail
    go_ret2
    rw [HU.out]
    exact ⟨HF1, HR1, ⟨#[]⟩, rfl, fun x hx => by cases hx⟩
  · have HC := hide hc
    have HU : Hid (rHexa l = rHex 300 [] l0) := by show rHexa l = _; unfold rHexa; rw [hc]
    clear hc h
    go_enter Tryz.func68, Tryz.ntmps68
    go_wp2_with fail
    refine (vAccept_yes HR hs 120 HC).mono ?_
    rintro e w1 ⟨rfl, hR1, hF1⟩
    have HR1 := hide hR1
    have HF1 := hide hF1
    clear hR1 hF1
    go_wp2_with fail
    go_loopw [4] (fun bv wr => ∃ (acc r : Bs), acc.length ≤ 300 ∧ lenV bv = acc.length ∧ Hid (rHex 300 [] l0 = rHex (300 - acc.length) acc r) ∧ Hid (BO wr w.heap.size bv acc) ∧ Hid (RB ty wr rb s r) ∧ Hid (Fr (One rb) w wr)) (fun bv _ => 300 - lenV bv)
    case atStart => exact ⟨[], l0, by simp, rfl, rfl, BO.nil _ _, HR1, HF1⟩
    case round =>
      obtain ⟨acc, r, hacc, hlen, HQ, HB, HRr, HF⟩ := hrel
      obtain ⟨a, cap, rfl⟩ := HB.out.len
      clear hlen
      by_cases hfull : acc.length < 300
      · have hfI : (acc.length : Int) < 300 := by omega
        go_wp2_with fail
        refine (hexDigit_any HRr hs).mono ?_
        rintro e w2 ⟨hF2, ⟨c, hN, hR2, rfl⟩ | ⟨x, r2, hY, hR2, rfl⟩⟩
        · have HE : Hid (rHex 300 [] l0 = (some acc, r)) := HQ.out.trans (by rw [show 300 - acc.length = (300 - (acc.length + 1)) + 1 by omega]; simp only [rHex]; rw [hN])
          have HR2 := hide hR2
          have HF2 := hide (HF.out.trans hF2)
          have HB2 := hide (HB.out.keep hF2 (fun k hk e => by have e' : k = rb := e; omega))
          have hcv := HB2.out.conv
          clear hR2 hF2 hN
          go_wp2_with fail
          go_ret2
          rw [HU.out, HE.out]
          exact ⟨HF2, HR2, ba acc, rfl, fun x hx => by simp at hx; subst hx; rfl⟩
        · have HR2 := hide hR2
          have HF2 := hide (HF.out.trans hF2)
          have HB2 := hide (HB.out.keep hF2 (fun k hk e => by have e' : k = rb := e; omega))
          have HY := hide hY
          have hx16 := hexD_lt hY
          clear hR2 hF2 hY
          go_wp2_with fail
          refine (hexDigit_any HR2 hs).mono ?_
          rintro e w3 ⟨hF3, ⟨c, hN, hR3, rfl⟩ | ⟨y, r3, hY2, hR3, rfl⟩⟩
          · have HE : Hid (rHex 300 [] l0 = (none, r2)) := HQ.out.trans (by rw [show 300 - acc.length = (300 - (acc.length + 1)) + 1 by omega]; simp only [rHex]; rw [HY.out]; simp only [hN])
            have HR3 := hide hR3
            have HF3 := hide (HF2.out.trans hF3)
            clear hR3 hF3 hN
            go_wp2_with fail
            go_ret2
            rw [HU.out, HE.out]
            exact ⟨HF3, HR3, ⟨#[]⟩, rfl, fun x hx => by cases hx⟩
          · have HE : Hid (rHex 300 [] l0 = rHex (300 - (acc.length + 1)) (acc ++ [UInt8.ofNat (16 * x + y)]) r3) := HQ.out.trans (by rw [show 300 - acc.length = (300 - (acc.length + 1)) + 1 by omega]; simp only [rHex]; rw [HY.out]; simp only [hY2])
            have hy16 := hexD_lt hY2
            have HR3 := hide hR3
            have HF3 := hide (HF2.out.trans hF3)
            have HB3 := hide (HB2.out.keep hF3 (fun k hk e => by have e' : k = rb := e; omega))
            clear hR3 hF3 hY2
            obtain ⟨z, hz⟩ : ∃ z, z = UInt8.ofNat (16 * x + y) := ⟨_, rfl⟩
            have hor : bits BinOp.or IntKind.u8 ((x : Nat) * 16 : Int) (y : Nat) = (z.toNat : Int) := by rw [hex_or x hx16 y hy16, hz, toNat_ofNat (by omega)]
            rw [← hz] at HE
            clear hz
            obtain ⟨i0, hi, hz0, hz1, hz2⟩ := info_parts Tryz.info5
            go_wp2_with (at_builtin; refine wpList_append_mine _ rfl _ _ 61 rfl 0 5 i0 (.int .u8 0) 1 1 Tryz.underlying61 hi hz0 hz1 hz2 rfl (by decide) (.slice a acc.length cap) acc.length (Lib.byteCells acc) rfl ?o1 ⟨w3.heap.size, 0, none⟩ 1 1 (by omega) [.int .u8 z.toNat] rfl rfl ?c1 ?c2 ?c3 ?c4 (Nat.zero_le _) ?_)
            case o1 => exact HB3.out.own.alloc _
            case c1 =>
              intro j u hj
              match j, hj with
              | 0, hj => simp at hj; subst hj; simp [Addr.add]
              | j + 1, hj => simp at hj
            case c2 => intro u hu; simp at hu; subst hu; rfl
            case c3 => unfold maxLen; omega
            case c4 => omega
            intro v' w4 hO4 hg4 g cap4 hv' hgg
            have hsz := HF3.out.size
            obtain ⟨hB4, hF4⟩ := (HB3.out.alloc _).grow (more := [z]) (by simp; omega) hO4 hg4 ⟨g, cap4, hv', by simpa using hgg⟩
            have HB4 := hide hB4
            have HF4 := hide ((HF3.out.trans (Fr.alloc _ _ _)).past hF4)
            have HR4 := hide ((HR3.out.keep (Fr.alloc Zero w3 _) (fun h => h)).keep hF4 (by omega))
            clear hB4 hF4 hO4 hg4 hgg
            subst hv'
            go_wp2_with fail
            refine ⟨⟨acc ++ [z], r3, by simp; omega, by simp [lenV], ?_, HB4, HR4, HF4⟩, by simp [lenV]; omega⟩
            rw [List.length_append]
            exact HE
      · have hfI : ¬ (acc.length : Int) < 300 := by omega
        have HE : Hid (rHex 300 [] l0 = (some acc, r)) := HQ.out.trans (by rw [show 300 - acc.length = 0 by omega]; rfl)
        have hcv := HB.out.conv
        go_wp2_with fail
        go_ret2
        rw [HU.out, HE.out]
        exact ⟨HF, HRr, ba acc, rfl, fun x hx => by simp at hx; subst hx; rfl⟩

end Go.Proofs.YtcmkjdpmlmmjcaaGreatDoor
