/- How numbers are read of a text. -/
import Derived.Test.YtdcjogpkogidaaaGreatDoorMdVMem
namespace Go.Proofs.YtdcjogpkogidaaaGreatDoor
open Go.RowKit

theorem width_k (k : Nat) (hk : k ≤ 2) (w : World) :
    Calls Tryz.prog 120 #[.int .i64 k] w fun e w' => e = .returned (.int .i64 (widthOf k)) ∧ w' = w := by
  match k, hk with
  | 0, _ => go_enter Tryz.func120, Tryz.ntmps120; go_wp2; go_ret; exact ⟨rfl, rfl⟩
  | 1, _ => go_enter Tryz.func120, Tryz.ntmps120; go_wp2; go_ret; exact ⟨rfl, rfl⟩
  | 2, _ => go_enter Tryz.func120, Tryz.ntmps120; go_wp2; go_ret; exact ⟨rfl, rfl⟩

theorem greatest_k (k : Nat) (hk : k ≤ 2) (w : World) :
    Calls Tryz.prog 162 #[.int .i64 k] w fun e w' => e = .returned (.int .u64 (mostOf k)) ∧ w' = w := by
  match k, hk with
  | 0, _ =>
    go_enter Tryz.func162, Tryz.ntmps162
    go_wp2_with fail
    refine (width_k 0 (by omega) _).mono ?_
    rw [show ((widthOf 0 : Nat) : Int) = 1 from rfl]
    rintro e w1 ⟨rfl, e1⟩
    obtain rfl := e1.symm
    go_wp2; go_ret; exact ⟨rfl, rfl⟩
  | 1, _ =>
    go_enter Tryz.func162, Tryz.ntmps162
    go_wp2_with fail
    refine (width_k 1 (by omega) _).mono ?_
    rw [show ((widthOf 1 : Nat) : Int) = 2 from rfl]
    rintro e w1 ⟨rfl, e1⟩
    obtain rfl := e1.symm
    go_wp2; go_ret; exact ⟨rfl, rfl⟩
  | 2, _ =>
    go_enter Tryz.func162, Tryz.ntmps162
    go_wp2_with fail
    refine (width_k 2 (by omega) _).mono ?_
    rw [show ((widthOf 2 : Nat) : Int) = 4 from rfl]
    rintro e w1 ⟨rfl, e1⟩
    obtain rfl := e1.symm
    go_wp2; go_ret; exact ⟨rfl, rfl⟩

/-- What digits leaves. -/
def DigPost (ty : TypeId) (w : World) (rb : Nat) (s : ByteArray) (l : Bs) (most : Nat) (e : Ending) (w' : World) : Prop :=
  Fr (One rb) w w' ∧ RB ty w' rb s (rUns most l).2 ∧ ∃ n : Nat, n ≤ most ∧ e = .returned (.tuple #[.int .u64 n, .bool (rUns most l).1.isSome]) ∧ ((rUns most l).1.isSome = true → (rUns most l).1 = some n)

theorem DigPost.of {ty : TypeId} {w w' : World} {rb : Nat} {s : ByteArray} {l r : Bs} {most acc : Nat} (hc : rAcc 48 l = none) (hD : rDigits most 0 l = (acc, r)) (hF : Fr (One rb) w w') (hR : RB ty w' rb s r) (ha : acc ≤ most) (hl : l.length ≤ s.size) (hr : r.length ≤ l.length) :
    DigPost ty w rb s l most (.returned (.tuple #[.int .u64 acc, .bool (decide (pos s l < pos s r))])) w' := by
  have hU : rUns most l = (if r.length < l.length then some acc else none, r) := by
    unfold rUns
    rw [hc]
    simp only [hD]
  unfold DigPost
  rw [hU]
  refine ⟨hF, hR, acc, ha, ?_, ?_⟩
  · have : decide (pos s l < pos s r) = (if r.length < l.length then some acc else none).isSome := by
      unfold pos
      by_cases h : r.length < l.length
      · rw [if_pos h]; simp; omega
      · rw [if_neg h]; simp; omega
    rw [this]
  · intro h
    by_cases h' : r.length < l.length
    · simp [h']
    · simp [h'] at h

set_option maxHeartbeats 4000000 in
theorem digits_any {ty : TypeId} {w : World} {rb : Nat} {s : ByteArray} {l : Bs} (most : Nat) (h9 : 255 ≤ most) (hm : most ≤ 9223372036854775808) (h : RB ty w rb s l) (hs : s.size ≤ maxLen) :
    Calls Tryz.prog 161 #[.pointer (some ⟨rb, 0, none⟩), .int .u64 most] w fun e w' => DigPost ty w rb s l most e w' := by
  have HR := hide h
  have hs' := hs
  unfold maxLen at hs'
  rcases hc : rAcc 48 l with _ | r
  · have HC := hide hc
    clear hc h
    go_enter Tryz.func161, Tryz.ntmps161
    go_wp2_with fail
    refine (vAccept_no HR hs 48 HC).mono ?_
    rintro e w1 ⟨rfl, hR1, hF1⟩
    have HR1 := hide hR1
    have HF1 := hide hF1
    clear hR1 hF1
    go_wp2_with fail
    refine (vAt HR1).mono ?_
    rintro e w2 ⟨rfl, e2⟩
    obtain rfl := e2.symm
    go_wp2_with fail
    go_loopw [6] (fun nv wr => ∃ (acc : Nat) (r : Bs), nv = .int .u64 acc ∧ acc ≤ most ∧ r.length ≤ l.length ∧ Hid (rDigits most 0 l = rDigits most acc r) ∧ Hid (RB ty wr rb s r) ∧ Hid (Fr (One rb) w wr)) (fun _ wr => s.size + 1 - placeR rb wr)
    case atStart => exact ⟨0, l, rfl, by omega, Nat.le_refl _, rfl, HR1, HF1⟩
    case round =>
      obtain ⟨acc, r, rfl, hacc, hrl, HD, HRr, HF⟩ := hrel
      have hl1 := HR.out.len
      rcases r with _ | ⟨b, r⟩
      · have HE : Hid (rDigits most 0 l = (acc, [])) := HD.out.trans rfl
        clear HD
        go_wp2_with fail
        refine (vPeek_no HRr hs).mono ?_
        rintro e w3 ⟨rfl, hR3, hF3⟩
        have HR3 := hide hR3
        have HF3 := hide (HF.out.trans hF3)
        clear hR3 hF3
        go_wp2_with fail
        refine (vAt HR3).mono ?_
        rintro e w4 ⟨rfl, e4⟩
        obtain rfl := e4.symm
        go_wp2_with fail
        go_ret2
        exact DigPost.of HC HE HF3 HR3 hacc hl1 hrl
      · have hb := b.toNat_lt
        have hrl2 := hrl
        simp only [List.length_cons] at hrl2
        have HRL := hide hrl
        have hl0 := HRr.out.len
        have HPC := hide HRr.out.place
        clear hrl
        by_cases c1 : b.toNat < 48 ∨ 57 < b.toNat
        · have HE : Hid (rDigits most 0 l = (acc, b :: r)) := HD.out.trans (by simp only [rDigits]; rw [if_pos (by omega)])
          clear HD
          go_wp2_with fail
          refine (vPeek_yes HRr hs).mono ?_
          rintro e w3 ⟨rfl, hR3, hF3⟩
          have HR3 := hide hR3
          have HF3 := hide (HF.out.trans hF3)
          clear hR3 hF3
          rcases c1 with c1 | c1
          · have c1I : (b.toNat : Int) < 48 := by omega
            go_wp2_with fail
            refine (vAt HR3).mono ?_
            rintro e w4 ⟨rfl, e4⟩
            obtain rfl := e4.symm
            go_wp2_with fail
            go_ret2
            exact DigPost.of HC HE HF3 HR3 hacc hl1 HRL
          · have c1I : ¬ (b.toNat : Int) < 48 := by omega
            have c2I : (57 : Int) < (b.toNat : Int) := by omega
            go_wp2_with fail
            refine (vAt HR3).mono ?_
            rintro e w4 ⟨rfl, e4⟩
            obtain rfl := e4.symm
            go_wp2_with fail
            go_ret2
            exact DigPost.of HC HE HF3 HR3 hacc hl1 HRL
        · have c1I : ¬ (b.toNat : Int) < 48 := by omega
          have c2I : ¬ (57 : Int) < (b.toNat : Int) := by omega
          go_wp2_with fail
          refine (vPeek_yes HRr hs).mono ?_
          rintro e w3 ⟨rfl, hR3, hF3⟩
          have HR3 := hide hR3
          have HF3 := hide (HF.out.trans hF3)
          clear hR3 hF3
          by_cases c3 : (most - (b.toNat - 48)) / 10 < acc
          · have HE : Hid (rDigits most 0 l = (acc, b :: r)) := HD.out.trans (by simp only [rDigits]; rw [if_pos (by omega)])
            go_wp2_with fail
            refine (vAt HR3).mono ?_
            rintro e w4 ⟨rfl, e4⟩
            obtain rfl := e4.symm
            go_wp2_with fail
            go_ret2
            exact DigPost.of HC HE HF3 HR3 hacc hl1 HRL
          · have HE : Hid (rDigits most 0 l = rDigits most (acc * 10 + (b.toNat - 48)) r) := HD.out.trans (by simp only [rDigits]; rw [if_neg (by omega)])
            go_wp2_with fail
            refine (vStep (a := [b]) HR3 hs 1 rfl).mono ?_
            rintro e w4 ⟨rfl, hR4, hF4⟩
            have HR4 := hide hR4
            have HF4 := hide (HF3.out.trans hF4)
            have HPC4 := hide hR4.place
            clear hR4 hF4
            go_wp2_with fail
            refine ⟨⟨acc * 10 + (b.toNat - 48), r, by go_num, by omega, by omega, HE, HR4, HF4⟩, ?_⟩
            rw [HPC.out, HPC4.out]
            simp only [pos, List.length_cons]
            simp only [List.length_cons] at hl0
            omega
  · have HC := hide hc
    have HU : Hid (rUns most l = (some 0, r)) := by show rUns most l = _; unfold rUns; rw [hc]
    clear hc h
    go_enter Tryz.func161, Tryz.ntmps161
    go_wp2_with fail
    refine (vAccept_yes HR hs 48 HC).mono ?_
    rintro e w1 ⟨rfl, hR1, hF1⟩
    have HR1 := hide hR1
    have HF1 := hide hF1
    clear hR1 hF1
    go_wp2_with fail
    go_ret2
    unfold DigPost
    rw [HU.out]
    exact ⟨HF1, HR1, 0, by omega, rfl, fun _ => rfl⟩

/-- What a reader of a number leaves. -/
def NumPost (ty : TypeId) (w : World) (rb : Nat) (s : ByteArray) (res : Option Int × Bs) (e : Ending) (w' : World) : Prop :=
  Fr (One rb) w w' ∧ RB ty w' rb s res.2 ∧ ∃ m : Int, e = .returned (.tuple #[.int .i64 m, .bool res.1.isSome]) ∧ (∀ x, res.1 = some x → m = x)

theorem NumPost.after {ty : TypeId} {w w1 w' : World} {rb : Nat} {s : ByteArray} {res : Option Int × Bs} {e : Ending} (h : NumPost ty w1 rb s res e w') (hf : Fr (One rb) w w1) : NumPost ty w rb s res e w' :=
  ⟨hf.trans h.1, h.2⟩

def rUnsI (most : Nat) (l : Bs) : Option Int × Bs := ((rUns most l).1.map Int.ofNat, (rUns most l).2)

theorem NumPost.uns {ty : TypeId} {w w' : World} {rb : Nat} {s : ByteArray} {l : Bs} {most n : Nat} (hF : Fr (One rb) w w') (hR : RB ty w' rb s (rUns most l).2) (hn : (rUns most l).1.isSome = true → (rUns most l).1 = some n) : NumPost ty w rb s (rUnsI most l) (.returned (.tuple #[.int .i64 n, .bool (rUns most l).1.isSome])) w' := by
  refine ⟨hF, hR, n, by simp [rUnsI], fun x hx => ?_⟩
  simp only [rUnsI, Option.map_eq_some_iff] at hx
  obtain ⟨m, hm, rfl⟩ := hx
  have := hn (by rw [hm]; rfl)
  rw [this] at hm
  simp at hm
  subst hm
  rfl

set_option maxHeartbeats 1000000 in
theorem unsigned_any {ty : TypeId} {w : World} {rb : Nat} {s : ByteArray} {l : Bs} (k : Nat) (hk : k ≤ 2) (h : RB ty w rb s l) (hs : s.size ≤ maxLen) :
    Calls Tryz.prog 110 #[.pointer (some ⟨rb, 0, none⟩), .int .i64 k] w fun e w' => NumPost ty w rb s (rUnsI (mostOf k) l) e w' := by
  have HR := hide h
  have hmo : 255 ≤ mostOf k ∧ mostOf k ≤ 4294967295 := by unfold mostOf; split <;> (try split) <;> omega
  clear h
  go_enter Tryz.func110, Tryz.ntmps110
  go_wp2_with fail
  refine (greatest_k k hk _).mono ?_
  rintro e w1 ⟨rfl, e1⟩
  obtain rfl := e1.symm
  go_wp2_with fail
  refine (digits_any (mostOf k) (by omega) (by omega) HR hs).mono ?_
  rintro e w2 ⟨hF, hR, n, hn, rfl, hx⟩
  have HF := hide hF
  have HR2 := hide hR
  have HX := hide hx
  clear hF hR hx
  generalize hq : (rUns (mostOf k) l).1.isSome = q at *
  have HQ := hide hq
  clear hq
  have hnI : (n : Int) ≤ 4294967295 := by omega
  go_wp2_with fail
  go_ret2
  have := NumPost.uns HF HR2 (n := n) (fun h => HX.out (HQ.out ▸ h))
  rw [HQ.out] at this
  exact this

set_option maxHeartbeats 2000000 in
theorem signed_any {ty : TypeId} {w : World} {rb : Nat} {s : ByteArray} {l : Bs} (h : RB ty w rb s l) (hs : s.size ≤ maxLen) :
    Calls Tryz.prog 111 #[.pointer (some ⟨rb, 0, none⟩)] w fun e w' => NumPost ty w rb s (rSigned l) e w' := by
  have HR := hide h
  rcases hc : rAcc 45 l with _ | r
  · have HC := hide hc
    have HU : Hid (rSigned l = rUnsI 9223372036854775807 l) := by show rSigned l = _; unfold rSigned; rw [hc]; rfl
    clear hc h
    go_enter Tryz.func111, Tryz.ntmps111
    go_wp2_with fail
    refine (vAccept_no HR hs 45 HC).mono ?_
    rintro e w1 ⟨rfl, hR1, hF1⟩
    have HR1 := hide hR1
    have HF1 := hide hF1
    clear hR1 hF1
    go_wp2_with fail
    refine (digits_any 9223372036854775807 (by omega) (by omega) HR1 hs).mono ?_
    rintro e w2 ⟨hF, hR, n, hn, rfl, hx⟩
    have HF := hide (HF1.out.trans hF)
    have HR2 := hide hR
    have HX := hide hx
    clear hF hR hx
    generalize hq : (rUns 9223372036854775807 l).1.isSome = q at *
    have HQ := hide hq
    clear hq
    have hnI : (n : Int) ≤ 9223372036854775807 := by omega
    go_wp2_with fail
    go_ret2
    have := NumPost.uns HF HR2 (n := n) (fun h => HX.out (HQ.out ▸ h))
    rw [HQ.out] at this
    rw [HU.out]
    exact this
  · have HC := hide hc
    clear h
    rcases hz : rAcc 48 r with _ | r2
    · have HU : Hid (rSigned l = ((rUns 9223372036854775808 r).1.map (fun (n : Nat) => -(n : Int)), (rUns 9223372036854775808 r).2)) := by show rSigned l = _; unfold rSigned; rw [hc]; simp only [hz]
      have hne : ∀ b l', r = b :: l' → b.toNat ≠ 48 := by
        rintro b l' rfl e
        rw [rAcc_cons e] at hz
        cases hz
      clear hc hz
      go_enter Tryz.func111, Tryz.ntmps111
      go_wp2_with fail
      refine (vAccept_yes HR hs 45 HC).mono ?_
      rintro e w1 ⟨rfl, hR1, hF1⟩
      have HR1 := hide hR1
      have HF1 := hide hF1
      clear hR1 hF1
      go_wp2_with fail
      have HPK : Calls Tryz.prog 163 #[.pointer (some ⟨rb, 0, none⟩)] w1 fun e w' => ∃ (c : Nat) (q : Bool), c ≠ 48 ∧ c < 256 ∧ e = .returned (.tuple #[.int .u8 c, .bool q]) ∧ RB ty w' rb s r ∧ Fr (One rb) w1 w' := by
        rcases r with _ | ⟨b, r⟩
        · refine (vPeek_no HR1 hs).mono ?_
          rintro e w' ⟨rfl, h1, h2⟩
          exact ⟨0, false, by omega, by omega, rfl, h1, h2⟩
        · refine (vPeek_yes HR1 hs).mono ?_
          rintro e w' ⟨rfl, h1, h2⟩
          exact ⟨b.toNat, true, hne b r rfl, b.toNat_lt, rfl, h1, h2⟩
      refine HPK.mono ?_
      rintro e w2 ⟨c, q, hc48, hc256, rfl, hR2, hF2⟩
      have HR2 := hide hR2
      have HF2 := hide (HF1.out.trans hF2)
      have hcI : ((c : Int) == 48) = false := beq_eq_false_iff_ne.2 (by omega)
      clear hR2 hF2 HPK hne
      go_wp2_with fail
      refine (digits_any 9223372036854775808 (by omega) (by omega) HR2 hs).mono ?_
      rintro e w3 ⟨hF, hR, n, hn, rfl, hx⟩
      have HF := hide (HF2.out.trans hF)
      have HR3 := hide hR
      have HX := hide hx
      clear hF hR hx
      generalize hq : (rUns 9223372036854775808 r).1.isSome = q at *
      have HQ := hide hq
      clear hq
      have HP : Hid (NumPost ty w rb s (rSigned l) (.returned (.tuple #[.int .i64 (-(n : Int)), .bool q])) w3) := by
        show NumPost _ _ _ _ _ _ _
        rw [HU.out]
        refine ⟨HF, HR3, -(n : Int), by simp [← HQ.out], fun x hx => ?_⟩
        simp only [Option.map_eq_some_iff] at hx
        obtain ⟨m, hm, rfl⟩ := hx
        have := HX.out (by rw [← HQ.out, hm]; rfl)
        rw [this] at hm
        simp at hm
        omega
      by_cases hbig : n = 9223372036854775808
      · subst hbig
        go_wp2_with fail
        go_ret2
        have h' := HP.out
        rw [show (-((9223372036854775808 : Nat) : Int)) = wrap64 (-wrap64 9223372036854775808) from by decide +kernel] at h'
        exact h'
      · have hnI : (n : Int) ≤ 9223372036854775807 := by omega
        go_wp2_with fail
        go_ret2
        exact HP
    · have HU : Hid (rSigned l = (none, r)) := by show rSigned l = _; unfold rSigned; rw [hc]; simp only [hz]
      obtain ⟨b, rfl, hb⟩ := rAcc_some hz
      clear hc hz
      have hbI : ((b.toNat : Int) == 48) = true := beq_iff_eq.2 (by omega)
      go_enter Tryz.func111, Tryz.ntmps111
      go_wp2_with fail
      refine (vAccept_yes HR hs 45 HC).mono ?_
      rintro e w1 ⟨rfl, hR1, hF1⟩
      have HR1 := hide hR1
      have HF1 := hide hF1
      clear hR1 hF1
      go_wp2_with fail
      refine (vPeek_yes HR1 hs).mono ?_
      rintro e w2 ⟨rfl, hR2, hF2⟩
      have HR2 := hide hR2
      have HF2 := hide (HF1.out.trans hF2)
      clear hR2 hF2
      go_wp2_with fail
      go_ret2
      rw [HU.out]
      exact ⟨HF2, HR2, 0, rfl, fun x hx => by cases hx⟩

end Go.Proofs.YtdcjogpkogidaaaGreatDoor
