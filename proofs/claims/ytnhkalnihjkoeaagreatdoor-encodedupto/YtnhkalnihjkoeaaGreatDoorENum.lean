/- The reference's reader of texts takes digits. -/
import Derived.Test.YtnhkalnihjkoeaaGreatDoorEMake
import Derived.Test.YtnhkalnihjkoeaaGreatDoorEPure
import Derived.WalkLawsBesides
namespace Go.Proofs.YtnhkalnihjkoeaaGreatDoor
open Go.RowKit

theorem ba_bytes (l : Bs) : (ba l).toList = l := by rw [ByteArray.toList_eq, ba_list]

set_option maxHeartbeats 4000000 in
theorem greater_any (a b : Bs) (w : World) (_ha : a.length ≤ 1000) (_hb : b.length ≤ 1000) :
    Calls Tryz.prog 279 #[.string (ba a), .string (ba b)] w fun e w' => e = .returned (.bool (greaterP a b)) ∧ w' = w := by
  have za := ba_size a
  have zb := ba_size b
  have ta := ba_bytes a
  have tb := ba_bytes b
  by_cases hl : a.length = b.length
  · have hq : (((a.length : Nat) : Int) == ((b.length : Nat) : Int)) = true := beq_iff_eq.2 (by omega)
    have HU : Hid (greaterP a b = (!Op.bytesLess a b && !(a == b))) := by show _ = _; unfold greaterP; rw [if_neg (by omega)]
    rw [← hl] at zb
    clear hl hq
    go_enter Tryz.func279, Tryz.ntmps279
    go_wp2_with fail
    go_ret
    rw [HU.out]
    exact ⟨rfl, rfl⟩
  · have hq : ¬ ((a.length : Nat) : Int) = ((b.length : Nat) : Int) := by omega
    have HU : Hid (greaterP a b = decide (b.length < a.length)) := by show _ = _; unfold greaterP; rw [if_pos hl]
    go_enter Tryz.func279, Tryz.ntmps279
    go_wp2_with fail
    go_ret
    rw [HU.out]
    exact ⟨rfl, rfl⟩

theorem dv_take {l : Bs} {k : Nat} {b : UInt8} (h : l[k]? = some b) : dv (l.take (k + 1)) = dv (l.take k) * 10 + (b.toNat - 48) := by
  obtain ⟨hk, he⟩ := List.getElem?_eq_some_iff.1 h
  rw [List.take_succ_eq_append_getElem hk, he, dv_snoc]
theorem dv_le_take {l : Bs} : ∀ (k : Nat), dv (l.take k) ≤ dv l := by
  intro k
  have h : l = l.take k ++ l.drop k := (List.take_append_drop k l).symm
  have key : ∀ (x y : Bs), dv x ≤ dv (x ++ y) := by
    intro x y
    induction y generalizing x with
    | nil => simp
    | cons c y ih =>
      have h1 := ih (x ++ [c])
      rw [dv_snoc] at h1
      rw [show x ++ c :: y = x ++ [c] ++ y by simp]
      omega
  have := key (l.take k) (l.drop k)
  rw [← h] at this
  exact this

set_option maxHeartbeats 4000000 in
theorem worth_any (l : Bs) (w : World) (hd : Digits l) (hv : dv l < 18446744073709551616) (hl : l.length ≤ 1000) :
    Calls Tryz.prog 244 #[.string (ba l)] w fun e w' => e = .returned (.int .u64 (dv l)) ∧ w' = w := by
  have zl := ba_size l
  have HD := hide hd
  have HV := hide hv
  clear hd hv
  go_enter Tryz.func244, Tryz.ntmps244
  go_wp2_with fail
  go_loopw [3, 4] (fun nv iv wr => ∃ k : Nat, k ≤ l.length ∧ nv = .int .u64 (dv (l.take k)) ∧ iv = .int .i64 k ∧ Hid (wr = w)) (fun _ iv _ => l.length - (intOf iv).toNat)
  case atStart => exact ⟨0, by omega, rfl, rfl, rfl⟩
  case round =>
    obtain ⟨k, hk, rfl, rfl, hwr⟩ := hrel
    obtain rfl := hwr.out.symm
    clear hwr
    by_cases hlt : k < l.length
    · have hI : (k : Int) < (l.length : Int) := by omega
      obtain ⟨b, hb⟩ : ∃ b, l[k]? = some b := ⟨l[k], by simp⟩
      obtain ⟨hj, hg⟩ := ba_get hb
      have hdg := HD.out b (List.mem_of_getElem? hb)
      unfold isDig at hdg
      have HS : Hid (dv (l.take (k + 1)) = dv (l.take k) * 10 + (b.toNat - 48)) := dv_take hb
      have hle := dv_le_take (l := l) (k + 1)
      have hN : dv (l.take k) * 10 + (b.toNat - 48) < 18446744073709551616 := by have := HV.out; have := HS.out; omega
      have hb8 := b.toNat_lt
      generalize dv (l.take k) = N at *
      clear hb hle
      go_wp2_with fail
      go_roundw
      case rel => exact ⟨k + 1, by omega, by rw [HS.out]; go_num, by go_num, (trivial : True)⟩
      case measure => simp [intOf]; omega
    · have hkl : k = l.length := by omega
      subst hkl
      have hI : ¬ (l.length : Int) < (l.length : Int) := by omega
      rw [List.take_length]
      go_wp2_with fail
      go_ret
      exact ⟨rfl, rfl⟩

def digStart (r : Bs) : Prop := ∃ b r', r = b :: r' ∧ isDig b
theorem rDig_step {most acc : Nat} {b : UInt8} {l : Bs} (hb : isDig b) (hm : 9 ≤ most) : rDigits most acc (b :: l) = if most < acc * 10 + (b.toNat - 48) then (acc, b :: l) else rDigits most (acc * 10 + (b.toNat - 48)) l := by
  unfold isDig at hb
  simp only [rDigits]
  by_cases h : most < acc * 10 + (b.toNat - 48)
  · rw [if_pos h, if_pos (by omega)]
  · rw [if_neg h, if_neg (by omega)]
theorem rDig_stop {most acc : Nat} {r : Bs} (h : ¬ (48 ≤ hd r ∧ hd r ≤ 57)) : rDigits most acc r = (acc, r) := by
  rcases r with _ | ⟨b, r⟩
  · rfl
  · simp only [hd] at h
    simp only [rDigits]
    rw [if_pos (by omega)]

/-- How far the digits have been read. -/
def NumI (most : Nat) (mostS l sd r : Bs) : Prop :=
  l = sd ++ r ∧ Digits sd ∧ dv sd ≤ most ∧ sd.length ≤ mostS.length ∧ (sd = [] ∨ sd = [48] ∨ (sd ≠ [] ∧ Plain sd ∧ rAcc 48 l = none ∧ rDigits most 0 l = rDigits most (dv sd) r))
theorem NumI.zero {most : Nat} {mostS l r : Bs} (h : NumI most mostS l [48] r) : rUns most l = (some 0, r) := by
  obtain ⟨rfl, _⟩ := h
  simp [rUns, rAcc]
theorem NumI.empty {most : Nat} {mostS l r : Bs} (h : NumI most mostS l [] r) (hst : ¬ (48 ≤ hd r ∧ hd r ≤ 57)) : rUns most l = (none, r) := by
  obtain rfl : l = r := h.1
  have h1 : rAcc 48 l = none := by
    rcases l with _ | ⟨b, l⟩
    · rfl
    · simp only [hd] at hst
      simp only [rAcc]
      rw [if_neg (by omega)]
  unfold rUns
  simp [h1, rDig_stop hst]
theorem NumI.full {most : Nat} {mostS l sd r : Bs} (h : NumI most mostS l sd r) (hne : sd ≠ []) (hr : rDigits most (dv sd) r = (dv sd, r) ∨ sd = [48]) : rUns most l = (Option.some (dv sd), r) := by
  rcases h.2.2.2.2 with e | e | ⟨_, _, h3, h4⟩
  · exact absurd e hne
  · subst e; rw [h.zero]; rfl
  · have hr' : rDigits most (dv sd) r = (dv sd, r) := by
      rcases hr with e | e
      · exact e
      · subst e
        obtain ⟨rfl, _⟩ := h
        simp [rAcc] at h3
    have hlen : r.length < l.length := by
      rw [h.1, List.length_append]
      have : 0 < sd.length := List.length_pos_iff.2 hne
      omega
    unfold rUns
    simp [h3, h4, hr', hlen]
theorem NumI.step {most : Nat} {mostS l sd r : Bs} {b : UInt8} (h : NumI most mostS l sd (b :: r)) (hb : isDig b) (h0 : sd ≠ [48]) (hm : 9 ≤ most) (hmS : Plain mostS) (hmN : mostS ≠ []) (hmv : dv mostS = most) (hg : greaterP (sd ++ [b]) mostS = false) : NumI most mostS l (sd ++ [b]) r := by
  obtain ⟨h1, h2, h3, h4, h5⟩ := h
  have hdg : Digits (sd ++ [b]) := fun q hq => by
    rcases List.mem_append.1 hq with h | h
    · exact h2 q h
    · simp at h; subst h; exact hb
  have hPl : Plain (sd ++ [b]) ∨ sd ++ [b] = [48] := by
    rcases h5 with e | e | ⟨e, hp, _⟩
    · subst e
      by_cases hb0 : b.toNat = 48
      · right; rw [u8_of hb0]; rfl
      · left
        refine ⟨hdg, fun c r' e => ?_⟩
        simp at e
        obtain ⟨rfl, _⟩ := e
        unfold isDig at hb
        omega
    · exact absurd e h0
    · left
      refine ⟨hdg, fun c r' e' => ?_⟩
      rcases sd with _ | ⟨d, sd⟩
      · exact absurd rfl e
      · simp at e'
        obtain ⟨rfl, _⟩ := e'
        exact hp.2 d sd rfl
  have hle : dv (sd ++ [b]) ≤ most := by
    have := greater_dv hPl hmS hmN
    rw [hg, hmv] at this
    have := this.symm
    simp at this
    exact this
  have hll : (sd ++ [b]).length ≤ mostS.length := by
    unfold greaterP at hg
    by_cases e : (sd ++ [b]).length = mostS.length
    · omega
    · rw [if_pos e] at hg
      simp at hg
      simp
      omega
  refine ⟨by rw [h1]; simp, hdg, hle, hll, ?_⟩
  rcases hPl with hp | e
  · right; right
    refine ⟨by simp, hp, ?_, ?_⟩
    · rcases h5 with e | e | ⟨_, _, q, _⟩
      · subst e
        simp only [List.nil_append] at h1
        rw [h1]
        have := hp.2 b [] rfl
        exact rAcc_ne (by omega)
      · exact absurd e h0
      · exact q
    · have hst : rDigits most 0 l = rDigits most (dv sd) (b :: r) := by
        rcases h5 with e | e | ⟨_, _, _, q⟩
        · subst e; rw [h1]; rfl
        · exact absurd e h0
        · exact q
      rw [hst, rDig_step hb hm, dv_snoc]
      rw [dv_snoc] at hle
      rw [if_neg (by omega)]
  · right; left; exact e

end Go.Proofs.YtnhkalnihjkoeaaGreatDoor
