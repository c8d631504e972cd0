/- What Encode tells. -/
import Derived.Test.YtnhkalnihjkoeaaGreatDoorVMess
import Derived.Test.YtnhkalnihjkoeaaGreatDoorVWf
import Derived.Test.YtnhkalnihjkoeaaGreatDoorVLen
namespace Go.Proofs.YtnhkalnihjkoeaaGreatDoor
open Go.RowKit

/-- Encode: the message, the error, the place. -/
def encR (_s value : ByteArray) (r : Option PV × Bs) : ByteArray × Nat × Nat :=
  match r with
  | (some v, []) => if (wMsg 12 v).length ≤ 1000 then (ba (wMsg 12 v), 0, 0) else (⟨#[]⟩, 1, 0)
  | (_, r') => (⟨#[]⟩, 5, pos value r')
def encP (s value : ByteArray) : ByteArray × Nat × Nat :=
  if (checkP s).1 = 0 then encR s value (rText 12 (typeP s) value.data.toList) else (⟨#[]⟩, (checkP s).1, (checkP s).2)
def TriPost (w : World) (x : ByteArray × Nat × Nat) (e : Ending) (w' : World) : Prop :=
  Fr Zero w w' ∧ e = .returned (.tuple #[.string x.1, .int .i64 x.2.1, .int .i64 x.2.2])

theorem encR_no {s value : ByteArray} {r : Option PV × Bs} (h : ¬ ∃ v, r = (some v, [])) : encR s value r = (⟨#[]⟩, 5, pos value r.2) := by
  unfold encR
  rcases r with ⟨_ | v, _ | ⟨b, l⟩⟩
  · rfl
  · rfl
  · exact absurd ⟨v, rfl⟩ h
  · rfl

set_option maxHeartbeats 8000000 in
set_option maxRecDepth 100000 in
theorem enct_any (s : ByteArray) (w : World) (a : Addr) (t : PT) (value : ByteArray) (ht : TR w Zero a t) (hW : WFT 12 t) (hv : value.size ≤ 140737488355328) :
    Calls Tryz.prog 33 #[.pointer (some a), .string value] w fun e w' => TriPost w (encR s value (rText 12 t value.data.toList)) e w' := by
  have HTR := hide ht
  have HWF := hide hW
  clear ht hW
  go_enter Tryz.func33, Tryz.ntmps33
  go_wp2_with fail
  refine (fromText_any _ a t value HTR HWF (by unfold maxLen; omega)).mono ?_
  rcases hq : rText 12 t value.data.toList with ⟨q, r⟩
  have HQ := hide hq
  have HU : Hid (encR s value (rText 12 t value.data.toList) = encR s value (q, r)) := by show _ = _; rw [hq]
  clear hq
  rintro e w2 ⟨hF2, h2⟩
  have HF2 := hide hF2
  rcases h2 with ⟨v, ⟨ca, cn, cb, csv⟩, hr, ⟨o, n, k, hsv⟩, rfl, hvr⟩ | ⟨hno, rfl⟩
  · simp only at hsv
    subst hsv
    simp only [Prod.mk.injEq] at hr
    obtain ⟨rfl, rfl⟩ := hr
    obtain ⟨hval, htx⟩ := rText_sound 12 t _ _ _ HWF.out HQ.out
    have hlen := msg_len 12 t v HWF.out hval
    have hl2 : (wText 12 v).length = value.size := by
      have := congrArg List.length htx
      rw [Array.length_toList, List.length_append] at this
      simp at this
      exact this.symm
    have HV := hide hvr
    have HVal := hide hval
    have HLn : Hid ((wMsg 12 v).length ≤ 100000000000000000) := by show _ ≤ _; omega
    have HM : Hid (encR s value (some v, []) = if msgB (wMsg 12 v) = true then (msgS (wMsg 12 v), 0, 0) else (⟨#[]⟩, 1, 0)) := by
      show _ = _
      unfold encR msgB msgS
      by_cases h : (wMsg 12 v).length ≤ 1000
      · simp [h]
      · simp [h]
    clear hF2 hvr hval htx hlen hl2 HQ
    simp only [VC.val]
    go_wp2_with fail
    refine (message_any _ ⟨ca, cn, cb, .slice o n k⟩ v t (HV.out.keep (Fr.alloc _ _ _)) HWF HVal HLn).mono ?_
    rintro e w3 ⟨hF3, rfl⟩
    have HF3 := hide (HF2.out.trans ((Fr.alloc _ _ _).trans hF3))
    clear hF3
    rcases hb : msgB (wMsg 12 v) with _ | _
    · rw [hb] at HM
      clear hb
      go_wp2_with fail
      go_ret3
      rw [HU.out, HM.out]
      exact ⟨HF3, rfl⟩
    · rw [hb] at HM
      clear hb
      go_wp2_with fail
      go_ret3
      rw [HU.out, HM.out]
      exact ⟨HF3, rfl⟩
  · have HN := hide (encR_no (s := s) (value := value) hno)
    clear hF2 hno
    go_wp2_with fail
    go_ret3
    rw [HU.out, HN.out]
    exact ⟨HF2.out.trans (Fr.alloc _ _ _), rfl⟩

set_option maxHeartbeats 8000000 in
set_option maxRecDepth 100000 in
theorem encode_any (s value : ByteArray) (w : World) (hw : Words w) (het : ErrT w) (hs : s.size ≤ maxLen) (hv : value.size ≤ 140737488355328) :
    Calls Tryz.prog 17 #[.string s, .string value] w fun e w' => TriPost w (encP s value) e w' := by
  have HW := hide hw
  have HE := hide het
  clear hw het
  go_enter Tryz.func17, Tryz.ntmps17
  go_wp2_with fail
  refine (sparse_any s _ HW HE hs).mono ?_
  rintro e w1 ⟨hF1, a, rfl, hok⟩
  have HF1 := hide hF1
  by_cases hz : (checkP s).1 = 0
  · have hc := checkP_ok hz
    obtain ⟨a', rfl, ht⟩ := hok hc
    have HWF := hide (typeP_good hc)
    have HTR := hide ht
    have HU : Hid (encP s value = encR s value (rText 12 (typeP s) value.data.toList)) := by show _ = _; unfold encP; rw [if_pos hz]
    rw [hc]
    clear hF1 hok hz hc ht
    go_wp2_with fail
    refine (enct_any s _ a' (typeP s) value HTR HWF hv).mono ?_
    rintro e w2 ⟨hF2, rfl⟩
    have HF2 := hide (HF1.out.trans hF2)
    clear hF2
    go_wp2_with fail
    go_ret3
    rw [HU.out]
    exact ⟨HF2, rfl⟩
  · have HU : Hid (encP s value = (⟨#[]⟩, (checkP s).1, (checkP s).2)) := by show _ = _; unfold encP; rw [if_neg hz]
    have hzI : (((checkP s).1 : Nat) : Int) ≠ 0 := by omega
    have hzb : ((((checkP s).1 : Nat) : Int) == 0) = false := beq_eq_false_iff_ne.2 hzI
    clear hF1 hok hz
    go_wp2_with fail
    go_ret3
    rw [HU.out]
    exact ⟨HF1, rfl⟩

end Go.Proofs.YtnhkalnihjkoeaaGreatDoor
