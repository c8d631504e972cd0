/- What Decode tells. -/
import Derived.Test.YtcmkjdpmlmmjcaaGreatDoorPsVTxt
import Derived.Test.YtcmkjdpmlmmjcaaGreatDoorPsVMess
import Derived.Test.YtcmkjdpmlmmjcaaGreatDoorPsVFromM
import Derived.Test.YtcmkjdpmlmmjcaaGreatDoorPsVWf
import Derived.Test.YtcmkjdpmlmmjcaaGreatDoorPsVLen
section
namespace Go.Proofs.YtcmkjdpmlmmjcaaGreatDoor
open Go.RowKit

/-- Encode: the message, the error, the place. -/
def encR (_s value : ByteArray) (r : Option PV × Bs) : ByteArray × Nat × Nat :=
  match r with
  | (some v, []) => if (wMsg 12 v).length ≤ 1000 then (ba (wMsg 12 v), 0, 0) else (⟨#[]⟩, 1, 0)
  | (_, r') => (⟨#[]⟩, 5, pos value r')
def encP (s value : ByteArray) : ByteArray × Nat × Nat :=
  if (checkP s).1 = 0 then encR s value (rText 12 (typeP s) value.data.toList) else (⟨#[]⟩, (checkP s).1, (checkP s).2)
def TriPost (w : World) (x : ByteArray × Nat × Nat) (e : Ending) (w' : World) : Prop :=
  Fr Zero w w' ∧ e = .returned (.tuple #[.string x.1, .int .i64 x.2.1, .int .i64 x.2.2])

theorem encR_no {s value : ByteArray} {r : Option PV × Bs} (h : ¬ ∃ v, r = (some v, [])) : encR s value r = (⟨#[]⟩, 5, pos value r.2) := by
  unfold encR
  rcases r with ⟨_ | v, _ | ⟨b, l⟩⟩
  · rfl
  · rfl
  · exact absurd ⟨v, rfl⟩ h
  · rfl

set_option maxHeartbeats 8000000 in
set_option maxRecDepth 100000 in
theorem enct_any (s : ByteArray) (w : World) (a : Addr) (t : PT) (value : ByteArray) (ht : TR w Zero a t) (hW : WFT 12 t) (hv : value.size ≤ 140737488355328) :
    Calls Tryz.prog 20 #[.pointer (some a), .string value] w fun e w' => TriPost w (encR s value (rText 12 t value.data.toList)) e w' := by
  have HTR := hide ht
  have HWF := hide hW
  clear ht hW
  go_enter Tryz.func20, Tryz.ntmps20
  go_wp2_with fail
  refine (fromText_any _ a t value HTR HWF (by unfold maxLen; omega)).mono ?_
  rcases hq : rText 12 t value.data.toList with ⟨q, r⟩
  have HQ := hide hq
  have HU : Hid (encR s value (rText 12 t value.data.toList) = encR s value (q, r)) := by show _ = _; rw [hq]
  clear hq
  rintro e w2 ⟨hF2, h2⟩
  have HF2 := hide hF2
  rcases h2 with ⟨v, ⟨ca, cn, cb, csv⟩, hr, ⟨o, n, k, hsv⟩, rfl, hvr⟩ | ⟨hno, rfl⟩
  · simp only at hsv
    subst hsv
    simp only [Prod.mk.injEq] at hr
    obtain ⟨rfl, rfl⟩ := hr
    obtain ⟨hval, htx⟩ := rText_sound 12 t _ _ _ HWF.out HQ.out
    have hlen := msg_len 12 t v HWF.out hval
    have hl2 : (wText 12 v).length = value.size := by
      have := congrArg List.length htx
      rw [Array.length_toList, List.length_append] at this
      simp at this
      exact this.symm
    have HV := hide hvr
    have HVal := hide hval
    have HLn : Hid ((wMsg 12 v).length ≤ 100000000000000000) := by show _ ≤ _; omega
    have HM : Hid (encR s value (some v, []) = if msgB (wMsg 12 v) = true then (msgS (wMsg 12 v), 0, 0) else (⟨#[]⟩, 1, 0)) := by
      show _ = _
      unfold encR msgB msgS
      by_cases h : (wMsg 12 v).length ≤ 1000
      · simp [h]
      · simp [h]
    clear hF2 hvr hval htx hlen hl2 HQ
    simp only [VC.val]
    go_wp2_with fail
    refine (message_any _ ⟨ca, cn, cb, .slice o n k⟩ v t (HV.out.keep (Fr.alloc _ _ _)) HWF HVal HLn).mono ?_
    rintro e w3 ⟨hF3, rfl⟩
    have HF3 := hide (HF2.out.trans ((Fr.alloc _ _ _).trans hF3))
    clear hF3
    rcases hb : msgB (wMsg 12 v) with _ | _
    · rw [hb] at HM
      clear hb
      go_wp2_with fail
      go_ret3
      rw [HU.out, HM.out]
      exact ⟨HF3, rfl⟩
    · rw [hb] at HM
      clear hb
      go_wp2_with fail
      go_ret3
      rw [HU.out, HM.out]
      exact ⟨HF3, rfl⟩
  · have HN := hide (encR_no (s := s) (value := value) hno)
    clear hF2 hno
    go_wp2_with fail
    go_ret3
    rw [HU.out, HN.out]
    exact ⟨HF2.out.trans (Fr.alloc _ _ _), rfl⟩

set_option maxHeartbeats 8000000 in
set_option maxRecDepth 100000 in
theorem encode_any (s value : ByteArray) (w : World) (hw : Words w) (het : ErrT w) (hs : s.size ≤ maxLen) (hv : value.size ≤ 140737488355328) :
    Calls Tryz.prog 10 #[.string s, .string value] w fun e w' => TriPost w (encP s value) e w' := by
  have HW := hide hw
  have HE := hide het
  clear hw het
  go_enter Tryz.func10, Tryz.ntmps10
  go_wp2_with fail
  refine (sparse_any s _ HW HE hs).mono ?_
  rintro e w1 ⟨hF1, a, rfl, hok⟩
  have HF1 := hide hF1
  by_cases hz : (checkP s).1 = 0
  · have hc := checkP_ok hz
    obtain ⟨a', rfl, ht⟩ := hok hc
    have HWF := hide (typeP_good hc)
    have HTR := hide ht
    have HU : Hid (encP s value = encR s value (rText 12 (typeP s) value.data.toList)) := by show _ = _; unfold encP; rw [if_pos hz]
    rw [hc]
    clear hF1 hok hz hc ht
    go_wp2_with fail
    refine (enct_any s _ a' (typeP s) value HTR HWF hv).mono ?_
    rintro e w2 ⟨hF2, rfl⟩
    have HF2 := hide (HF1.out.trans hF2)
    clear hF2
    go_wp2_with fail
    go_ret3
    rw [HU.out]
    exact ⟨HF2, rfl⟩
  · have HU : Hid (encP s value = (⟨#[]⟩, (checkP s).1, (checkP s).2)) := by show _ = _; unfold encP; rw [if_neg hz]
    have hzI : (((checkP s).1 : Nat) : Int) ≠ 0 := by omega
    have hzb : ((((checkP s).1 : Nat) : Int) == 0) = false := beq_eq_false_iff_ne.2 hzI
    clear hF1 hok hz
    go_wp2_with fail
    go_ret3
    rw [HU.out]
    exact ⟨HF1, rfl⟩

end Go.Proofs.YtcmkjdpmlmmjcaaGreatDoor
end
section
namespace Go.Proofs.YtcmkjdpmlmmjcaaGreatDoor
open Go.RowKit

theorem results_cells3 {fn : Func} {p q r : Tmp} {t1 t2 t3 : TypeId} (h : fn.results = #[.cell p t1, .cell q t2, .cell r t3]) (tmps : Array Value) (P : Program) (w : World) :
    (results fn tmps).run P w =
      ((asAddr (tmps.getD p undef)).run P w).andThen fun a w₁ => ((loadVar t1 a).run P w₁).andThen fun v w₂ => ((asAddr (tmps.getD q undef)).run P w₂).andThen fun b w₃ => ((loadVar t2 b).run P w₃).andThen fun u w₄ =>
        ((asAddr (tmps.getD r undef)).run P w₄).andThen fun c w₅ => ((loadVar t3 c).run P w₅).andThen fun x w₆ => .ok (.tuple #[v, u, x]) w₆ := by
  simp only [results, h]
  simp [Sem.run_bind, Result.andThen]

set_option maxHeartbeats 4000000 in
theorem part_empty (w : World) (ca : Addr) (cn : Int) (cb : Bs) (o : Option Addr) (n j : Nat) :
    Calls Tryz.prog 49 #[.agg #[.pointer (some ca), .int .i64 cn, .string (ba cb), .slice o n j], .string ⟨#[]⟩] w fun e w' => Fr Zero w w' ∧ e = .returned (.tuple #[.agg #[.pointer (some ca), .int .i64 cn, .string (ba cb), .slice o n j], .int .i64 0, .bool true]) := by
  go_enter Tryz.func49, Tryz.ntmps49
  go_wp2_with fail
  refine bodyPost_ret (v := .tuple #[.agg #[.pointer (some ca), .int .i64 cn, .string (ba cb), .slice o n j], .int .i64 0, .bool true]) ?_ rfl ⟨?_, rfl⟩
  · rw [results_cells3 rfl]
    go_simp
  · exact (((Fr.alloc _ _ _).trans (Fr.alloc _ _ _)).trans (Fr.alloc _ _ _)).trans (Fr.alloc _ _ _)

/-- Decode: the text, the error, the place. -/
def decR (data : ByteArray) (r : Option PV × Bs) : ByteArray × Nat × Nat :=
  match r with
  | (some v, []) => (ba (wText 12 v), 0, 0)
  | (_, r') => (⟨#[]⟩, 6, pos data r')
def decP (s data : ByteArray) : ByteArray × Nat × Nat :=
  if (checkP s).1 = 0 then (if data.size ≤ 1000 then decR data (rMsg 12 (typeP s) data.data.toList) else (⟨#[]⟩, 1, 0)) else (⟨#[]⟩, (checkP s).1, (checkP s).2)
theorem decR_no {data : ByteArray} {r : Option PV × Bs} (h : ¬ ∃ v, r = (some v, [])) : decR data r = (⟨#[]⟩, 6, pos data r.2) := by
  unfold decR
  rcases r with ⟨_ | v, _ | ⟨b, l⟩⟩
  · rfl
  · rfl
  · exact absurd ⟨v, rfl⟩ h
  · rfl

/-- What a message of a type tells: its text, the error, the place. -/
def decT (t : PT) (data : ByteArray) : ByteArray × Nat × Nat := if data.size ≤ 1000 then decR data (rMsg 12 t data.data.toList) else (⟨#[]⟩, 1, 0)

set_option maxHeartbeats 8000000 in
set_option maxRecDepth 100000 in
theorem gett_empty (w : World) (a : Addr) (t : PT) (data : ByteArray) (hpt : PowT w) (ht : TR w Zero a t) (hW : WFT 12 t) (hd : data.size ≤ maxLen) :
    Calls Tryz.prog 28 #[.pointer (some a), .string data, .string ⟨#[]⟩] w fun e w' => TriPost w (decT t data) e w' := by
  have HP := hide hpt
  have HTR := hide ht
  have HWF := hide hW
  clear hpt ht hW
  go_enter Tryz.func28, Tryz.ntmps28
  by_cases hsz : data.size ≤ 1000
  · have HU2 : Hid (decT t data = decR data (rMsg 12 t data.data.toList)) := by show _ = _; unfold decT; rw [if_pos hsz]
    have HSZ := hide hsz
    clear hsz
    go_wp2_with fail
    refine (fromMessage_short _ a t data HTR HWF HSZ).mono ?_
    rcases hq : rMsg 12 t data.data.toList with ⟨q, r⟩
    have HQ := hide hq
    rw [hq] at HU2
    clear hq
    rintro e w2 ⟨hF2, h2⟩
    have HF2 := hide hF2
    rcases h2 with ⟨v, ⟨ca, cn, cb, csv⟩, hr, ⟨o, n, k, hsv⟩, rfl, hvr⟩ | ⟨hno, rfl⟩
    · simp only at hsv
      subst hsv
      simp only [Prod.mk.injEq] at hr
      obtain ⟨rfl, rfl⟩ := hr
      obtain ⟨hval, htx⟩ := rMsg_sound 12 t _ _ _ HWF.out HQ.out
      have hlen := (text_len 12 t v HWF.out hval).2
      have hl2 : (wMsg 12 v).length = data.size := by
        have := congrArg List.length htx
        rw [Array.length_toList, List.length_append] at this
        simp at this
        exact this.symm
      have HV := hide hvr
      have HVal := hide hval
      have HLn : Hid ((wText 12 v).length + 1000 ≤ 140737488355328) := by
        have := HSZ.out
        show _ ≤ _
        omega
      have HM : Hid (decT t data = (ba (wText 12 v), 0, 0)) := HU2
      clear hF2 hvr hval htx hlen hl2 HQ HU2
      simp only [VC.val]
      go_wp2_with fail
      refine (part_empty _ ca cn cb o n k).mono ?_
      rintro e w3 ⟨hF3, rfl⟩
      have HF3 := hide (HF2.out.trans ((Fr.alloc _ _ _).trans hF3))
      have HV3 := hide ((HV.out.keep (Fr.alloc _ _ _)).keep hF3)
      clear hF3
      go_wp2_with fail
      refine (text_any (k := 12) (t := t) _ ⟨ca, cn, cb, .slice o n k⟩ v (HP.out.keep (HF3.out.trans (Fr.alloc _ _ _)) (fun h => h)) (HV3.out.keep (Fr.alloc _ _ _)) HWF HVal HLn ⟨_, _, _, rfl⟩).mono ?_
      rintro e w4 ⟨hF4, rfl⟩
      have HF4 := hide (HF3.out.trans ((Fr.alloc _ _ _).trans hF4))
      clear hF4
      go_wp2_with fail
      go_ret3
      rw [HM.out]
      exact ⟨HF4, rfl⟩
    · have HN := hide (decR_no (data := data) hno)
      clear hF2 hno
      go_wp2_with fail
      go_ret3
      rw [HU2.out, HN.out]
      exact ⟨HF2.out.trans (Fr.alloc _ _ _), rfl⟩
  · have HU2 : Hid (decT t data = (⟨#[]⟩, 1, 0)) := by show _ = _; unfold decT; rw [if_neg hsz]
    have HSZ : Hid (1000 < data.size) := by show _ < _; omega
    clear hsz
    go_wp2_with fail
    refine (fromMessage_long _ a data hd HSZ).mono ?_
    rintro e w2 ⟨hF2, rfl⟩
    have HF2 := hide hF2
    clear hF2
    go_wp2_with fail
    go_ret3
    rw [HU2.out]
    exact ⟨HF2.out.trans (Fr.alloc _ _ _), rfl⟩

set_option maxHeartbeats 8000000 in
set_option maxRecDepth 100000 in
theorem get_empty (s data : ByteArray) (w : World) (hw : Words w) (het : ErrT w) (hpt : PowT w) (hs : s.size ≤ maxLen) (hd : data.size ≤ maxLen) :
    Calls Tryz.prog 21 #[.string s, .string data, .string ⟨#[]⟩] w fun e w' => TriPost w (decP s data) e w' := by
  have HW := hide hw
  have HE := hide het
  have HP := hide hpt
  clear hw het hpt
  go_enter Tryz.func21, Tryz.ntmps21
  go_wp2_with fail
  refine (sparse_any s _ HW HE hs).mono ?_
  rintro e w1 ⟨hF1, a, rfl, hok⟩
  have HF1 := hide hF1
  by_cases hz : (checkP s).1 = 0
  · have hc := checkP_ok hz
    obtain ⟨a', rfl, ht⟩ := hok hc
    have HWF := hide (typeP_good hc)
    have HTR := hide ht
    have HU : Hid (decP s data = decT (typeP s) data) := by show _ = _; unfold decP decT; rw [if_pos hz]
    rw [hc]
    clear hF1 hok hz hc ht
    go_wp2_with fail
    refine (gett_empty _ a' (typeP s) data (HP.out.keep HF1.out (fun h => h)) HTR HWF hd).mono ?_
    rintro e w2 ⟨hF2, rfl⟩
    have HF2 := hide (HF1.out.trans hF2)
    clear hF2
    go_wp2_with fail
    go_ret3
    rw [HU.out]
    exact ⟨HF2, rfl⟩
  · have HU : Hid (decP s data = (⟨#[]⟩, (checkP s).1, (checkP s).2)) := by show _ = _; unfold decP; rw [if_neg hz]
    have hzI : (((checkP s).1 : Nat) : Int) ≠ 0 := by omega
    have hzb : ((((checkP s).1 : Nat) : Int) == 0) = false := beq_eq_false_iff_ne.2 hzI
    clear hF1 hok hz
    go_wp2_with fail
    go_ret3
    rw [HU.out]
    exact ⟨HF1, rfl⟩

theorem decode_any (s data : ByteArray) (w : World) (hw : Words w) (het : ErrT w) (hpt : PowT w) (hs : s.size ≤ maxLen) (hd : data.size ≤ maxLen) :
    Calls Tryz.prog 11 #[.string s, .string data] w fun e w' => TriPost w (decP s data) e w' := by
  have HW := hide hw
  have HE := hide het
  have HP := hide hpt
  clear hw het hpt
  go_enter Tryz.func11, Tryz.ntmps11
  go_wp2_with fail
  refine (get_empty s data _ HW HE HP hs hd).mono ?_
  rintro e w1 ⟨hF1, rfl⟩
  have HF1 := hide hF1
  clear hF1
  go_wp2_with fail
  go_ret3
  exact ⟨HF1, rfl⟩

end Go.Proofs.YtcmkjdpmlmmjcaaGreatDoor
end
