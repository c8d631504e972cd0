/- A value's steps and the part behind one. -/
import Derived.Shelf.LaysM
import Derived.Shelf.Strconv.Itoa3
import Derived.Shelf.Strings.Search1
import Derived.Shelf.Strings.Search2
import Derived.Shelf.Strings.Search3
import Derived.Test.YtdcjogpkogidaaaGreatDoorProg
import Derived.Test.YtdcjogpkogidaaaGreatDoorMdVal
import Derived.Test.YtdcjogpkogidaaaGreatDoorMdDPure
import Derived.Test.YtdcjogpkogidaaaGreatDoorMdVTxt
import Derived.Test.YtdcjogpkogidaaaGreatDoorMdVMess
import Derived.Test.YtdcjogpkogidaaaGreatDoorMdVWf
section
namespace Go.Proofs.YtdcjogpkogidaaaGreatDoor
open Go.RowKit

/-- Encode: the message, the error, the place. -/
def encR (_s value : ByteArray) (r : Option PV × Bs) : ByteArray × Nat × Nat :=
  match r with
  | (some v, []) => if (wMsg 12 v).length ≤ 1000 then (ba (wMsg 12 v), 0, 0) else (⟨#[]⟩, 1, 0)
  | (_, r') => (⟨#[]⟩, 5, pos value r')
def encP (s value : ByteArray) : ByteArray × Nat × Nat :=
  if (checkP s).1 = 0 then encR s value (rText 12 (typeP s) value.data.toList) else (⟨#[]⟩, (checkP s).1, (checkP s).2)
def TriPost (w : World) (x : ByteArray × Nat × Nat) (e : Ending) (w' : World) : Prop :=
  Fr Zero w w' ∧ e = .returned (.tuple #[.string x.1, .int .i64 x.2.1, .int .i64 x.2.2])

theorem encR_no {s value : ByteArray} {r : Option PV × Bs} (h : ¬ ∃ v, r = (some v, [])) : encR s value r = (⟨#[]⟩, 5, pos value r.2) := by
  unfold encR
  rcases r with ⟨_ | v, _ | ⟨b, l⟩⟩
  · rfl
  · rfl
  · exact absurd ⟨v, rfl⟩ h
  · rfl

set_option maxHeartbeats 8000000 in
set_option maxRecDepth 100000 in
theorem enct_any (s : ByteArray) (w : World) (a : Addr) (t : PT) (value : ByteArray) (ht : TR w Zero a t) (hW : WFT 12 t) (hv : value.size ≤ 140737488355328) :
    Calls Tryz.prog 19 #[.pointer (some a), .string value] w fun e w' => TriPost w (encR s value (rText 12 t value.data.toList)) e w' := by
  have HTR := hide ht
  have HWF := hide hW
  clear ht hW
  go_enter Tryz.func19, Tryz.ntmps19
  go_wp2_with fail
  refine (fromText_any _ a t value HTR HWF (by unfold maxLen; omega)).mono ?_
  rcases hq : rText 12 t value.data.toList with ⟨q, r⟩
  have HQ := hide hq
  have HU : Hid (encR s value (rText 12 t value.data.toList) = encR s value (q, r)) := by show _ = _; rw [hq]
  clear hq
  rintro e w2 ⟨hF2, h2⟩
  have HF2 := hide hF2
  rcases h2 with ⟨v, ⟨ca, cn, cb, csv⟩, hr, ⟨o, n, k, hsv⟩, rfl, hvr⟩ | ⟨hno, rfl⟩
  · simp only at hsv
    subst hsv
    simp only [Prod.mk.injEq] at hr
    obtain ⟨rfl, rfl⟩ := hr
    obtain ⟨hval, htx⟩ := rText_sound 12 t _ _ _ HWF.out HQ.out
    have hlen := msg_len 12 t v HWF.out hval
    have hl2 : (wText 12 v).length = value.size := by
      have := congrArg List.length htx
      rw [Array.length_toList, List.length_append] at this
      simp at this
      exact this.symm
    have HV := hide hvr
    have HVal := hide hval
    have HLn : Hid ((wMsg 12 v).length ≤ 100000000000000000) := by show _ ≤ _; omega
    have HM : Hid (encR s value (some v, []) = if msgB (wMsg 12 v) = true then (msgS (wMsg 12 v), 0, 0) else (⟨#[]⟩, 1, 0)) := by
      show _ = _
      unfold encR msgB msgS
      by_cases h : (wMsg 12 v).length ≤ 1000
      · simp [h]
      · simp [h]
    clear hF2 hvr hval htx hlen hl2 HQ
    simp only [VC.val]
    go_wp2_with fail
    refine (message_any _ ⟨ca, cn, cb, .slice o n k⟩ v t (HV.out.keep (Fr.alloc _ _ _)) HWF HVal HLn).mono ?_
    rintro e w3 ⟨hF3, rfl⟩
    have HF3 := hide (HF2.out.trans ((Fr.alloc _ _ _).trans hF3))
    clear hF3
    rcases hb : msgB (wMsg 12 v) with _ | _
    · rw [hb] at HM
      clear hb
      go_wp2_with fail
      go_ret3
      rw [HU.out, HM.out]
      exact ⟨HF3, rfl⟩
    · rw [hb] at HM
      clear hb
      go_wp2_with fail
      go_ret3
      rw [HU.out, HM.out]
      exact ⟨HF3, rfl⟩
  · have HN := hide (encR_no (s := s) (value := value) hno)
    clear hF2 hno
    go_wp2_with fail
    go_ret3
    rw [HU.out, HN.out]
    exact ⟨HF2.out.trans (Fr.alloc _ _ _), rfl⟩

set_option maxHeartbeats 8000000 in
set_option maxRecDepth 100000 in
theorem encode_any (s value : ByteArray) (w : World) (hw : Words w) (het : ErrT w) (hs : s.size ≤ maxLen) (hv : value.size ≤ 140737488355328) :
    Calls Tryz.prog 9 #[.string s, .string value] w fun e w' => TriPost w (encP s value) e w' := by
  have HW := hide hw
  have HE := hide het
  clear hw het
  go_enter Tryz.func9, Tryz.ntmps9
  go_wp2_with fail
  refine (sparse_any s _ HW HE hs).mono ?_
  rintro e w1 ⟨hF1, a, rfl, hok⟩
  have HF1 := hide hF1
  by_cases hz : (checkP s).1 = 0
  · have hc := checkP_ok hz
    obtain ⟨a', rfl, ht⟩ := hok hc
    have HWF := hide (typeP_good hc)
    have HTR := hide ht
    have HU : Hid (encP s value = encR s value (rText 12 (typeP s) value.data.toList)) := by show _ = _; unfold encP; rw [if_pos hz]
    rw [hc]
    clear hF1 hok hz hc ht
    go_wp2_with fail
    refine (enct_any s _ a' (typeP s) value HTR HWF hv).mono ?_
    rintro e w2 ⟨hF2, rfl⟩
    have HF2 := hide (HF1.out.trans hF2)
    clear hF2
    go_wp2_with fail
    go_ret3
    rw [HU.out]
    exact ⟨HF2, rfl⟩
  · have HU : Hid (encP s value = (⟨#[]⟩, (checkP s).1, (checkP s).2)) := by show _ = _; unfold encP; rw [if_neg hz]
    have hzI : (((checkP s).1 : Nat) : Int) ≠ 0 := by omega
    have hzb : ((((checkP s).1 : Nat) : Int) == 0) = false := beq_eq_false_iff_ne.2 hzI
    clear hF1 hok hz
    go_wp2_with fail
    go_ret3
    rw [HU.out]
    exact ⟨HF1, rfl⟩

end Go.Proofs.YtdcjogpkogidaaaGreatDoor
end
section
namespace Go.Proofs.YtdcjogpkogidaaaGreatDoor
open Go.RowKit

theorem results_cells3 {fn : Func} {p q r : Tmp} {t1 t2 t3 : TypeId} (h : fn.results = #[.cell p t1, .cell q t2, .cell r t3]) (tmps : Array Value) (P : Program) (w : World) :
    (results fn tmps).run P w =
      ((asAddr (tmps.getD p undef)).run P w).andThen fun a w₁ => ((loadVar t1 a).run P w₁).andThen fun v w₂ => ((asAddr (tmps.getD q undef)).run P w₂).andThen fun b w₃ => ((loadVar t2 b).run P w₃).andThen fun u w₄ =>
        ((asAddr (tmps.getD r undef)).run P w₄).andThen fun c w₅ => ((loadVar t3 c).run P w₅).andThen fun x w₆ => .ok (.tuple #[v, u, x]) w₆ := by
  simp only [results, h]
  simp [Sem.run_bind, Result.andThen]

set_option maxHeartbeats 4000000 in
theorem part_empty (w : World) (ca : Addr) (cn : Int) (cb : Bs) (o : Option Addr) (n j : Nat) :
    Calls Tryz.prog 42 #[.agg #[.pointer (some ca), .int .i64 cn, .string (ba cb), .slice o n j], .string ⟨#[]⟩] w fun e w' => Fr Zero w w' ∧ e = .returned (.tuple #[.agg #[.pointer (some ca), .int .i64 cn, .string (ba cb), .slice o n j], .int .i64 0, .bool true]) := by
  go_enter Tryz.func42, Tryz.ntmps42
  go_wp2_with fail
  refine bodyPost_ret (v := .tuple #[.agg #[.pointer (some ca), .int .i64 cn, .string (ba cb), .slice o n j], .int .i64 0, .bool true]) ?_ rfl ⟨?_, rfl⟩
  · rw [results_cells3 rfl]
    go_simp
  · exact (((Fr.alloc _ _ _).trans (Fr.alloc _ _ _)).trans (Fr.alloc _ _ _)).trans (Fr.alloc _ _ _)

/-- Decode: the text, the error, the place. -/
def decR (data : ByteArray) (r : Option PV × Bs) : ByteArray × Nat × Nat :=
  match r with
  | (some v, []) => (ba (wText 12 v), 0, 0)
  | (_, r') => (⟨#[]⟩, 6, pos data r')
def decP (s data : ByteArray) : ByteArray × Nat × Nat :=
  if (checkP s).1 = 0 then (if data.size ≤ 1000 then decR data (rMsg 12 (typeP s) data.data.toList) else (⟨#[]⟩, 1, 0)) else (⟨#[]⟩, (checkP s).1, (checkP s).2)
theorem decR_no {data : ByteArray} {r : Option PV × Bs} (h : ¬ ∃ v, r = (some v, [])) : decR data r = (⟨#[]⟩, 6, pos data r.2) := by
  unfold decR
  rcases r with ⟨_ | v, _ | ⟨b, l⟩⟩
  · rfl
  · rfl
  · exact absurd ⟨v, rfl⟩ h
  · rfl

/-- What a message of a type tells: its text, the error, the place. -/
def decT (t : PT) (data : ByteArray) : ByteArray × Nat × Nat := if data.size ≤ 1000 then decR data (rMsg 12 t data.data.toList) else (⟨#[]⟩, 1, 0)

set_option maxHeartbeats 8000000 in
set_option maxRecDepth 100000 in
theorem gett_empty (w : World) (a : Addr) (t : PT) (data : ByteArray) (hpt : PowT w) (ht : TR w Zero a t) (hW : WFT 12 t) (hd : data.size ≤ maxLen) :
    Calls Tryz.prog 25 #[.pointer (some a), .string data, .string ⟨#[]⟩] w fun e w' => TriPost w (decT t data) e w' := by
  have HP := hide hpt
  have HTR := hide ht
  have HWF := hide hW
  clear hpt ht hW
  go_enter Tryz.func25, Tryz.ntmps25
  by_cases hsz : data.size ≤ 1000
  · have HU2 : Hid (decT t data = decR data (rMsg 12 t data.data.toList)) := by show _ = _; unfold decT; rw [if_pos hsz]
    have HSZ := hide hsz
    clear hsz
    go_wp2_with fail
    refine (fromMessage_short _ a t data HTR HWF HSZ).mono ?_
    rcases hq : rMsg 12 t data.data.toList with ⟨q, r⟩
    have HQ := hide hq
    rw [hq] at HU2
    clear hq
    rintro e w2 ⟨hF2, h2⟩
    have HF2 := hide hF2
    rcases h2 with ⟨v, ⟨ca, cn, cb, csv⟩, hr, ⟨o, n, k, hsv⟩, rfl, hvr⟩ | ⟨hno, rfl⟩
    · simp only at hsv
      subst hsv
      simp only [Prod.mk.injEq] at hr
      obtain ⟨rfl, rfl⟩ := hr
      obtain ⟨hval, htx⟩ := rMsg_sound 12 t _ _ _ HWF.out HQ.out
      have hlen := (text_len 12 t v HWF.out hval).2
      have hl2 : (wMsg 12 v).length = data.size := by
        have := congrArg List.length htx
        rw [Array.length_toList, List.length_append] at this
        simp at this
        exact this.symm
      have HV := hide hvr
      have HVal := hide hval
      have HLn : Hid ((wText 12 v).length + 1000 ≤ 140737488355328) := by
        have := HSZ.out
        show _ ≤ _
        omega
      have HM : Hid (decT t data = (ba (wText 12 v), 0, 0)) := HU2
      clear hF2 hvr hval htx hlen hl2 HQ HU2
      simp only [VC.val]
      go_wp2_with fail
      refine (part_empty _ ca cn cb o n k).mono ?_
      rintro e w3 ⟨hF3, rfl⟩
      have HF3 := hide (HF2.out.trans ((Fr.alloc _ _ _).trans hF3))
      have HV3 := hide ((HV.out.keep (Fr.alloc _ _ _)).keep hF3)
      clear hF3
      go_wp2_with fail
      refine (text_any (k := 12) (t := t) _ ⟨ca, cn, cb, .slice o n k⟩ v (HP.out.keep (HF3.out.trans (Fr.alloc _ _ _)) (fun h => h)) (HV3.out.keep (Fr.alloc _ _ _)) HWF HVal HLn ⟨_, _, _, rfl⟩).mono ?_
      rintro e w4 ⟨hF4, rfl⟩
      have HF4 := hide (HF3.out.trans ((Fr.alloc _ _ _).trans hF4))
      clear hF4
      go_wp2_with fail
      go_ret3
      rw [HM.out]
      exact ⟨HF4, rfl⟩
    · have HN := hide (decR_no (data := data) hno)
      clear hF2 hno
      go_wp2_with fail
      go_ret3
      rw [HU2.out, HN.out]
      exact ⟨HF2.out.trans (Fr.alloc _ _ _), rfl⟩
  · have HU2 : Hid (decT t data = (⟨#[]⟩, 1, 0)) := by show _ = _; unfold decT; rw [if_neg hsz]
    have HSZ : Hid (1000 < data.size) := by show _ < _; omega
    clear hsz
    go_wp2_with fail
    refine (fromMessage_long _ a data hd HSZ).mono ?_
    rintro e w2 ⟨hF2, rfl⟩
    have HF2 := hide hF2
    clear hF2
    go_wp2_with fail
    go_ret3
    rw [HU2.out]
    exact ⟨HF2.out.trans (Fr.alloc _ _ _), rfl⟩

set_option maxHeartbeats 8000000 in
set_option maxRecDepth 100000 in
theorem get_empty (s data : ByteArray) (w : World) (hw : Words w) (het : ErrT w) (hpt : PowT w) (hs : s.size ≤ maxLen) (hd : data.size ≤ maxLen) :
    Calls Tryz.prog 16 #[.string s, .string data, .string ⟨#[]⟩] w fun e w' => TriPost w (decP s data) e w' := by
  have HW := hide hw
  have HE := hide het
  have HP := hide hpt
  clear hw het hpt
  go_enter Tryz.func16, Tryz.ntmps16
  go_wp2_with fail
  refine (sparse_any s _ HW HE hs).mono ?_
  rintro e w1 ⟨hF1, a, rfl, hok⟩
  have HF1 := hide hF1
  by_cases hz : (checkP s).1 = 0
  · have hc := checkP_ok hz
    obtain ⟨a', rfl, ht⟩ := hok hc
    have HWF := hide (typeP_good hc)
    have HTR := hide ht
    have HU : Hid (decP s data = decT (typeP s) data) := by show _ = _; unfold decP decT; rw [if_pos hz]
    rw [hc]
    clear hF1 hok hz hc ht
    go_wp2_with fail
    refine (gett_empty _ a' (typeP s) data (HP.out.keep HF1.out (fun h => h)) HTR HWF hd).mono ?_
    rintro e w2 ⟨hF2, rfl⟩
    have HF2 := hide (HF1.out.trans hF2)
    clear hF2
    go_wp2_with fail
    go_ret3
    rw [HU.out]
    exact ⟨HF2, rfl⟩
  · have HU : Hid (decP s data = (⟨#[]⟩, (checkP s).1, (checkP s).2)) := by show _ = _; unfold decP; rw [if_neg hz]
    have hzI : (((checkP s).1 : Nat) : Int) ≠ 0 := by omega
    have hzb : ((((checkP s).1 : Nat) : Int) == 0) = false := beq_eq_false_iff_ne.2 hzI
    clear hF1 hok hz
    go_wp2_with fail
    go_ret3
    rw [HU.out]
    exact ⟨HF1, rfl⟩

theorem decode_any (s data : ByteArray) (w : World) (hw : Words w) (het : ErrT w) (hpt : PowT w) (hs : s.size ≤ maxLen) (hd : data.size ≤ maxLen) :
    Calls Tryz.prog 10 #[.string s, .string data] w fun e w' => TriPost w (decP s data) e w' := by
  have HW := hide hw
  have HE := hide het
  have HP := hide hpt
  clear hw het hpt
  go_enter Tryz.func10, Tryz.ntmps10
  go_wp2_with fail
  refine (get_empty s data _ HW HE HP hs hd).mono ?_
  rintro e w1 ⟨hF1, rfl⟩
  have HF1 := hide hF1
  clear hF1
  go_wp2_with fail
  go_ret3
  exact ⟨HF1, rfl⟩

end Go.Proofs.YtdcjogpkogidaaaGreatDoor
end
section
namespace Go.Proofs.YtdcjogpkogidaaaGreatDoor
open Go.RowKit

/-! ### What is written is read again, and what is read is written again -/

theorem ba_inj {s : ByteArray} {l : Bs} (h : s.data.toList = l) : s = ba l := by rw [← h, ba_data]

theorem dec_back {s data : ByteArray} (hc : checkP s = (0, 0)) (h : (decP s data).2.1 = 0) : encP s (decP s data).1 = (data, 0, 0) ∧ (decP s data).1.size ≤ 10000000 := by
  have hW := typeP_good hc
  have hE : decP s data = if data.size ≤ 1000 then decR data (rMsg 12 (typeP s) data.data.toList) else (⟨#[]⟩, 1, 0) := by unfold decP; rw [if_pos (by rw [hc])]
  rw [hE] at h ⊢
  by_cases hsz : data.size ≤ 1000
  · rw [if_pos hsz] at h ⊢
    rcases hq : rMsg 12 (typeP s) data.data.toList with ⟨q, r⟩
    rw [hq] at h
    by_cases hv : ∃ v, (q, r) = (some v, [])
    · obtain ⟨v, hv⟩ := hv
      simp only [Prod.mk.injEq] at hv
      obtain ⟨rfl, rfl⟩ := hv
      obtain ⟨hVal, htx⟩ := rMsg_sound 12 (typeP s) _ _ _ hW hq
      rw [List.append_nil] at htx
      have hlm : (wMsg 12 v).length = data.size := by rw [← htx, Array.length_toList]; rfl
      have hlt := (text_len 12 (typeP s) v hW hVal).2
      have e1 : decR data (some v, []) = (ba (wText 12 v), 0, 0) := rfl
      rw [e1]
      refine ⟨?_, by rw [ba_size]; omega⟩
      have hr := rText_whole 12 (typeP s) v [] hW hVal (fun b l h => by cases h)
      rw [List.append_nil] at hr
      unfold encP
      rw [if_pos (by rw [hc]), ba_list, hr]
      simp only [encR]
      rw [if_pos (by omega), ← ba_inj htx]
    · rw [decR_no hv] at h
      cases h
  · rw [if_neg hsz] at h
    cases h
/-! ### awake -/

def awD : ByteArray := ⟨#[109, 61, 123, 105, 100, 58, 115, 104, 111, 114, 116, 44, 116, 97, 103, 58, 116, 101, 120, 116, 44, 111, 110, 58, 63, 98, 111, 111, 108, 125]⟩
def awV : ByteArray := ⟨#[123, 50, 53, 56, 44, 34, 104, 105, 34, 44, 43, 121, 101, 115, 125]⟩
def awM : ByteArray := ⟨#[2, 1, 2, 104, 105, 1, 1]⟩
theorem aw_enc : encP awD awV = (awM, 0, 0) := by decide +kernel
theorem aw_dec : decP awD awM = (awV, 0, 0) := by decide +kernel

theorem awake_any (w : World) (hw : Words w) (het : ErrT w) (hpt : PowT w) :
    Calls Tryz.prog 7 #[] w fun e w' => Fr Zero w w' ∧ e = .returned (.bool true) := by
  have HW := hide hw
  have HE := hide het
  have HP := hide hpt
  clear hw het hpt
  go_enter Tryz.func7, Tryz.ntmps7
  go_wp2_with fail
  refine (encode_any awD awV _ HW HE (by decide) (by decide)).mono ?_
  rw [aw_enc]
  rintro e w1 ⟨hF1, rfl⟩
  have HF1 := hide hF1
  have HW1 := hide (HW.out.keep hF1 (fun h => h))
  have HE1 := hide (HE.out.keep hF1 (fun h => h))
  have HP1 := hide (HP.out.keep hF1 (fun h => h))
  clear hF1
  go_wp2_with fail
  refine (decode_any awD awM _ HW1 HE1 HP1 (by decide) (by decide)).mono ?_
  rw [aw_dec]
  rintro e w2 ⟨hF2, rfl⟩
  have HF2 := hide (HF1.out.trans hF2)
  clear hF2
  have q1 : (awM.toList == [2, 1, 2, 104, 105, 1, 1]) = true := by rw [ByteArray.toList_eq]; decide
  have q2 : (awV.toList == [123, 50, 53, 56, 44, 34, 104, 105, 34, 44, 43, 121, 101, 115, 125]) = true := by rw [ByteArray.toList_eq]; decide
  go_wp2_with fail
  go_ret
  exact ⟨HF2, rfl⟩

theorem sameB (s : ByteArray) : (s.toList == s.toList) = true := by simp

end Go.Proofs.YtdcjogpkogidaaaGreatDoor
end
section
namespace Go.Proofs.YtdcjogpkogidaaaGreatDoor

/-- What was read, with the next byte, tells the answer, whatever follows; and what was read is read to its end. -/
def Loc {α : Type} (rd : Bs → Option α × Bs) : Prop :=
  ∀ l, ∃ pre, l = pre ++ (rd l).2 ∧ (∀ b r', (rd l).2 = b :: r' → ∀ r'', rd (pre ++ b :: r'') = ((rd l).1, b :: r'')) ∧ (rd pre).2 = []

def ret {α : Type} (x : α) : Bs → Option α × Bs := fun l => (some x, l)
section
variable {α β : Type}

theorem Loc.empty {rd : Bs → Option α × Bs} (h : Loc rd) : (rd []).2 = [] := by
  obtain ⟨pre, h1, _, _⟩ := h []
  have := List.append_eq_nil_iff.1 h1.symm
  exact this.2
theorem Loc.ret (x : α) : Loc (ret x) := fun _ => ⟨[], rfl, fun _ _ _ _ => rfl, rfl⟩
end

/-! ### The readers of texts -/

/-! ### The readers of bytes -/

end Go.Proofs.YtdcjogpkogidaaaGreatDoor
end
section
namespace Go.Proofs.YtdcjogpkogidaaaGreatDoor
open Go.RowKit

/-! ### The places -/

/-! ### The walk -/

theorem pick_any (c n : Int) (hn : 0 < n) (hn2 : n ≤ 9223372036854775807) (hc : -9223372036854775808 ≤ c) (hc2 : c ≤ 9223372036854775807) (w : World) :
    Calls Tryz.prog 8 #[.int .i64 c, .int .i64 n] w fun e w' => w' = w ∧ ∃ k : Nat, (k : Int) < n ∧ e = .returned (.int .i64 k) := by
  have hz : (n == 0) = false := beq_eq_false_iff_ne.2 (by omega)
  by_cases h : c < 0
  · obtain ⟨k, e1, e2⟩ : ∃ k : Nat, (-(c + 1).tmod n) = (k : Int) ∧ (k : Int) < n := by
      refine ⟨((-(c + 1)) % n).toNat, ?_, ?_⟩
      · rw [← Int.neg_tmod, Int.tmod_eq_emod_of_nonneg (by omega), Int.toNat_of_nonneg (Int.emod_nonneg _ (by omega))]
      · rw [Int.toNat_of_nonneg (Int.emod_nonneg _ (by omega))]
        exact Int.emod_lt_of_pos _ hn
    go_enter Tryz.func8, Tryz.ntmps8
    go_wp2_with fail
    go_ret
    exact ⟨rfl, k, e2, rfl⟩
  · obtain ⟨k, e1, e2⟩ : ∃ k : Nat, c % n = (k : Int) ∧ (k : Int) < n := by
      refine ⟨(c % n).toNat, ?_, ?_⟩
      · rw [Int.toNat_of_nonneg (Int.emod_nonneg _ (by omega))]
      · rw [Int.toNat_of_nonneg (Int.emod_nonneg _ (by omega))]
        exact Int.emod_lt_of_pos _ hn
    go_enter Tryz.func8, Tryz.ntmps8
    go_wp2_with fail
    go_ret
    exact ⟨rfl, k, e2, rfl⟩

end Go.Proofs.YtdcjogpkogidaaaGreatDoor
end
section
namespace Go.Proofs.YtdcjogpkogidaaaGreatDoor
open Go.Shelf
def laysM171_ren : Go.Shelf.Ren := ⟨fun | 171 => 182 | 243 => 208 | 246 => 227 | 283 => 228 | 284 => 229 | 285 => 230 | 286 => 231 | 129 => 237 | 317 => 236 | 318 => 238 | 319 => 239 | 320 => 240 | 337 => 241 | 338 => 242 | n => n, fun | 3 => 3 | 9 => 9 | 2 => 2 | 4 => 4 | 171 => 321 | 0 => 0 | 53 => 185 | 37 => 24 | 5 => 5 | 173 => 324 | 212 => 332 | 51 => 328 | 20 => 20 | 213 => 333 | 46 => 286 | 232 => 336 | 233 => 337 | n => n, fun | 17 => 5 | 18 => 6 | 19 => 7 | n => n⟩
theorem laysM171 : Go.Proofs.LaysM.n171 Tryz.prog laysM171_ren := {
  mixed := by kernel_rfl
  f129 := Tryz.func237.trans (congrArg some (by kernel_rfl))
  f171 := Tryz.func182.trans (congrArg some (by kernel_rfl))
  f243 := Tryz.func208.trans (congrArg some (by kernel_rfl))
  f246 := Tryz.func227.trans (congrArg some (by kernel_rfl))
  f283 := Tryz.func228.trans (congrArg some (by kernel_rfl))
  f284 := Tryz.func229.trans (congrArg some (by kernel_rfl))
  f285 := Tryz.func230.trans (congrArg some (by kernel_rfl))
  f286 := Tryz.func231.trans (congrArg some (by kernel_rfl))
  f317 := Tryz.func236.trans (congrArg some (by kernel_rfl))
  f318 := Tryz.func238.trans (congrArg some (by kernel_rfl))
  f319 := Tryz.func239.trans (congrArg some (by kernel_rfl))
  f320 := Tryz.func240.trans (congrArg some (by kernel_rfl))
  f337 := Tryz.func241.trans (congrArg some (by kernel_rfl))
  f338 := Tryz.func242.trans (congrArg some (by kernel_rfl))
  t0 := Tryz.underlying0
  a0 := Tryz.isAgg0
  z0 := Tryz.sizeOf0
  v0 := Tryz.zeroValue0
  t2 := Tryz.underlying2
  a2 := Tryz.isAgg2
  z2 := Tryz.sizeOf2
  v2 := Tryz.zeroValue2
  t3 := Tryz.underlying3
  a3 := Tryz.isAgg3
  z3 := Tryz.sizeOf3
  v3 := Tryz.zeroValue3
  t4 := Tryz.underlying4
  a4 := Tryz.isAgg4
  z4 := Tryz.sizeOf4
  v4 := Tryz.zeroValue4
  t5 := Tryz.underlying5
  a5 := Tryz.isAgg5
  z5 := Tryz.sizeOf5
  v5 := Tryz.zeroValue5
  t9 := Tryz.underlying9
  a9 := Tryz.isAgg9
  z9 := Tryz.sizeOf9
  v9 := Tryz.zeroValue9
  t20 := Tryz.underlying20
  a20 := Tryz.isAgg20
  z20 := Tryz.sizeOf20
  v20 := Tryz.zeroValue20
  t37 := Tryz.underlying24
  a37 := Tryz.isAgg24
  z37 := Tryz.sizeOf24
  v37 := Tryz.zeroValue24
  t46 := Tryz.underlying286
  a46 := Tryz.isAgg286
  z46 := Tryz.sizeOf286
  v46 := Tryz.zeroValue286
  t51 := Tryz.underlying328
  a51 := Tryz.isAgg328
  z51 := Tryz.sizeOf328
  v51 := Tryz.zeroValue328
  t53 := Tryz.underlying185
  a53 := Tryz.isAgg185
  z53 := Tryz.sizeOf185
  v53 := Tryz.zeroValue185
  t171 := Tryz.underlying321
  a171 := Tryz.isAgg321
  z171 := Tryz.sizeOf321
  v171 := Tryz.zeroValue321
  t173 := Tryz.underlying324
  a173 := Tryz.isAgg324
  z173 := Tryz.sizeOf324
  v173 := Tryz.zeroValue324
  t212 := Tryz.underlying332
  a212 := Tryz.isAgg332
  z212 := Tryz.sizeOf332
  v212 := Tryz.zeroValue332
  t213 := Tryz.underlying333
  a213 := Tryz.isAgg333
  z213 := Tryz.sizeOf333
  t232 := Tryz.underlying336
  a232 := Tryz.isAgg336
  z232 := Tryz.sizeOf336
  v232 := Tryz.zeroValue336
  t233 := Tryz.underlying337
  a233 := Tryz.isAgg337
  z233 := Tryz.sizeOf337
  v233 := Tryz.zeroValue337
  g17 := by kernel_rfl
  g18 := by kernel_rfl
  g19 := by kernel_rfl
  i0 := by kernel_rfl
  i2 := by kernel_rfl
  i3 := by kernel_rfl
  i4 := by kernel_rfl
  i5 := by kernel_rfl
  i9 := by kernel_rfl
  i20 := by kernel_rfl
  i37 := by kernel_rfl
  i46 := by kernel_rfl
  i51 := by kernel_rfl
  i53 := by kernel_rfl
  i171 := by kernel_rfl
  i173 := by kernel_rfl
  i212 := by kernel_rfl
  i232 := by kernel_rfl
  i233 := by kernel_rfl
  m17 := by kernel_rfl
  m18 := by kernel_rfl
  m19 := by kernel_rfl }
def lays143_ren : Go.Shelf.Ren := ⟨fun | 143 => 181 | 219 => 207 | 217 => 223 | 225 => 224 | 224 => 225 | 267 => 226 | 266 => 234 | 314 => 235 | n => n, fun | 9 => 9 | 3 => 3 | 4 => 4 | 5 => 5 | 46 => 286 | 146 => 329 | 51 => 328 | n => n, fun | 1 => 3 | n => n⟩
theorem lays143 : Go.Proofs.Lays.n143 Tryz.prog lays143_ren := {
  mixed := by kernel_rfl
  f143 := Tryz.func181.trans (congrArg some (by kernel_rfl))
  f217 := Tryz.func223.trans (congrArg some (by kernel_rfl))
  f219 := Tryz.func207.trans (congrArg some (by kernel_rfl))
  f224 := Tryz.func225.trans (congrArg some (by kernel_rfl))
  f225 := Tryz.func224.trans (congrArg some (by kernel_rfl))
  f266 := Tryz.func234.trans (congrArg some (by kernel_rfl))
  f267 := Tryz.func226.trans (congrArg some (by kernel_rfl))
  f314 := Tryz.func235.trans (congrArg some (by kernel_rfl))
  t3 := Tryz.underlying3
  a3 := Tryz.isAgg3
  z3 := Tryz.sizeOf3
  v3 := Tryz.zeroValue3
  t4 := Tryz.underlying4
  a4 := Tryz.isAgg4
  z4 := Tryz.sizeOf4
  v4 := Tryz.zeroValue4
  t5 := Tryz.underlying5
  a5 := Tryz.isAgg5
  z5 := Tryz.sizeOf5
  v5 := Tryz.zeroValue5
  t9 := Tryz.underlying9
  a9 := Tryz.isAgg9
  z9 := Tryz.sizeOf9
  v9 := Tryz.zeroValue9
  t46 := Tryz.underlying286
  a46 := Tryz.isAgg286
  z46 := Tryz.sizeOf286
  v46 := Tryz.zeroValue286
  t51 := Tryz.underlying328
  a51 := Tryz.isAgg328
  z51 := Tryz.sizeOf328
  v51 := Tryz.zeroValue328
  t146 := Tryz.underlying329
  a146 := Tryz.isAgg329
  z146 := Tryz.sizeOf329
  v146 := Tryz.zeroValue329
  g1 := by kernel_rfl }
end Go.Proofs.YtdcjogpkogidaaaGreatDoor
end
section
namespace Go.Proofs.YtdcjogpkogidaaaGreatDoor
open Go.RowKit

theorem Fr.grow (X : Nat → Prop) (w : World) (os : Array Obj) : Fr X w (Go.Sort.grow w os) :=
  ⟨rfl, rfl, rfl, by show w.heap.size ≤ (w.heap ++ os).size; rw [Array.size_append]; omega, fun i hi _ => by show (w.heap ++ os)[i]? = w.heap[i]?; rw [Array.getElem?_append_left hi]⟩
theorem PowT.drawn {w : World} (h : PowT w) {w' : World} (hf : Fr Zero w w') : PowT w' := h.keep hf (fun h => h)

set_option maxHeartbeats 8000000 in
set_option maxRecDepth 100000 in
theorem pstep_any (w : World) (c : VC) (v : PV) (hV : VR w Zero c v) (hc : ∃ o n j, c.sv = .slice o n j) (i : Nat) (hP : PowT w) (hi : i ≤ 1000000) (hk : v.of.kind = 7 ∨ v.of.kind = 8 ∨ (v.of.kind = 9 ∧ i < v.of.subs.length) ∨ (v.of.kind = 10 ∧ ∃ j : Nat, v.num = j ∧ j < v.of.subs.length)) :
    Calls Tryz.prog 141 #[c.val, .int .i64 i] w fun e w' => Fr Zero w w' ∧ e = .returned (.string (ba (stepOf v.of v.num i))) := by
  obtain ⟨k, hV⟩ := hV
  rcases k with _ | k
  · exact hV.elim
  obtain ⟨ca, cn, cb, csv⟩ := c
  obtain ⟨htr, hn, hb, rows, hO, hx, hl, hr⟩ := hV
  simp only at htr hn hb hO hc
  obtain ⟨o, nn, jj, rfl⟩ := hc
  subst hn hb
  obtain ⟨tb, tsv, trows, rfl, htb, htx, hTO, hTx, hTn, hTl, hTs⟩ := htr.open
  have htl := lt_of_heap htb
  have k0 : w.cell? ⟨tb, 0, none⟩ = some (.int .i64 v.of.kind) := by rw [cell_of_heap htb]; rfl
  have HP := hide hP
  simp only [VC.val]
  rcases hk with h7 | h8 | ⟨h9, hi9⟩ | ⟨h10, j, hj, hjl⟩
  · have HE : Hid (stepOf v.of v.num i = decN 20 i) := by show _ = _; unfold stepOf; rw [if_pos h7]
    rw [h7] at k0
    have hA : Hid (PowT (w.alloc (.cells #[.pointer (some ⟨tb, 0, none⟩), .int .i64 v.num, .string (ba v.bytes), .slice o nn jj] 96))) := HP.out.drawn (Fr.alloc _ _ _)
    have hdec : Hid (decN 20 i = Lib.itoa (i : Int)) := by
      show _ = _
      rw [← decI_itoa (i : Int) (by omega) (by omega)]
      unfold decI
      rw [if_neg (by omega)]
      simp
    clear hTO hTx hTn hTl hTs hO hx hl hr htb htx htr h7 hP
    go_enter Tryz.func141, Tryz.ntmps141
    go_wp2_with fail
    refine (Any.strconv_Itoa laysM171 (i : Int) (by omega) (by omega) _ hA.out).mono ?_
    rintro e w1 ⟨rfl, kk, os, hw1⟩
    have HF1 : Hid (Fr Zero w w1) := by
      rw [hw1]
      exact ((Fr.alloc _ _ _).trans (Fr.drewN _ _ _)).trans (Fr.grow _ _ _)
    clear hw1
    go_wp2_with fail
    go_ret
    rw [HE.out, hdec.out]
    exact ⟨HF1, rfl⟩
  · have HE : Hid (stepOf v.of v.num i = [43]) := by show _ = _; unfold stepOf; rw [if_neg (by omega), if_pos h8]
    rw [h8] at k0
    clear hTO hTx hTn hTl hTs hO hx hl hr htb htx htr h8 hP
    go_enter Tryz.func141, Tryz.ntmps141
    go_wp2_with fail
    go_ret
    rw [HE.out]
    exact ⟨Fr.alloc _ _ _, rfl⟩
  · have HE : Hid (stepOf v.of v.num i = v.of.name i) := by show _ = _; unfold stepOf; rw [if_neg (by omega), if_neg (by omega), if_pos h9]
    rw [h9] at k0
    have hit : i < trows.length := by omega
    obtain ⟨p, hp⟩ : ∃ p, trows[i]? = some p := ⟨trows[i], by simp⟩
    obtain ⟨pg, tcap, htsv⟩ := own_some hTO (by omega)
    subst htsv
    have hpl : pg < w.heap.size := (hTO.lt pg rfl).2
    obtain ⟨nl, hnl⟩ : ∃ nl, nl = p.1.data.toList := ⟨_, rfl⟩
    have hba : p.1 = ba nl := by rw [hnl, ba_data]
    have n0 : w.cell? ⟨pg, i * 2, none⟩ = some (.string (ba nl)) := by rw [hTO.cellAt (i * 2) (by omega), (rowCells_get trows i p hp).1, hba]
    have t1 : w.cell? ⟨tb, 1, none⟩ = some (.slice (some ⟨pg, 0, none⟩) trows.length tcap) := by rw [cell_of_heap htb]; rfl
    have HNM : Hid (v.of.name i = nl) := by
      show _ = _
      have h1 := congrArg (fun l => l[i]?) hTn
      simp only [List.getElem?_map, hp, Option.map_some] at h1
      unfold PT.name
      rw [← h1, hnl]
      rfl
    have hitI : (i : Int) < (trows.length : Int) := by omega
    clear hTO hTx hTn hTl hTs hO hx hl hr htb htx htr h9 hP hp hnl hba hi9
    go_enter Tryz.func141, Tryz.ntmps141
    go_wp2_with fail
    go_ret
    rw [HE.out, HNM.out]
    exact ⟨Fr.alloc _ _ _, rfl⟩
  · have HE : Hid (stepOf v.of v.num i = v.of.name j) := by show _ = _; unfold stepOf; rw [if_neg (by omega), if_neg (by omega), if_neg (by omega), hj]; simp
    rw [h10] at k0
    have hit : j < trows.length := by omega
    obtain ⟨p, hp⟩ : ∃ p, trows[j]? = some p := ⟨trows[j], by simp⟩
    obtain ⟨pg, tcap, htsv⟩ := own_some hTO (by omega)
    subst htsv
    have hpl : pg < w.heap.size := (hTO.lt pg rfl).2
    obtain ⟨nl, hnl⟩ : ∃ nl, nl = p.1.data.toList := ⟨_, rfl⟩
    have hba : p.1 = ba nl := by rw [hnl, ba_data]
    have n0 : w.cell? ⟨pg, j * 2, none⟩ = some (.string (ba nl)) := by rw [hTO.cellAt (j * 2) (by omega), (rowCells_get trows j p hp).1, hba]
    have t1 : w.cell? ⟨tb, 1, none⟩ = some (.slice (some ⟨pg, 0, none⟩) trows.length tcap) := by rw [cell_of_heap htb]; rfl
    have HNM : Hid (v.of.name j = nl) := by
      show _ = _
      have h1 := congrArg (fun l => l[j]?) hTn
      simp only [List.getElem?_map, hp, Option.map_some] at h1
      unfold PT.name
      rw [← h1, hnl]
      rfl
    have hitI : (j : Int) < (trows.length : Int) := by omega
    rw [hj]
    rw [hj] at HE
    clear hTO hTx hTn hTl hTs hO hx hl hr htb htx htr h10 hP hp hnl hba hjl hj
    go_enter Tryz.func141, Tryz.ntmps141
    go_wp2_with fail
    go_quiet (fail)
    go_wp2_with fail
    go_ret
    rw [HE.out, HNM.out]
    exact ⟨(Fr.alloc _ _ _).trans (Fr.drewN _ _ _), rfl⟩

end Go.Proofs.YtdcjogpkogidaaaGreatDoor
end
