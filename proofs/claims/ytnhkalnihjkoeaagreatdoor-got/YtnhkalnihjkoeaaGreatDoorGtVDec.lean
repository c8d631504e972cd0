/- What Decode tells. -/
import Derived.Test.YtnhkalnihjkoeaaGreatDoorGtVTxt
import Derived.Test.YtnhkalnihjkoeaaGreatDoorGtVMess
import Derived.Test.YtnhkalnihjkoeaaGreatDoorGtVFromM
import Derived.Test.YtnhkalnihjkoeaaGreatDoorGtVWf
import Derived.Test.YtnhkalnihjkoeaaGreatDoorGtVLen
section
namespace Go.Proofs.YtnhkalnihjkoeaaGreatDoor
open Go.RowKit

def TriPost (w : World) (x : ByteArray × Nat × Nat) (e : Ending) (w' : World) : Prop :=
  Fr Zero w w' ∧ e = .returned (.tuple #[.string x.1, .int .i64 x.2.1, .int .i64 x.2.2])

end Go.Proofs.YtnhkalnihjkoeaaGreatDoor
end
section
namespace Go.Proofs.YtnhkalnihjkoeaaGreatDoor
open Go.RowKit

theorem results_cells3 {fn : Func} {p q r : Tmp} {t1 t2 t3 : TypeId} (h : fn.results = #[.cell p t1, .cell q t2, .cell r t3]) (tmps : Array Value) (P : Program) (w : World) :
    (results fn tmps).run P w =
      ((asAddr (tmps.getD p undef)).run P w).andThen fun a w₁ => ((loadVar t1 a).run P w₁).andThen fun v w₂ => ((asAddr (tmps.getD q undef)).run P w₂).andThen fun b w₃ => ((loadVar t2 b).run P w₃).andThen fun u w₄ =>
        ((asAddr (tmps.getD r undef)).run P w₄).andThen fun c w₅ => ((loadVar t3 c).run P w₅).andThen fun x w₆ => .ok (.tuple #[v, u, x]) w₆ := by
  simp only [results, h]
  simp [Sem.run_bind, Result.andThen]

set_option maxHeartbeats 4000000 in
theorem part_empty (w : World) (ca : Addr) (cn : Int) (cb : Bs) (o : Option Addr) (n j : Nat) :
    Calls Tryz.prog 67 #[.agg #[.pointer (some ca), .int .i64 cn, .string (ba cb), .slice o n j], .string ⟨#[]⟩] w fun e w' => Fr Zero w w' ∧ e = .returned (.tuple #[.agg #[.pointer (some ca), .int .i64 cn, .string (ba cb), .slice o n j], .int .i64 0, .bool true]) := by
  go_enter Tryz.func67, Tryz.ntmps67
  go_wp2_with fail
  refine bodyPost_ret (v := .tuple #[.agg #[.pointer (some ca), .int .i64 cn, .string (ba cb), .slice o n j], .int .i64 0, .bool true]) ?_ rfl ⟨?_, rfl⟩
  · rw [results_cells3 rfl]
    go_simp
  · exact (((Fr.alloc _ _ _).trans (Fr.alloc _ _ _)).trans (Fr.alloc _ _ _)).trans (Fr.alloc _ _ _)

/-- Decode: the text, the error, the place. -/
def decR (data : ByteArray) (r : Option PV × Bs) : ByteArray × Nat × Nat :=
  match r with
  | (some v, []) => (ba (wText 12 v), 0, 0)
  | (_, r') => (⟨#[]⟩, 6, pos data r')
theorem decR_no {data : ByteArray} {r : Option PV × Bs} (h : ¬ ∃ v, r = (some v, [])) : decR data r = (⟨#[]⟩, 6, pos data r.2) := by
  unfold decR
  rcases r with ⟨_ | v, _ | ⟨b, l⟩⟩
  · rfl
  · rfl
  · exact absurd ⟨v, rfl⟩ h
  · rfl

/-- What a message of a type tells: its text, the error, the place. -/
def decT (t : PT) (data : ByteArray) : ByteArray × Nat × Nat := if data.size ≤ 1000 then decR data (rMsg 12 t data.data.toList) else (⟨#[]⟩, 1, 0)

set_option maxHeartbeats 8000000 in
set_option maxRecDepth 100000 in
theorem gett_empty (w : World) (a : Addr) (t : PT) (data : ByteArray) (hpt : PowT w) (ht : TR w Zero a t) (hW : WFT 12 t) (hd : data.size ≤ maxLen) :
    Calls Tryz.prog 45 #[.pointer (some a), .string data, .string ⟨#[]⟩] w fun e w' => TriPost w (decT t data) e w' := by
  have HP := hide hpt
  have HTR := hide ht
  have HWF := hide hW
  clear hpt ht hW
  go_enter Tryz.func45, Tryz.ntmps45
  by_cases hsz : data.size ≤ 1000
  · have HU2 : Hid (decT t data = decR data (rMsg 12 t data.data.toList)) := by show _ = _; unfold decT; rw [if_pos hsz]
    have HSZ := hide hsz
    clear hsz
    go_wp2_with fail
    refine (fromMessage_short _ a t data HTR HWF HSZ).mono ?_
    rcases hq : rMsg 12 t data.data.toList with ⟨q, r⟩
    have HQ := hide hq
    rw [hq] at HU2
    clear hq
    rintro e w2 ⟨hF2, h2⟩
    have HF2 := hide hF2
    rcases h2 with ⟨v, ⟨ca, cn, cb, csv⟩, hr, ⟨o, n, k, hsv⟩, rfl, hvr⟩ | ⟨hno, rfl⟩
    · simp only at hsv
      subst hsv
      simp only [Prod.mk.injEq] at hr
      obtain ⟨rfl, rfl⟩ := hr
      obtain ⟨hval, htx⟩ := rMsg_sound 12 t _ _ _ HWF.out HQ.out
      have hlen := (text_len 12 t v HWF.out hval).2
      have hl2 : (wMsg 12 v).length = data.size := by
        have := congrArg List.length htx
        rw [Array.length_toList, List.length_append] at this
        simp at this
        exact this.symm
      have HV := hide hvr
      have HVal := hide hval
      have HLn : Hid ((wText 12 v).length + 1000 ≤ 140737488355328) := by
        have := HSZ.out
        show _ ≤ _
        omega
      have HM : Hid (decT t data = (ba (wText 12 v), 0, 0)) := HU2
      clear hF2 hvr hval htx hlen hl2 HQ HU2
      simp only [VC.val]
      go_wp2_with fail
      refine (part_empty _ ca cn cb o n k).mono ?_
      rintro e w3 ⟨hF3, rfl⟩
      have HF3 := hide (HF2.out.trans ((Fr.alloc _ _ _).trans hF3))
      have HV3 := hide ((HV.out.keep (Fr.alloc _ _ _)).keep hF3)
      clear hF3
      go_wp2_with fail
      refine (text_any (k := 12) (t := t) _ ⟨ca, cn, cb, .slice o n k⟩ v (HP.out.keep (HF3.out.trans (Fr.alloc _ _ _)) (fun h => h)) (HV3.out.keep (Fr.alloc _ _ _)) HWF HVal HLn ⟨_, _, _, rfl⟩).mono ?_
      rintro e w4 ⟨hF4, rfl⟩
      have HF4 := hide (HF3.out.trans ((Fr.alloc _ _ _).trans hF4))
      clear hF4
      go_wp2_with fail
      go_ret3
      rw [HM.out]
      exact ⟨HF4, rfl⟩
    · have HN := hide (decR_no (data := data) hno)
      clear hF2 hno
      go_wp2_with fail
      go_ret3
      rw [HU2.out, HN.out]
      exact ⟨HF2.out.trans (Fr.alloc _ _ _), rfl⟩
  · have HU2 : Hid (decT t data = (⟨#[]⟩, 1, 0)) := by show _ = _; unfold decT; rw [if_neg hsz]
    have HSZ : Hid (1000 < data.size) := by show _ < _; omega
    clear hsz
    go_wp2_with fail
    refine (fromMessage_long _ a data hd HSZ).mono ?_
    rintro e w2 ⟨hF2, rfl⟩
    have HF2 := hide hF2
    clear hF2
    go_wp2_with fail
    go_ret3
    rw [HU2.out]
    exact ⟨HF2.out.trans (Fr.alloc _ _ _), rfl⟩

end Go.Proofs.YtnhkalnihjkoeaaGreatDoor
end
