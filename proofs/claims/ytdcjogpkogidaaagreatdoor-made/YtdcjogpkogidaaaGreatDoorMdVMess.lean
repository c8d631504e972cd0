/- The message of a value. -/
import Derived.Test.YtdcjogpkogidaaaGreatDoorMdVWVal
namespace Go.Proofs.YtdcjogpkogidaaaGreatDoor
open Go.RowKit

theorem WB.conv {w : World} {wb : Nat} {l : Bs} (h : WB w wb l) (hl : l.length ≤ 1000) : (convert 24 9 (.slice (some ⟨wb, 1, none⟩) l.length 1000)).run Tryz.prog w = .ok (.string (ba l)) w := by
  refine run_convert_bytes_back (P := Tryz.prog) w 24 9 5 ⟨wb, 1, none⟩ 1000 l Tryz.underlying24 Tryz.underlying5 Tryz.underlying9 (fun j hj => ?_)
  obtain ⟨cs, h1, h2, h3, h4⟩ := h.block
  have e : (⟨wb, 1, none⟩ : Addr).add j = ⟨wb, 1 + j, none⟩ := by simp [Addr.add]
  rw [e, cell_of_heap h2, Nat.add_comm]
  exact h4 j l[j] (by omega) (by rw [List.getElem?_eq_getElem hj])

/-- What is told of all that was written. -/
def msgS (l : Bs) : ByteArray := if l.length ≤ 1000 then ba l else ⟨#[]⟩
def msgB (l : Bs) : Bool := decide (l.length ≤ 1000)

set_option maxHeartbeats 4000000 in
set_option maxRecDepth 100000 in
theorem wmessage_any (w : World) (wb : Nat) (l : Bs) (h : WB w wb l) :
    Calls Tryz.prog 79 #[.pointer (some ⟨wb, 0, none⟩)] w fun e w' => Fr Zero w w' ∧ e = .returned (.tuple #[.string (msgS l), .bool (msgB l)]) := by
  have hat := h.at0
  have HW := hide h
  by_cases hle : l.length ≤ 1000
  · have hI : ¬ (1000 : Int) < (l.length : Int) := by omega
    have hI2 : (l.length : Int) ≤ 1000 := by omega
    have hcv := h.conv hle
    have HC : Hid (msgS l = ba l) := if_pos hle
    have HD : Hid (msgB l = true) := decide_eq_true hle
    clear h
    go_enter Tryz.func79, Tryz.ntmps79
    go_wp2_with fail
    refine (at_any wb l.length _ hat).mono ?_
    rintro e w1 ⟨rfl, e1⟩
    obtain rfl := e1.symm
    go_wp2_with fail
    go_region_held3 (fun w' => (convert 24 9 (.slice (some ⟨wb, 1, none⟩) l.length 1000)).run Tryz.prog w' = .ok (.string (ba l)) w') (first | assumption | exact (HW.out.same rfl : WB w.drew wb l).conv hle) (first | (go_at_call 71; refine (at_any wb l.length _ (by exact hat)).mono ?_; rintro e w2 ⟨rfl, rfl⟩))
    go_wp2_with fail
    go_ret2
    rw [HC.out, HD.out]
    exact ⟨Fr.dr _ _, rfl⟩
  · have hI : (1000 : Int) < (l.length : Int) := by omega
    have HC : Hid (msgS l = ⟨#[]⟩) := if_neg hle
    have HD : Hid (msgB l = false) := decide_eq_false hle
    clear h
    go_enter Tryz.func79, Tryz.ntmps79
    go_wp2_with fail
    refine (at_any wb l.length _ hat).mono ?_
    rintro e w1 ⟨rfl, e1⟩
    obtain rfl := e1.symm
    go_wp2_with fail
    go_ret2
    rw [HC.out, HD.out]
    exact ⟨Fr.refl _ _, rfl⟩

theorem zeroW : Tryz.zeroCells167.size = 1001 := by kernel_rfl
theorem zeroW0 : Tryz.zeroCells167[0]? = some (.int .i64 0) := by kernel_rfl

theorem WB.start (w : World) : WB (w.alloc (.cells Tryz.zeroCells167 167)) w.heap.size [] :=
  ⟨⟨_, zeroW, heap_new_at rfl _, zeroW0, fun j b hj hb => by simp at hb⟩⟩

set_option maxHeartbeats 4000000 in
set_option maxRecDepth 100000 in
theorem message_any (w : World) (c : VC) (v : PV) (t : PT) (hV : VR w Zero c v) (hW : WFT 12 t) (hVal : Valid 12 t v) (hl : (wMsg 12 v).length ≤ 100000000000000000) :
    Calls Tryz.prog 33 #[c.val] w fun e w' => Fr Zero w w' ∧ e = .returned (.tuple #[.string (msgS (wMsg 12 v)), .bool (msgB (wMsg 12 v))]) := by
  obtain ⟨o, n, j, hc⟩ := hV.sliced
  obtain ⟨ca, cn, cb, csv⟩ := c
  simp only at hc
  subst hc
  have HS := hide (wvalue_all 12 t hW)
  have HV := hide hV
  have HVal := hide hVal
  have HL := hide hl
  clear hV hW hVal hl
  simp only [VC.val]
  go_enter Tryz.func33, Tryz.ntmps33
  go_wp2_with fail
  have HB : Hid (WB ((w.alloc (.cells #[.pointer (some ca), .int .i64 cn, .string (ba cb), .slice o n j] 96)).alloc (.cells Tryz.zeroCells167 167)) (w.heap.size + 1) []) := by
    have := WB.start (w.alloc (.cells #[.pointer (some ca), .int .i64 cn, .string (ba cb), .slice o n j] 96))
    show WB _ _ _
    simpa using this
  have HVR : Hid (VR ((w.alloc (.cells #[.pointer (some ca), .int .i64 cn, .string (ba cb), .slice o n j] 96)).alloc (.cells Tryz.zeroCells167 167)) (One (w.heap.size + 1)) ⟨ca, cn, cb, .slice o n j⟩ v) :=
    ((HV.out.avoid (Y := fun b => w.heap.size ≤ b) (fun b hb hx => by omega)).keep ((Fr.alloc _ _ _).trans (Fr.alloc _ _ _))).avoid (fun b _ hx => by have e' : b = w.heap.size + 1 := hx; omega)
  refine Calls.mono (R := fun e w' => PutPost ((w.alloc (.cells #[.pointer (some ca), .int .i64 cn, .string (ba cb), .slice o n j] 96)).alloc (.cells Tryz.zeroCells167 167)) (w.heap.size + 1) ([] ++ wMsg 12 v) e w') (HS.out _ (w.heap.size + 1) ⟨ca, cn, cb, .slice o n j⟩ v [] HB HVR HVal (by have := HL.out; simpa using this) ⟨_, _, _, rfl⟩) ?_
  rintro e w2 ⟨rfl, hF2, hB2⟩
  have HF2 : Hid (Fr Zero w w2) := ((Fr.alloc Zero _ _).trans (Fr.alloc _ _ _)).past (hF2.mono (fun k _ e => by have e' : k = w.heap.size + 1 := e; omega))
  have HB2 : Hid (WB w2 (w.heap.size + 1) (wMsg 12 v)) := hB2
  clear hF2 hB2
  go_wp2_with fail
  refine (wmessage_any _ (w.heap.size + 1) (wMsg 12 v) HB2).mono ?_
  rintro e w3 ⟨hF3, rfl⟩
  have HF3 := hide (HF2.out.trans hF3)
  clear hF3
  go_wp2_with fail
  go_ret2
  exact ⟨HF3, rfl⟩

end Go.Proofs.YtdcjogpkogidaaaGreatDoor
