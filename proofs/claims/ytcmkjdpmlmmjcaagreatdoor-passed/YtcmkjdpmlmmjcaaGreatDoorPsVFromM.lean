/- What FromMessage tells of bytes. -/
import Derived.Test.YtcmkjdpmlmmjcaaGreatDoorPsVRVal
namespace Go.Proofs.YtcmkjdpmlmmjcaaGreatDoor
open Go.RowKit

set_option maxHeartbeats 8000000 in
set_option maxRecDepth 100000 in
theorem fromMessage_short (w : World) (a : Addr) (t : PT) (s : ByteArray) (ht : TR w Zero a t) (hW : WFT 12 t) (hsz : s.size ≤ 1000) :
    Calls Tryz.prog 48 #[.pointer (some a), .string s] w fun e w' => FromPost w 6 s (rMsg 12 t s.data.toList) e w' := by
  have hs : s.size ≤ maxLen := by unfold maxLen; omega
  have hszI : ¬ (1000 : Int) < (s.size : Int) := by omega
  have HT := hide (rvalue_all (ty := 142) hs 12 t hW)
  have HTR := hide ht
  clear ht hW
  go_enter Tryz.func48, Tryz.ntmps48
  go_wp2_with fail
  refine (newReader_any s _).mono ?_
  rintro e w1 ⟨rfl, hF1⟩
  have HF1 : Hid (Fr Zero w w1) := (Fr.alloc _ _ _).trans hF1
  have hz1 : w1.heap[w.heap.size]? = some (.cells #[.pointer none, .int .i64 0, .string ⟨#[]⟩, .slice none 0 0] 75 (0, 0)) := hF1.keep (heap_new_at rfl _) (fun h => h)
  have hnl := lt_of_heap hz1
  have HZ1 := hide hz1
  clear hF1 hz1
  go_wp2_with fail
  have HTR1 : Hid (TR (w1.alloc (.cells #[.int .i64 0, .string s] 142)) (fun b => b = w.heap.size ∨ b = w1.heap.size) a t) := by
    have h1 : TR w (fun b => w.heap.size ≤ b) a t := HTR.out.avoid (fun b hb hx => by omega)
    have h2 : TR w1 (fun b => w.heap.size ≤ b) a t := h1.keep HF1.out.of0
    exact (h2.keep (Fr.alloc _ _ _)).avoid (fun b _ hx => by rcases hx with hx | hx <;> omega)
  refine (HT.out _ (fun b => b = w.heap.size ∨ b = w1.heap.size) w1.heap.size a s.data.toList (RB.start _ w1 s) (.inr rfl) (fun b hb => by simp; omega) HTR1).mono ?_
  rcases hq : rMsg 12 t s.data.toList with ⟨q, r⟩
  have HQ := hide hq
  clear hq
  rintro e w2 ⟨hF2, hR2, ⟨ca, cn, cb, csv⟩, ⟨o, n, k, hsv⟩, rfl, hv⟩
  simp only at hsv
  subst hsv
  have hne : w.heap.size ≠ w1.heap.size := by omega
  have hz2 : w2.heap[w.heap.size]? = some (.cells #[.pointer none, .int .i64 0, .string ⟨#[]⟩, .slice none 0 0] 75 (0, 0)) := hF2.keep (by rw [Below.heap_alloc _ _ _ hnl]; exact HZ1) (fun e => hne e)
  have HZ2 := hide hz2
  have hn2 := lt_of_heap hz2
  have HF2 : Hid (Fr Zero w w2) := (HF1.out.trans (Fr.alloc _ _ _)).past (hF2.mono (fun k _ e => by have e' : k = w1.heap.size := e; omega))
  have HR2 := hide hR2
  have HV := hide hv
  clear hF2 hR2 hv hz2
  have HA : Hid (Fr Zero w2 (w2.alloc (.cells #[.pointer (some ca), .int .i64 cn, .string (ba cb), .slice o n k] 75))) := Fr.alloc _ _ _
  have HR3 := hide (HR2.out.keep HA (fun h => h))
  have hz3 : (w2.alloc (.cells #[.pointer (some ca), .int .i64 cn, .string (ba cb), .slice o n k] 75)).heap[w.heap.size]? = _ := HA.out.keep HZ2 (fun h => h)
  have HZ3 := hide hz3
  simp only [VC.val]
  rcases q with _ | v
  · clear hz3
    go_wp2_with fail
    have HFW := hide (HF2.out.trans HA.out)
    clear HA HV HZ2 HR2 HF2
    generalize w2.alloc (.cells #[.pointer (some ca), .int .i64 cn, .string (ba cb), .slice o n k] 75) = W at *
    obtain ⟨z0, z1, z2, z3, y0, y1, y2, y3⟩ := blk4 HZ3.out
    refine (vAt HR3).mono ?_
    rintro e w4 ⟨rfl, e4⟩
    obtain rfl := e4.symm
    go_wp2_with fail
    obtain ⟨c0, c1, c2, c3⟩ := setZ_cells HZ3.out
    simp only [setZ] at c0 c1 c2 c3
    refine bodyPost_ret (v := .tuple #[.agg #[.pointer none, .int .i64 0, .string ⟨#[]⟩, .slice none 0 0], .int .i64 6, .int .i64 (pos s r)]) (by simp [results, Tryz.results48, go_sem, c0, c1, c2, c3]) rfl ?_
    rw [HQ.out]
    refine ⟨HFW.out.past ((Fr.setZ _ w.heap.size).mono (fun k _ e => by have e' : k = w.heap.size := e; omega)), .inr ⟨(fun h => by obtain ⟨v, h⟩ := h; cases h), rfl⟩⟩
  · have HVv := hide (HV.out v rfl)
    clear hz3 HV
    go_wp2_with fail
    refine (vEnded HR3 hs).mono ?_
    rintro e w4 ⟨rfl, hR4, hF4⟩
    have hne1 : ¬ One w1.heap.size w.heap.size := fun e => hne e
    have hz4 := hF4.keep HZ3.out hne1
    obtain ⟨z0, z1, z2, z3, y0, y1, y2, y3⟩ := blk4 hz4
    have HZ4 := hide hz4
    have hv4 : w4.heap[w2.heap.size]? = some (.cells #[.pointer (some ca), .int .i64 cn, .string (ba cb), .slice o n k] 75 (0, 0)) := hF4.keep (heap_new_at rfl _) (fun e => by have e' : w2.heap.size = w1.heap.size := e; have := HR2.out.lt; omega)
    obtain ⟨v0, v1, v2, v3, x0, x1, x2, x3⟩ := blk4 hv4
    have HF4 : Hid (Fr Zero w w4) := (HF2.out.trans (Fr.alloc _ _ _)).past (hF4.mono (fun k _ e => by have e' : k = w1.heap.size := e; omega))
    have HR4 := hide hR4
    have HV4 := hide ((HVv.out.keep HA.out.of0).keep (hF4.mono (fun k _ e => .inr e)))
    clear hF4 hR4 hz4 hv4
    rcases r with _ | ⟨b, r⟩
    · go_wp2_with fail
      have hW : Fr (One (w.heap.size + 1)) w4 w4 := Fr.refl _ _
      obtain ⟨c0, c1, c2, c3⟩ := value_cells HZ4.out hW (⟨ca, cn, cb, .slice o n k⟩ : VC)
      simp only [set4] at c0 c1 c2 c3
      refine bodyPost_ret (v := .tuple #[VC.val (⟨ca, cn, cb, .slice o n k⟩ : VC), .int .i64 0, .int .i64 0]) (by simp [results, Tryz.results48, go_sem, c0, c1, c2, c3, VC.val]) rfl ?_
      rw [HQ.out]
      refine ⟨HF4.out.past ((Fr.set4 w4 w.heap.size ⟨ca, cn, cb, .slice o n k⟩).mono (fun k _ e => by have e' : k = w.heap.size := e; omega)), .inl ⟨v, ⟨ca, cn, cb, .slice o n k⟩, rfl, ⟨_, _, _, rfl⟩, rfl, ?_⟩⟩
      exact (HV4.out.keep ((Fr.set4 w4 w.heap.size ⟨ca, cn, cb, .slice o n k⟩).mono (fun k _ e => .inl e))).avoid (fun b _ hb => hb.elim)
    · go_wp2_with fail
      refine (vAt HR4).mono ?_
      rintro e w5 ⟨rfl, e5⟩
      obtain rfl := e5.symm
      go_wp2_with fail
      obtain ⟨c0, c1, c2, c3⟩ := setZ_cells HZ4.out
      simp only [setZ] at c0 c1 c2 c3
      refine bodyPost_ret (v := .tuple #[.agg #[.pointer none, .int .i64 0, .string ⟨#[]⟩, .slice none 0 0], .int .i64 6, .int .i64 (pos s (b :: r))]) (by simp [results, Tryz.results48, go_sem, c0, c1, c2, c3]) rfl ?_
      rw [HQ.out]
      refine ⟨HF4.out.past ((Fr.setZ _ w.heap.size).mono (fun k _ e => by have e' : k = w.heap.size := e; omega)), .inr ⟨fun h => by obtain ⟨v, h⟩ := h; simp at h, rfl⟩⟩

set_option maxHeartbeats 2000000 in
theorem fromMessage_long (w : World) (a : Addr) (s : ByteArray) (hs : s.size ≤ maxLen) (hl : 1000 < s.size) :
    Calls Tryz.prog 48 #[.pointer (some a), .string s] w fun e w' => Fr Zero w w' ∧ e = .returned (.tuple #[.agg #[.pointer none, .int .i64 0, .string ⟨#[]⟩, .slice none 0 0], .int .i64 1, .int .i64 0]) := by
  unfold maxLen at hs
  have hI : (1000 : Int) < (s.size : Int) := by omega
  go_enter Tryz.func48, Tryz.ntmps48
  go_wp2_with fail
  refine bodyPost_ret (v := .tuple #[.agg #[.pointer none, .int .i64 0, .string ⟨#[]⟩, .slice none 0 0], .int .i64 1, .int .i64 0]) (by simp [results, Tryz.results48, go_sem]) rfl ?_
  exact ⟨Fr.alloc _ _ _, rfl⟩

end Go.Proofs.YtcmkjdpmlmmjcaaGreatDoor
