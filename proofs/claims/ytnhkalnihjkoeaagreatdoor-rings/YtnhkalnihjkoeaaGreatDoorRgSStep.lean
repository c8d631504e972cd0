/- A step of the script on one ring: the program answers as the document's ring does. -/
import Derived.Test.YtnhkalnihjkoeaaGreatDoorRgSPair
namespace Go.Proofs.YtnhkalnihjkoeaaGreatDoor.Q
open Go.RowKit

def opV (k a b c g : Int) (s : ByteArray) : Value := .agg #[.int .i64 k, .int .i64 a, .int .i64 b, .int .i64 c, .int .i64 g, .string s]
def opC (k a b c g : Int) (s : ByteArray) : Array Value := #[.int .i64 k, .int .i64 a, .int .i64 b, .int .i64 c, .int .i64 g, .string s]
/-- A step's numbers are such as an int holds. -/
structure OpOk (k a b c g : Int) (s : ByteArray) : Prop where
  k1 : -9223372036854775808 ≤ k
  k2 : k ≤ 9223372036854775807
  a1 : -9223372036854775808 ≤ a
  a2 : a ≤ 9223372036854775807
  b1 : -9223372036854775808 ≤ b
  b2 : b ≤ 9223372036854775807
  c1 : -9223372036854775808 ≤ c
  c2 : c ≤ 9223372036854775807
  g1 : -9223372036854775808 ≤ g
  g2 : g ≤ 9223372036854775807
  s1 : s.size ≤ 140737488355328
theorem takeP_eq (R : PR) : (takeP R).2.2.first + (takeP R).2.2.fs.length = R.first + R.fs.length := by
  unfold takeP
  split
  · simp [setSt_len]
  · rfl
def RingPost (w : World) (p : RP) (e : Ending) (w' : World) : Prop := e = .returned (.bool true) ∧ ∃ p', PM w' p' ∧ PFr p p' w w'

set_option maxHeartbeats 8000000 in
set_option maxRecDepth 100000 in
theorem ring_put {w : World} {p : RP} (h : PM w p) (hl : p.Q.fs.length ≤ 2800000000000) (a b c g : Int) (s : ByteArray) (ho : OpOk 2 a b c g s) :
    Calls Tryz.prog 49 #[.pointer (some ⟨p.sb, 0, none⟩), .pointer (some ⟨p.qb, 0, none⟩), opV 2 a b c g s] w fun e w' => RingPost w p e w' := by
  have HB0 : Hid ((w.alloc (.cells (opC 2 a b c g s) 98)).heap[w.heap.size]? = some (.cells (opC 2 a b c g s) 98 (0, 0))) := heap_new_at rfl _
  have HZ : Hid (Fr Zero w (w.alloc (.cells (opC 2 a b c g s) 98))) := Fr.alloc _ _ _
  have HQ := hide (h.quiet HZ.out)
  have hbn := h.bounds hl
  have HO := hide ho
  obtain ⟨_, _, ha1, ha2, hb1, hb2, hc1, hc2, _, _, hs1⟩ := ho
  clear h
  unfold opV
  go_enter Tryz.func49, Tryz.ntmps49
  go_wp2_with fail
  unfold opC at HB0 HZ HQ
  generalize w.alloc (.cells #[.int .i64 2, .int .i64 a, .int .i64 b, .int .i64 c, .int .i64 g, .string s] 98) = w0 at *
  refine (sput_any HQ.out.1.sm HQ.out.1.fit.tidy s (by omega)).mono ?_
  rintro e w1 ⟨rfl, hF1, hM1⟩
  obtain ⟨fq, hq1, hX1⟩ := HQ.out.1.prog hF1
  have HR1 := hide hF1
  have HM1 := hide hM1
  have HQ1 := hide hq1
  have HX1 := hide hX1
  obtain ⟨fv0, hr0⟩ := HQ.out.1.sm.r
  have HB1 := hide (hF1.fr.keep HB0.out (hr0.notX HB0.out (by decide) (by decide) (by decide)))
  clear hF1 hM1 hq1 hX1 hr0
  have c5 : w1.cell? ⟨w.heap.size, 5, none⟩ = some (.string s) := by rw [cell_of_heap HB1.out]; rfl
  go_wp2_with fail
  refine (rput_any HQ1.out HQ.out.1.same HQ.out.1.fit s (by omega) (by omega)).mono ?_
  rintro e w2 ⟨rfl, hF2, Q', fv', hq2, hS2⟩
  have HN := hide (HQ.out.1.ref HR1.out HM1.out HQ1.out HX1.out hF2 hq2 hS2 (HQ.out.1.fit.put _) (putP_num _ _))
  clear hF2 hq2 hS2
  generalize (putP p.R s.data.toList).1 = E at *
  go_wp2_with fail
  refine (numq_any _ _).mono ?_
  rintro e w3 ⟨rfl, e3⟩
  obtain rfl := e3.symm
  go_wp2_with fail
  go_ret
  exact ⟨rfl, _, HN.out.1, HQ.out.2.trans0 HZ.out HN.out.2⟩

set_option maxHeartbeats 8000000 in
set_option maxRecDepth 100000 in
theorem ring_take {w : World} {p : RP} (h : PM w p) (hl : p.Q.fs.length ≤ 2800000000000) (a b c g : Int) (s : ByteArray) (ho : OpOk 3 a b c g s) :
    Calls Tryz.prog 49 #[.pointer (some ⟨p.sb, 0, none⟩), .pointer (some ⟨p.qb, 0, none⟩), opV 3 a b c g s] w fun e w' => RingPost w p e w' := by
  have HB0 : Hid ((w.alloc (.cells (opC 3 a b c g s) 98)).heap[w.heap.size]? = some (.cells (opC 3 a b c g s) 98 (0, 0))) := heap_new_at rfl _
  have HZ : Hid (Fr Zero w (w.alloc (.cells (opC 3 a b c g s) 98))) := Fr.alloc _ _ _
  have HQ := hide (h.quiet HZ.out)
  have hbn := h.bounds hl
  have HO := hide ho
  obtain ⟨_, _, ha1, ha2, hb1, hb2, hc1, hc2, _, _, hs1⟩ := ho
  clear h
  unfold opV
  go_enter Tryz.func49, Tryz.ntmps49
  go_wp2_with fail
  unfold opC at HB0 HZ HQ
  generalize w.alloc (.cells #[.int .i64 3, .int .i64 a, .int .i64 b, .int .i64 c, .int .i64 g, .string s] 98) = w0 at *
  refine (stake_any HQ.out.1.sm (by omega) (by omega)).mono ?_
  rintro e w1 ⟨rfl, hF1, hM1⟩
  obtain ⟨fq, hq1, hX1⟩ := HQ.out.1.prog hF1
  have HR1 := hide hF1
  have HM1 := hide hM1
  have HQ1 := hide hq1
  have HX1 := hide hX1
  obtain ⟨fv0, hr0⟩ := HQ.out.1.sm.r
  have HB1 := hide (hF1.fr.keep HB0.out (hr0.notX HB0.out (by decide) (by decide) (by decide)))
  clear hF1 hM1 hq1 hX1 hr0

  go_wp2_with fail
  refine (rtake_any HQ1.out HQ.out.1.same (by omega)).mono ?_
  rintro e w2 ⟨rfl, hF2, Q', fv', hq2, hS2⟩
  have HN := hide (HQ.out.1.ref HR1.out HM1.out HQ1.out HX1.out hF2 hq2 hS2 (HQ.out.1.fit.take) (takeP_num _))
  clear hF2 hq2 hS2
  generalize (takeP p.R).1 = E at *
  generalize (takeP p.R).2.1 = E2 at *
  go_wp2_with fail
  refine (numq_any _ _).mono ?_
  rintro e w3 ⟨rfl, e3⟩
  obtain rfl := e3.symm
  go_wp2_with fail
  go_ret
  exact ⟨rfl, _, HN.out.1, HQ.out.2.trans0 HZ.out HN.out.2⟩

set_option maxHeartbeats 8000000 in
set_option maxRecDepth 100000 in
theorem ring_take0 {w : World} {p : RP} (h : PM w p) (hl : p.Q.fs.length ≤ 2800000000000) (a b c g : Int) (s : ByteArray) (ho : OpOk 3 a b c g s) :
    Calls Tryz.prog 49 #[.pointer (some ⟨p.sb, 0, none⟩), .pointer (some ⟨p.qb, 0, none⟩), opV 3 a b c g s] w fun e w' => e = .returned (.bool true) ∧ ∃ p', PM w' p' ∧ PFr p p' w w' ∧ p'.Q.fs.length ≤ p.Q.fs.length := by
  have HB0 : Hid ((w.alloc (.cells (opC 3 a b c g s) 98)).heap[w.heap.size]? = some (.cells (opC 3 a b c g s) 98 (0, 0))) := heap_new_at rfl _
  have HZ : Hid (Fr Zero w (w.alloc (.cells (opC 3 a b c g s) 98))) := Fr.alloc _ _ _
  have HQ := hide (h.quiet HZ.out)
  have hbn := h.bounds hl
  have HO := hide ho
  obtain ⟨_, _, ha1, ha2, hb1, hb2, hc1, hc2, _, _, hs1⟩ := ho
  clear h
  unfold opV
  go_enter Tryz.func49, Tryz.ntmps49
  go_wp2_with fail
  unfold opC at HB0 HZ HQ
  generalize w.alloc (.cells #[.int .i64 3, .int .i64 a, .int .i64 b, .int .i64 c, .int .i64 g, .string s] 98) = w0 at *
  refine (stake_any HQ.out.1.sm (by omega) (by omega)).mono ?_
  rintro e w1 ⟨rfl, hF1, hM1⟩
  obtain ⟨fq, hq1, hX1⟩ := HQ.out.1.prog hF1
  have HR1 := hide hF1
  have HM1 := hide hM1
  have HQ1 := hide hq1
  have HX1 := hide hX1
  obtain ⟨fv0, hr0⟩ := HQ.out.1.sm.r
  have HB1 := hide (hF1.fr.keep HB0.out (hr0.notX HB0.out (by decide) (by decide) (by decide)))
  clear hF1 hM1 hq1 hX1 hr0

  go_wp2_with fail
  refine (rtake_any HQ1.out HQ.out.1.same (by omega)).mono ?_
  rintro e w2 ⟨rfl, hF2, Q', fv', hq2, hS2⟩
  have HN := hide (HQ.out.1.ref HR1.out HM1.out HQ1.out HX1.out hF2 hq2 hS2 (HQ.out.1.fit.take) (takeP_num _))
  have HLE : Hid (Q'.fs.length ≤ p.Q.fs.length) := by
    have e1 := hS2.len
    have e2 := HQ.out.1.same.len
    have e3 := takeP_eq p.R
    show _ ≤ _
    omega
  clear hF2 hq2 hS2
  generalize (takeP p.R).1 = E at *
  generalize (takeP p.R).2.1 = E2 at *
  go_wp2_with fail
  refine (numq_any _ _).mono ?_
  rintro e w3 ⟨rfl, e3⟩
  obtain rfl := e3.symm
  go_wp2_with fail
  go_ret
  exact ⟨rfl, _, HN.out.1, HQ.out.2.trans0 HZ.out HN.out.2, HLE.out⟩

set_option maxHeartbeats 8000000 in
set_option maxRecDepth 100000 in
theorem ring_release {w : World} {p : RP} (h : PM w p) (hl : p.Q.fs.length ≤ 2800000000000) (a b c g : Int) (s : ByteArray) (ho : OpOk 5 a b c g s) :
    Calls Tryz.prog 49 #[.pointer (some ⟨p.sb, 0, none⟩), .pointer (some ⟨p.qb, 0, none⟩), opV 5 a b c g s] w fun e w' => RingPost w p e w' := by
  have HB0 : Hid ((w.alloc (.cells (opC 5 a b c g s) 98)).heap[w.heap.size]? = some (.cells (opC 5 a b c g s) 98 (0, 0))) := heap_new_at rfl _
  have HZ : Hid (Fr Zero w (w.alloc (.cells (opC 5 a b c g s) 98))) := Fr.alloc _ _ _
  have HQ := hide (h.quiet HZ.out)
  have hbn := h.bounds hl
  have HO := hide ho
  obtain ⟨_, _, ha1, ha2, hb1, hb2, hc1, hc2, _, _, hs1⟩ := ho
  clear h
  unfold opV
  go_enter Tryz.func49, Tryz.ntmps49
  go_wp2_with fail
  unfold opC at HB0 HZ HQ
  generalize w.alloc (.cells #[.int .i64 5, .int .i64 a, .int .i64 b, .int .i64 c, .int .i64 g, .string s] 98) = w0 at *
  refine (srelease_any HQ.out.1.sm (by omega) hbn.2.1 (by omega) a ha1 ha2).mono ?_
  rintro e w1 ⟨rfl, hF1, hM1⟩
  obtain ⟨fq, hq1, hX1⟩ := HQ.out.1.prog hF1
  have HR1 := hide hF1
  have HM1 := hide hM1
  have HQ1 := hide hq1
  have HX1 := hide hX1
  obtain ⟨fv0, hr0⟩ := HQ.out.1.sm.r
  have HB1 := hide (hF1.fr.keep HB0.out (hr0.notX HB0.out (by decide) (by decide) (by decide)))
  clear hF1 hM1 hq1 hX1 hr0
  have c1 : w1.cell? ⟨w.heap.size, 1, none⟩ = some (.int .i64 a) := by rw [cell_of_heap HB1.out]; rfl
  go_wp2_with fail
  refine (rrelease_any HQ1.out HQ.out.1.same (by omega) a ha1 ha2).mono ?_
  rintro e w2 ⟨rfl, hF2, Q', fv', hq2, hS2⟩
  have HN := hide (HQ.out.1.ref HR1.out HM1.out HQ1.out HX1.out hF2 hq2 hS2 (HQ.out.1.fit.release _) (relP_num _ _))
  clear hF2 hq2 hS2
  generalize (relP p.R a).1 = E at *
  go_wp2_with fail
  refine (numq_any _ _).mono ?_
  rintro e w3 ⟨rfl, e3⟩
  obtain rfl := e3.symm
  go_wp2_with fail
  go_ret
  exact ⟨rfl, _, HN.out.1, HQ.out.2.trans0 HZ.out HN.out.2⟩

set_option maxHeartbeats 8000000 in
set_option maxRecDepth 100000 in
theorem ring_shut {w : World} {p : RP} (h : PM w p) (hl : p.Q.fs.length ≤ 2800000000000) (a b c g : Int) (s : ByteArray) (ho : OpOk 6 a b c g s) :
    Calls Tryz.prog 49 #[.pointer (some ⟨p.sb, 0, none⟩), .pointer (some ⟨p.qb, 0, none⟩), opV 6 a b c g s] w fun e w' => RingPost w p e w' := by
  have HB0 : Hid ((w.alloc (.cells (opC 6 a b c g s) 98)).heap[w.heap.size]? = some (.cells (opC 6 a b c g s) 98 (0, 0))) := heap_new_at rfl _
  have HZ : Hid (Fr Zero w (w.alloc (.cells (opC 6 a b c g s) 98))) := Fr.alloc _ _ _
  have HQ := hide (h.quiet HZ.out)
  have hbn := h.bounds hl
  have HO := hide ho
  obtain ⟨_, _, ha1, ha2, hb1, hb2, hc1, hc2, _, _, hs1⟩ := ho
  clear h
  unfold opV
  go_enter Tryz.func49, Tryz.ntmps49
  go_wp2_with fail
  unfold opC at HB0 HZ HQ
  generalize w.alloc (.cells #[.int .i64 6, .int .i64 a, .int .i64 b, .int .i64 c, .int .i64 g, .string s] 98) = w0 at *
  refine (sshut_any HQ.out.1.sm).mono ?_
  rintro e w1 ⟨rfl, hF1, hM1⟩
  obtain ⟨fq, hq1, hX1⟩ := HQ.out.1.prog hF1
  have HR1 := hide hF1
  have HM1 := hide hM1
  have HQ1 := hide hq1
  have HX1 := hide hX1
  obtain ⟨fv0, hr0⟩ := HQ.out.1.sm.r
  have HB1 := hide (hF1.fr.keep HB0.out (hr0.notX HB0.out (by decide) (by decide) (by decide)))
  clear hF1 hM1 hq1 hX1 hr0

  go_wp2_with fail
  refine (rclose_any HQ1.out HQ.out.1.same).mono ?_
  rintro e w2 ⟨rfl, hF2, Q', fv', hq2, hS2⟩
  have HN := hide (HQ.out.1.ref HR1.out HM1.out HQ1.out HX1.out hF2 hq2 hS2 (HQ.out.1.fit.shut) (shutP_num _))
  clear hF2 hq2 hS2
  generalize (shutP p.R).1 = E at *
  go_wp2_with fail
  refine (numq_any _ _).mono ?_
  rintro e w3 ⟨rfl, e3⟩
  obtain rfl := e3.symm
  go_wp2_with fail
  go_ret
  exact ⟨rfl, _, HN.out.1, HQ.out.2.trans0 HZ.out HN.out.2⟩

set_option maxHeartbeats 8000000 in
set_option maxRecDepth 100000 in
theorem ring_view {w : World} {p : RP} (h : PM w p) (hl : p.Q.fs.length ≤ 2800000000000) (a b c g : Int) (s : ByteArray) (ho : OpOk 4 a b c g s) :
    Calls Tryz.prog 49 #[.pointer (some ⟨p.sb, 0, none⟩), .pointer (some ⟨p.qb, 0, none⟩), opV 4 a b c g s] w fun e w' => e = .returned (.bool true) ∧ Fr Zero w w' := by
  have HB0 : Hid ((w.alloc (.cells (opC 4 a b c g s) 98)).heap[w.heap.size]? = some (.cells (opC 4 a b c g s) 98 (0, 0))) := heap_new_at rfl _
  have HZ : Hid (Fr Zero w (w.alloc (.cells (opC 4 a b c g s) 98))) := Fr.alloc _ _ _
  have HQ := hide (h.quiet HZ.out)
  have hbn := h.bounds hl
  obtain ⟨_, _, ha1, ha2, hb1, hb2, hc1, hc2, _, _, hs1⟩ := ho
  clear h
  unfold opV
  go_enter Tryz.func49, Tryz.ntmps49
  go_wp2_with fail
  unfold opC at HB0 HZ HQ
  generalize w.alloc (.cells #[.int .i64 4, .int .i64 a, .int .i64 b, .int .i64 c, .int .i64 g, .string s] 98) = w0 at *
  refine (sview_any HQ.out.1.sm HQ.out.1.fit.kept (by omega) hbn.2.1 (by omega) a b c ha1 ha2 hb1 hb2 hc1 hc2).mono ?_
  rintro e w1 ⟨rfl, hF1⟩
  have HZ1 := hide (HZ.out.trans hF1)
  have HQ1 := hide (HQ.out.1.quiet hF1)
  have HB1 := hide (hF1.keep HB0.out (fun h => h))
  obtain ⟨fq, hq1⟩ := HQ1.out.1.rq
  have c1 : w1.cell? ⟨w.heap.size, 1, none⟩ = some (.int .i64 a) := by rw [cell_of_heap HB1.out]; rfl
  have c2 : w1.cell? ⟨w.heap.size, 2, none⟩ = some (.int .i64 b) := by rw [cell_of_heap HB1.out]; rfl
  have c3 : w1.cell? ⟨w.heap.size, 3, none⟩ = some (.int .i64 c) := by rw [cell_of_heap HB1.out]; rfl
  clear hF1
  have HQ2 := hide hq1
  clear hq1
  go_wp2_with fail
  refine (rview_any HQ2.out HQ1.out.1.same HQ1.out.1.fit.kept (by omega) a b c ha1 ha2 hb1 hb2 hc1 hc2).mono ?_
  rintro e w2 ⟨rfl, e2⟩
  obtain rfl := e2.symm
  generalize ba (viewP p.R a b c).1 = V at *
  generalize (viewP p.R a b c).2 = E at *
  have hVV : (V.toList == V.toList) = true := by simp
  go_wp2_with fail
  refine (numq_any _ _).mono ?_
  rintro e w3 ⟨rfl, e3⟩
  obtain rfl := e3.symm
  go_wp2_with fail
  go_ret
  exact ⟨by simp, HZ1.out⟩

set_option maxHeartbeats 8000000 in
set_option maxRecDepth 100000 in
theorem ring_room {w : World} {p : RP} (h : PM w p) (hl : p.Q.fs.length ≤ 2800000000000) (a b c g : Int) (s : ByteArray) :
    Calls Tryz.prog 49 #[.pointer (some ⟨p.sb, 0, none⟩), .pointer (some ⟨p.qb, 0, none⟩), opV 7 a b c g s] w fun e w' => e = .returned (.bool true) ∧ Fr Zero w w' := by
  have HZ : Hid (Fr Zero w (w.alloc (.cells (opC 7 a b c g s) 98))) := Fr.alloc _ _ _
  have HQ := hide (h.quiet HZ.out)
  have hbn := h.bounds hl
  clear h
  unfold opV
  go_enter Tryz.func49, Tryz.ntmps49
  go_wp2_with fail
  unfold opC at HZ HQ
  generalize w.alloc (.cells #[.int .i64 7, .int .i64 a, .int .i64 b, .int .i64 c, .int .i64 g, .string s] 98) = w0 at *
  refine (sroom_any HQ.out.1.sm (by omega) (by omega)).mono ?_
  rintro e w1 ⟨rfl, hF1⟩
  have HZ1 := hide (HZ.out.trans (hF1.trans (Fr.alloc Zero w1 (.cells #[.int .i64 (taken p.R.fs), .int .i64 (countOf 0 p.R.fs), .int .i64 (countOf 1 p.R.fs), .bool p.R.shut] 187))))
  have HQ1 := hide (HQ.out.1.quiet (hF1.trans (Fr.alloc Zero w1 (.cells #[.int .i64 (taken p.R.fs), .int .i64 (countOf 0 p.R.fs), .int .i64 (countOf 1 p.R.fs), .bool p.R.shut] 187))))
  have HA : Hid ((w1.alloc (.cells #[.int .i64 (taken p.R.fs), .int .i64 (countOf 0 p.R.fs), .int .i64 (countOf 1 p.R.fs), .bool p.R.shut] 187)).heap[w1.heap.size]? = some (.cells #[.int .i64 (taken p.R.fs), .int .i64 (countOf 0 p.R.fs), .int .i64 (countOf 1 p.R.fs), .bool p.R.shut] 187 (0, 0))) := heap_new_at rfl _
  obtain ⟨fq, hq1⟩ := HQ1.out.1.rq
  have HQ2 := hide hq1
  clear hF1 hq1
  unfold roomV
  go_wp2_with fail
  generalize w1.alloc (.cells #[.int .i64 (taken p.R.fs), .int .i64 (countOf 0 p.R.fs), .int .i64 (countOf 1 p.R.fs), .bool p.R.shut] 187) = w2 at *
  refine (rroom_any HQ2.out HQ1.out.1.same HQ1.out.1.fit (by omega)).mono ?_
  rintro e w3 ⟨rfl, hF3⟩
  have HZ3 := hide (HZ1.out.trans hF3)
  have HA3 := hide (hF3.keep HA.out (fun h => h))
  have hl3 := lt_of_heap HA3.out
  have d0 : w3.cell? ⟨w1.heap.size, 0, none⟩ = some (.int .i64 (taken p.R.fs)) := by rw [cell_of_heap HA3.out]; rfl
  have d1 : w3.cell? ⟨w1.heap.size, 1, none⟩ = some (.int .i64 (countOf 0 p.R.fs)) := by rw [cell_of_heap HA3.out]; rfl
  have d2 : w3.cell? ⟨w1.heap.size, 2, none⟩ = some (.int .i64 (countOf 1 p.R.fs)) := by rw [cell_of_heap HA3.out]; rfl
  have d3 : w3.cell? ⟨w1.heap.size, 3, none⟩ = some (.bool p.R.shut) := by rw [cell_of_heap HA3.out]; rfl
  clear hF3
  unfold roomV
  go_wp2_with fail
  refine (sameRoom_any _ _ _ _ _).mono ?_
  rintro e w4 ⟨rfl, hF4⟩
  have HZ4 := hide (HZ3.out.trans ((Fr.alloc _ _ _).trans hF4))
  clear hF4
  go_wp2_with fail
  go_ret
  exact ⟨rfl, HZ4⟩

set_option maxHeartbeats 8000000 in
set_option maxRecDepth 100000 in
theorem ring_other {w : World} {p : RP} (k a b c g : Int) (s : ByteArray) (hk : k ≠ 2 ∧ k ≠ 3 ∧ k ≠ 4 ∧ k ≠ 5 ∧ k ≠ 6 ∧ k ≠ 7) :
    Calls Tryz.prog 49 #[.pointer (some ⟨p.sb, 0, none⟩), .pointer (some ⟨p.qb, 0, none⟩), opV k a b c g s] w fun e w' => e = .returned (.bool true) ∧ Fr Zero w w' := by
  obtain ⟨h2, h3, h4, h5, h6, h7⟩ := hk
  have k2 : (k == 2) = false := beq_eq_false_iff_ne.2 h2
  have k3 : (k == 3) = false := beq_eq_false_iff_ne.2 h3
  have k4 : (k == 4) = false := beq_eq_false_iff_ne.2 h4
  have k5 : (k == 5) = false := beq_eq_false_iff_ne.2 h5
  have k6 : (k == 6) = false := beq_eq_false_iff_ne.2 h6
  have k7 : (k == 7) = false := beq_eq_false_iff_ne.2 h7
  unfold opV
  go_enter Tryz.func49, Tryz.ntmps49
  go_wp2_with fail
  go_ret
  exact ⟨rfl, Fr.alloc _ _ _⟩

theorem ring_any {w : World} {p : RP} (h : PM w p) (hl : p.Q.fs.length ≤ 2800000000000) (k a b c g : Int) (s : ByteArray) (ho : OpOk k a b c g s) :
    Calls Tryz.prog 49 #[.pointer (some ⟨p.sb, 0, none⟩), .pointer (some ⟨p.qb, 0, none⟩), opV k a b c g s] w fun e w' => RingPost w p e w' := by
  have hq : ∀ {e : Ending} {w' : World}, (e = .returned (.bool true) ∧ Fr Zero w w') → RingPost w p e w' := fun hh => by
    have := h.quiet hh.2
    exact ⟨hh.1, p, this.1, this.2⟩
  by_cases h2 : k = 2
  · subst h2; exact ring_put h hl a b c g s ho
  by_cases h3 : k = 3
  · subst h3; exact ring_take h hl a b c g s ho
  by_cases h4 : k = 4
  · subst h4; exact (ring_view h hl a b c g s ho).mono (fun _ _ hh => hq hh)
  by_cases h5 : k = 5
  · subst h5; exact ring_release h hl a b c g s ho
  by_cases h6 : k = 6
  · subst h6; exact ring_shut h hl a b c g s ho
  by_cases h7 : k = 7
  · subst h7; exact (ring_room h hl a b c g s).mono (fun _ _ hh => hq hh)
  exact (ring_other k a b c g s ⟨h2, h3, h4, h5, h6, h7⟩).mono (fun _ _ hh => hq hh)

end Go.Proofs.YtnhkalnihjkoeaaGreatDoor.Q
