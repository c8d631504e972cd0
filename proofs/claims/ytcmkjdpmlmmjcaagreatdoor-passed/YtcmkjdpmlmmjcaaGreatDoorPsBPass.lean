/- A value, and raw bytes, through an empty bus. -/
import Derived.Test.YtcmkjdpmlmmjcaaGreatDoorPsBPure
namespace Go.Proofs.YtcmkjdpmlmmjcaaGreatDoor.Q
open Go.RowKit

/-- The listed variables are laid, all of them below B. -/
structure Glob (w : World) (B : Nat) : Prop where
  ws : Words w
  er : ErrT w
  pw : PowT w
  wb : 1 < B
  pb : 5 < B
theorem Glob.keep {w w' : World} {B : Nat} (h : Glob w B) (hf : Fr (From B) w w') : Glob w' B :=
  ⟨h.ws.keep hf (fun e => by have e' : B ≤ _ := e; have := h.wb; omega), h.er.keep hf (fun e => by have e' : B ≤ _ := e; have := h.wb; omega), h.pw.keep hf (fun e => by have e' : B ≤ _ := e; have := h.pb; omega), h.wb, h.pb⟩
theorem Glob.quiet {w w' : World} {B : Nat} (h : Glob w B) (hf : Fr Zero w w') : Glob w' B := h.keep hf.of0

/-- A bus that is empty. -/
structure EB (w : World) (B bb rb yb : Nat) (a : Addr) (t : PT) (R : PR) (m : Nat) : Prop where
  bm : BM w B bb rb yb a t R
  emp : Emp R m
  glob : Glob w B

def EPost (w : World) (B bb rb yb : Nat) (a : Addr) (t : PT) (m : Nat) (e : Ending) (w' : World) : Prop :=
  e = .returned (.bool true) ∧ RFr rb yb w w' ∧ ∃ R' m', m' ≤ m + 1 ∧ EB w' B bb rb yb a t R' m'

theorem room_emp {R : PR} {m : Nat} (h : Emp R m) : roomV R = .agg #[.int .i64 0, .int .i64 0, .int .i64 0, .bool false] := by
  unfold roomV
  rw [h.fs, h.shut]
  rfl
theorem Emp.small {R : PR} {m : Nat} (h : Emp R m) : R.fs.length ≤ 1000000 ∧ taken R.fs ≤ 1000000 := by rw [h.fs]; exact ⟨Nat.zero_le _, Nat.zero_le _⟩

theorem decP_small {s : ByteArray} (hc : checkP s = (0, 0)) (data : ByteArray) : (decP s data).2.1 ≤ 10 := by
  unfold decP decR
  rw [if_pos (by rw [hc])]
  split
  · split <;> simp
  · simp

set_option maxHeartbeats 16000000 in
set_option maxRecDepth 100000 in
theorem crosses_any {w : World} {B bb rb yb : Nat} {a : Addr} {R : PR} {m : Nat} (s data : ByteArray) (hc : checkP s = (0, 0)) (h : EB w B bb rb yb a (typeP s) R m) (h1 : 1 ≤ m) (hm : m ≤ 1000) (hs : s.size ≤ maxLen) (hd : data.size ≤ 140737488355328) :
    Calls Tryz.prog 8 #[.pointer (some ⟨bb, 0, none⟩), .string s, .string data] w fun e w' => EPost w B bb rb yb a (typeP s) m e w' := by
  have HG := hide h.glob
  have HM := hide h.bm
  have HEm := hide h.emp
  have HWF := hide (typeP_good hc)
  have HDT : Hid (decP s data = decT (typeP s) data) := by show _ = _; unfold decP decT; rw [if_pos (by rw [hc])]
  have hdl : data.data.toList.length = data.size := by rw [Array.length_toList]; rfl
  have HDL := hide hdl
  have HLE := hide (decP_small hc data)
  clear h hc hdl
  go_enter Tryz.func8, Tryz.ntmps8
  go_wp2_with fail
  refine (raw_any HM.out HEm.out.tidy data (by omega)).mono ?_
  rintro e w1 ⟨rfl, hR1, hM1⟩
  have HR1 := hide hR1
  have HM1 := hide hM1
  have HG1 := hide (HG.out.keep (HM.out.from hR1))
  clear hR1 hM1
  by_cases hlg : 64 < 2 * ((data.size + 9) / 8)
  · have e1 := put_large HEm.out (d := data.data.toList) (by unfold needs; rw [HDL.out]; exact hlg)
    rw [e1] at HM1 ⊢
    have hlI : (64 : Int) < 2 * (((data.size : Int) + 9) / 8) := by omega
    clear e1
    go_wp2_with fail
    go_ret
    exact ⟨rfl, HR1.out, _, m, by omega, HM1.out, HEm.out, HG1.out⟩
  · have hn2 : 2 * needs data.data.toList.length ≤ 64 := by unfold needs; rw [HDL.out]; omega
    have e1 := put_one HEm.out (d := data.data.toList) hn2
    rw [e1] at HM1 ⊢
    have hlI : ¬ (64 : Int) < 2 * (((data.size : Int) + 9) / 8) := by omega
    obtain ⟨hf0, hf1⟩ := HEm.out.one hn2
    have HF0 := hide hf0
    have HF1 := hide hf1
    have HGn := hide (HEm.out.gone hn2)
    have hd3 : data.size ≤ maxLen := by unfold maxLen; omega
    clear e1 hf0 hf1
    go_wp2_with fail
    refine (decode_any s data _ HG1.out.ws HG1.out.er HG1.out.pw hs hd3).mono ?_
    rintro e w2 ⟨hF2, rfl⟩
    have HR2 := hide (HR1.out.trans (RFr.quiet hF2 HM1.out.lt))
    have HM2 := hide (HM1.out.quiet hF2)
    have HG2 := hide (HG1.out.quiet hF2)
    clear hF2
    have HCo : Hid (conP (typeP s) (oneR R data.data.toList 0) = if (decP s data).2.1 = 0 then (m, (decP s data).1, 0, oneR R data.data.toList 1) else (m, ⟨#[]⟩, 6, goneR R data.data.toList)) := by
      show _ = _
      unfold conP
      rw [take_one HEm.out]
      simp only
      rw [if_pos trivial]
      have e2 : fieldP (typeP s) (oneR R data.data.toList 1) m ⟨#[]⟩ = decP s data := by
        unfold fieldP
        rw [bytes_one HEm.out]
        simp only
        rw [if_pos trivial, ba_data, getT_empty, HDT.out]
      rw [e2, rel_one HEm.out]
    go_wp2_with fail
    refine (consume_any HM2.out HG2.out.pw HG2.out.pb HWF.out HF0.out (by simp [oneR]) (by show R.first ≤ _; rw [HEm.out.first]; omega)).mono ?_
    rintro e w3 ⟨rfl, hR3, hM3⟩
    have HR3 := hide (HR2.out.trans hR3)
    have HG3 := hide (HG2.out.keep (HM2.out.from hR3))
    have HM3 := hide hM3
    clear hR3 hM3
    have hle := HLE.out
    rcases hx : decP s data with ⟨x0, x1, x2⟩
    rw [hx] at HCo hle
    simp only at HCo hle
    clear hx
    by_cases hz : x1 = 0
    · rw [if_pos hz] at HCo
      subst hz
      rw [HCo.out] at HM3 ⊢
      have q0 : (x0.toList == x0.toList) = true := by simp
      go_wp2_with fail
      refine (brelease_any HM3.out (by simp [oneR]) (by show 1 ≤ R.first; rw [HEm.out.first]; omega) (by show R.first ≤ _; rw [HEm.out.first]; omega) m (by omega) (by omega)).mono ?_
      rintro e w4 ⟨rfl, hR4, hM4⟩
      rw [rel_one HEm.out] at hM4 ⊢
      have HR4 := hide (HR3.out.trans hR4)
      have HG4 := hide (HG3.out.keep (HM3.out.from hR4))
      have HM4 := hide hM4
      clear hR4 hM4
      go_wp2_with fail
      go_ret
      exact ⟨rfl, HR4.out, _, m + 1, by omega, HM4.out, HGn.out, HG4.out⟩
    · rw [if_neg hz] at HCo
      rw [HCo.out] at HM3 ⊢
      have hzI : (x1 : Int) ≠ 0 := by omega
      have hzb : ((x1 : Int) == 0) = false := beq_eq_false_iff_ne.2 hzI
      have em := emptyB
      have hm0 : (0 : Int) < (m : Int) := by omega
      clear hz
      go_wp2_with fail
      refine (brelease_any HM3.out (by simp [goneR]) (by show 1 ≤ R.first + 1; omega) (by show R.first + 1 ≤ _; rw [HEm.out.first]; omega) m (by omega) (by omega)).mono ?_
      rintro e w4 ⟨rfl, hR4, hM4⟩
      rw [rel_gone HEm.out] at hM4 ⊢
      have HR4 := hide (HR3.out.trans hR4)
      have HG4 := hide (HG3.out.keep (HM3.out.from hR4))
      have HM4 := hide hM4
      clear hR4 hM4
      go_wp2_with fail
      go_ret
      exact ⟨rfl, HR4.out, _, m + 1, by omega, HM4.out, HGn.out, HG4.out⟩

set_option maxHeartbeats 16000000 in
set_option maxRecDepth 100000 in
theorem passes_any {w : World} {B bb rb yb : Nat} {a : Addr} {R : PR} {m : Nat} (s value : ByteArray) (hc : checkP s = (0, 0)) (h : EB w B bb rb yb a (typeP s) R m) (h1 : 1 ≤ m) (hm : m ≤ 1000) (hs : s.size ≤ maxLen) (hv : value.size ≤ 140737488355328) :
    Calls Tryz.prog 7 #[.pointer (some ⟨bb, 0, none⟩), .string s, .string value] w fun e w' => EPost w B bb rb yb a (typeP s) m e w' := by
  have HG := hide h.glob
  have HM := hide h.bm
  have HEm := hide h.emp
  have HWF := hide (typeP_good hc)
  have HEB := hide (fun h => enc_back (s := s) (value := value) hc h)
  have HDT : Hid (∀ data, decP s data = decT (typeP s) data) := fun data => by unfold decP decT; rw [if_pos (by rw [hc])]
  have HPu : Hid (pubP (typeP s) R value = if (encP s value).2.1 = 0 then ((putP R (encP s value).1.data.toList).1, 0, (putP R (encP s value).1.data.toList).2) else ((encP s value).2.1, (encP s value).2.2, R)) := by
    show _ = _
    have e : encP s value = encR ⟨#[]⟩ value (rText 12 (typeP s) value.data.toList) := by unfold encP; rw [if_pos (by rw [hc])]; rfl
    rw [e]
    rfl
  have hle : (encP s value).2.1 ≤ 5 := by unfold encP; rw [if_pos (by rw [hc])]; exact encR_le _ _ _
  clear h hc
  go_enter Tryz.func7, Tryz.ntmps7
  go_wp2_with fail
  refine (encode_any s value _ HG.out.ws HG.out.er hs hv).mono ?_
  rintro e w1 ⟨hF1, rfl⟩
  have HR1 := hide (RFr.quiet (yb := yb) hF1 HM.out.lt)
  have HM1 := hide (HM.out.quiet hF1)
  have HG1 := hide (HG.out.quiet hF1)
  clear hF1
  go_wp2_with fail
  refine (publish_any HM1.out HWF.out HEm.out.tidy value hv).mono ?_
  rintro e w2 ⟨rfl, hR2, hM2⟩
  have HR2 := hide (HR1.out.trans hR2)
  have HG2 := hide (HG1.out.keep (HM1.out.from hR2))
  have HM2 := hide hM2
  clear hR2 hM2
  rcases hx : encP s value with ⟨x0, x1, x2⟩
  rw [hx] at HPu hle HEB
  simp only at HPu hle HEB
  clear hx
  by_cases hz : x1 = 0
  · rw [if_pos hz] at HPu
    obtain ⟨hdec, hxs⟩ := HEB.out hz
    have HD := hide hdec
    subst hz
    rw [HPu.out] at HM2 ⊢
    have HXL : Hid (x0.data.toList.length = x0.size) := by show _ = _; rw [Array.length_toList]; rfl
    clear hdec HEB
    by_cases hlg : 64 < 2 * ((x0.size + 9) / 8)
    · have e1 := put_large HEm.out (d := x0.data.toList) (by unfold needs; rw [HXL.out]; exact hlg)
      rw [e1] at HM2 ⊢
      have hlI : (64 : Int) < 2 * (((x0.size : Int) + 9) / 8) := by omega
      clear e1
      go_wp2_with fail
      go_ret
      exact ⟨rfl, HR2.out, _, m, by omega, HM2.out, HEm.out, HG2.out⟩
    · have hn2 : 2 * needs x0.data.toList.length ≤ 64 := by unfold needs; rw [HXL.out]; omega
      have e1 := put_one HEm.out (d := x0.data.toList) hn2
      rw [e1] at HM2 ⊢
      have hlI : ¬ (64 : Int) < 2 * (((x0.size : Int) + 9) / 8) := by omega
      obtain ⟨hf0, hf1⟩ := HEm.out.one hn2
      have HF0 := hide hf0
      have HF1 := hide hf1
      have HGn := hide (HEm.out.gone hn2)
      have HFd : Hid (fieldP (typeP s) (oneR R x0.data.toList 1) m ⟨#[]⟩ = (value, 0, 0)) := by
        show _ = _
        unfold fieldP
        rw [bytes_one HEm.out]
        simp only
        rw [if_pos trivial, ba_data, getT_empty, ← HDT.out, HD.out]
      have HFz : Hid (fieldP (typeP s) (oneR R x0.data.toList 1) m ⟨#[90]⟩ = (⟨#[]⟩, 7, 0)) := by
        show _ = _
        have e3 := HFd.out
        unfold fieldP at e3 ⊢
        rw [bytes_one HEm.out] at e3 ⊢
        simp only at e3 ⊢
        rw [if_pos trivial] at e3 ⊢
        exact get_Z HWF.out e3
      have HFg : Hid (fieldP (typeP s) (goneR R x0.data.toList) m ⟨#[]⟩ = (⟨#[]⟩, 13, 0)) := by
        show _ = _
        unfold fieldP
        rw [bytes_gone HEm.out]
        rfl
      have HCo : Hid (conP (typeP s) (oneR R x0.data.toList 0) = (m, value, 0, oneR R x0.data.toList 1)) := by
        show _ = _
        unfold conP
        rw [take_one HEm.out]
        simp only
        rw [if_pos trivial, HFd.out]
        rfl
      have hfi : R.first = m := HEm.out.first
      have HFI := hide hfi
      have q0 : (value.toList == value.toList) = true := by simp
      have k1 : 1 ≤ (oneR R x0.data.toList 1).first := by show 1 ≤ R.first; omega
      have k2 : (oneR R x0.data.toList 1).first ≤ 1000000000000 := by show R.first ≤ _; omega
      have k3 : (oneR R x0.data.toList 1).fs.length ≤ 1000000 := by simp [oneR]
      have k4 : 1 ≤ (goneR R x0.data.toList).first := by show 1 ≤ R.first + 1; omega
      have k5 : (goneR R x0.data.toList).first ≤ 1000000000000 := by show R.first + 1 ≤ _; omega
      have k6 : (goneR R x0.data.toList).fs.length ≤ 1000000 := by simp [goneR]
      have k7 : (oneR R x0.data.toList 0).first ≤ 1000000000 := by show R.first ≤ _; omega
      have k8 : (oneR R x0.data.toList 0).fs.length ≤ 1000000 := by simp [oneR]
      have K := hide (And.intro k1 (And.intro k2 (And.intro k3 (And.intro k4 (And.intro k5 (And.intro k6 (And.intro k7 k8)))))))
      clear e1 hf0 hf1 hfi k1 k2 k3 k4 k5 k6 k7 k8
      go_wp2_with fail
      refine (consume_any HM2.out HG2.out.pw HG2.out.pb HWF.out HF0.out K.out.2.2.2.2.2.2.2 K.out.2.2.2.2.2.2.1).mono ?_
      rintro e w3 ⟨rfl, hR3, hM3⟩
      rw [HCo.out] at hM3 ⊢
      have HR3 := hide (HR2.out.trans hR3)
      have HG3 := hide (HG2.out.keep (HM2.out.from hR3))
      have HM3 := hide hM3
      clear hR3 hM3
      go_wp2_with fail
      refine (field_any HM3.out HG3.out.pw HWF.out HF1.out.kept K.out.2.2.1 K.out.1 K.out.2.1 m (by omega) (by omega) ⟨#[]⟩ (by decide)).mono ?_
      rintro e w4 ⟨hF4, rfl⟩
      rw [HFd.out]
      have HR4 := hide (HR3.out.trans (RFr.quiet hF4 HM3.out.lt))
      have HM4 := hide (HM3.out.quiet hF4)
      have HG4 := hide (HG3.out.quiet hF4)
      clear hF4
      go_wp2_with fail
      refine (field_any HM4.out HG4.out.pw HWF.out HF1.out.kept K.out.2.2.1 K.out.1 K.out.2.1 m (by omega) (by omega) ⟨#[90]⟩ (by decide)).mono ?_
      rintro e w5 ⟨hF5, rfl⟩
      rw [HFz.out]
      have HR5 := hide (HR4.out.trans (RFr.quiet hF5 HM4.out.lt))
      have HM5 := hide (HM4.out.quiet hF5)
      have HG5 := hide (HG4.out.quiet hF5)
      clear hF5
      go_wp2_with fail
      refine (brelease_any HM5.out K.out.2.2.1 K.out.1 K.out.2.1 m (by omega) (by omega)).mono ?_
      rintro e w6 ⟨rfl, hR6, hM6⟩
      rw [rel_one HEm.out] at hM6 ⊢
      have HR6 := hide (HR5.out.trans hR6)
      have HG6 := hide (HG5.out.keep (HM5.out.from hR6))
      have HM6 := hide hM6
      clear hR6 hM6
      go_wp2_with fail
      refine (field_any HM6.out HG6.out.pw HWF.out HGn.out.fit.kept K.out.2.2.2.2.2.1 K.out.2.2.2.1 K.out.2.2.2.2.1 m (by omega) (by omega) ⟨#[]⟩ (by decide)).mono ?_
      rintro e w7 ⟨hF7, rfl⟩
      rw [HFg.out]
      have HR7 := hide (HR6.out.trans (RFr.quiet hF7 HM6.out.lt))
      have HM7 := hide (HM6.out.quiet hF7)
      have HG7 := hide (HG6.out.quiet hF7)
      clear hF7
      go_wp2_with fail
      go_ret
      exact ⟨rfl, HR7.out, _, m + 1, by omega, HM7.out, HGn.out, HG7.out⟩
  · rw [if_neg hz] at HPu
    rw [HPu.out] at HM2 ⊢
    have hzI : (x1 : Int) ≠ 0 := by omega
    have hzb : ((x1 : Int) == 0) = false := beq_eq_false_iff_ne.2 hzI
    have q1 : ((x1 : Int) == (x1 : Int)) = true := by simp
    have q2 : ((x2 : Int) == (x2 : Int)) = true := by simp
    clear hz
    go_wp2_with fail
    refine (broom_any HM2.out HEm.out.small.2 HEm.out.small.1).mono ?_
    rintro e w3 ⟨rfl, hF3⟩
    rw [room_emp HEm.out]
    have HR3 := hide (HR2.out.trans (RFr.quiet hF3 HM2.out.lt))
    have HM3 := hide (HM2.out.quiet hF3)
    have HG3 := hide (HG2.out.quiet hF3)
    clear hF3
    go_wp2_with fail
    go_ret
    exact ⟨rfl, HR3.out.trans (RFr.quiet (Fr.alloc _ _ _) HM3.out.lt), R, m, by omega, HM3.out.quiet (Fr.alloc _ _ _), HEm.out, HG3.out.quiet (Fr.alloc _ _ _)⟩

end Go.Proofs.YtcmkjdpmlmmjcaaGreatDoor.Q
