/- The reference's reader of texts takes numbers. -/
import Derived.Test.YtnhkalnihjkoeaaGreatDoorEDig
namespace Go.Proofs.YtnhkalnihjkoeaaGreatDoor
open Go.RowKit

/-- What a call that reads leaves. -/
def EPost {α : Type} (mb B db : Nat) (s : ByteArray) (out : Bs) (ext : Nat) (w : World) (l : Bs) (p : Option α × Bs) (f : α → Bs) (e : Ending) (w' : World) : Prop :=
  MFr mb w w' ∧ ∃ (r : Bs) (bad : Bool) (out' : Bs), MS w' B mb db s r bad out' ∧ e = .returned (.tuple #[]) ∧ r = p.2 ∧ r.length ≤ l.length ∧ (bad = false → ∃ a, p.1 = some a ∧ out' = out ++ f a) ∧ (bad = true → (p.1 = none ∨ digStart r) ∧ out'.length ≤ out.length + ext)

def mostS (kind : Nat) : Bs := if kind = 0 then [50, 53, 53] else if kind = 1 then [54, 53, 53, 51, 53] else [52, 50, 57, 52, 57, 54, 55, 50, 57, 53]
theorem plain_of {l : Bs} (h : ∀ b ∈ l, 49 ≤ b.toNat ∧ b.toNat ≤ 57) : Plain l := ⟨fun b hb => by have := h b hb; unfold isDig; omega, fun b r e => by subst e; exact (h b (by simp)).1⟩
theorem mostS_good (kind : Nat) (h : kind ≤ 2) : Plain (mostS kind) ∧ mostS kind ≠ [] ∧ dv (mostS kind) = mostOf kind ∧ (mostS kind).length ≤ 20 := by
  obtain rfl | rfl | rfl : kind = 0 ∨ kind = 1 ∨ kind = 2 := by omega
  · exact ⟨plain_of (by decide), by decide, by simp [mostS, mostOf, dv, dvA, dvL], by decide⟩
  · exact ⟨plain_of (by decide), by decide, by simp [mostS, mostOf, dv, dvA, dvL], by decide⟩
  · exact ⟨plain_of (by decide), by decide, by simp [mostS, mostOf, dv, dvA, dvL], by decide⟩

set_option maxHeartbeats 8000000 in
set_option maxRecDepth 100000 in
theorem mPlain_any {w : World} {B mb db : Nat} {s : ByteArray} {l : Bs} {out : Bs} (h : MS w B mb db s l false out) (hs : s.size ≤ maxLen) (hB : B ≤ w.heap.size) (kind : Nat) (hk : kind ≤ 2) (hl : out.length ≤ 900000000) :
    Calls Tryz.prog 170 #[.pointer (some ⟨mb, 0, none⟩), .int .i64 kind] w fun e w' => EPost mb B db s out 8 w l (rUns (mostOf kind) l) (fun n => leBytes (widthOf kind) n) e w' := by
  have HM := hide h
  have hlt := h.lt
  obtain ⟨g1, g2, g3, g4⟩ := mostS_good kind hk
  have HG1 := hide g1
  have HG2 := hide g2
  have HG3 := hide g3
  have HG4 := hide g4
  have hkI : (kind : Int) < 3 := by omega
  have HWd : Hid (2 ^ kind = widthOf kind ∧ widthOf kind ≤ 4 ∧ mostOf kind < 256 ^ widthOf kind ∧ 9 ≤ mostOf kind ∧ mostOf kind ≤ 4294967295) := by
    obtain rfl | rfl | rfl : kind = 0 ∨ kind = 1 ∨ kind = 2 := by omega
    all_goals exact ⟨rfl, by decide, by decide, by decide, by decide⟩
  have hcell : ((w.alloc (.cells #[.string ⟨#[50, 53, 53]⟩, .string ⟨#[54, 53, 53, 51, 53]⟩, .string ⟨#[52, 50, 57, 52, 57, 54, 55, 50, 57, 53]⟩] 9)).cell? ⟨w.heap.size, kind, none⟩) = some (.string (ba (mostS kind))) := by
    rw [cell_of_heap (heap_new_at rfl _)]
    obtain rfl | rfl | rfl : kind = 0 ∨ kind = 1 ∨ kind = 2 := by omega
    all_goals rfl
  have HF0 : Hid (Fr Zero w (w.alloc (.cells #[.string ⟨#[50, 53, 53]⟩, .string ⟨#[54, 53, 53, 51, 53]⟩, .string ⟨#[52, 50, 57, 52, 57, 54, 55, 50, 57, 53]⟩] 9))) := Fr.alloc _ _ _
  clear h g1 g2 g3 g4
  go_enter Tryz.func170, Tryz.ntmps170
  go_wp2_with fail
  refine (mNumber_any (HM.out.quiet HF0.out) hs (mostS kind) (mostOf kind) HWd.out.2.2.2.1 HG1.out HG2.out HG3.out HG4.out).mono ?_
  rintro e w1 ⟨hF1, sd, r, bad, hM1, rfl, hdg, hdv, hsl, hr, hrl, hgd, hbd⟩
  have HF1 := hide ((MFr.quiet HF0.out hlt).trans hF1)
  have HM1 := hide hM1
  have HR := hide hr
  have HGD := hide hgd
  have HBD := hide hbd
  have HDG := hide hdg
  have HDV := hide hdv
  have hB1 : B ≤ w1.heap.size := Nat.le_trans hB HF1.out.fr.size
  clear hF1 hM1 hr hgd hbd hdg hcell
  go_wp2_with fail
  refine (worth_any sd _ HDG.out (by have := HWd.out.2.2.2.2; omega) (by omega)).mono ?_
  rintro e w2 ⟨rfl, e2⟩
  obtain rfl := e2.symm
  obtain ⟨N, hN⟩ : ∃ N, dv sd = N := ⟨_, rfl⟩
  rw [hN] at HGD HDV ⊢
  have hN4 : N ≤ 4294967295 := Nat.le_trans HDV.out HWd.out.2.2.2.2
  clear hN hdv
  go_wp2_with fail
  go_loopw [7, 8] (fun sv iv wr => ∃ i : Nat, i ≤ kind ∧ sv = .int .i64 ((2 ^ i : Nat) : Int) ∧ iv = .int .i64 i ∧ Hid (wr = w1)) (fun _ iv _ => kind - (intOf iv).toNat)
  case atStart => exact ⟨0, by omega, rfl, rfl, rfl⟩
  case round =>
    obtain ⟨j, hjk, rfl, rfl, hwr⟩ := hrel
    obtain rfl := hwr.out.symm
    clear hwr
    by_cases hlt' : j < kind
    · have hI : (j : Int) < (kind : Int) := by omega
      have h2 : 2 ^ j ≤ 2 ^ 2 := Nat.pow_le_pow_right (by omega) (by omega)
      have HP : Hid (2 ^ (j + 1) = 2 ^ j * 2) := Nat.pow_succ _ _
      obtain ⟨q, hq⟩ : ∃ q, 2 ^ j = q := ⟨_, rfl⟩
      rw [hq] at h2 HP ⊢
      clear hq
      go_wp2_with fail
      go_roundw
      case rel => exact ⟨j + 1, by omega, by rw [HP.out]; go_num, by go_num, (trivial : True)⟩
      case measure => simp [intOf]; omega
    · have hj : j = kind := by omega
      subst hj
      have hI : ¬ (j : Int) < (j : Int) := by omega
      rw [HWd.out.1]
      obtain ⟨c, hc⟩ : ∃ c, widthOf j = c := ⟨_, rfl⟩
      have hc4 : c ≤ 4 := by rw [← hc]; exact HWd.out.2.1
      rw [hc]
      have HC := hide hc
      clear hc hlt'
      go_wp2_with fail
      go_loopw [6, 9] (fun nv iv wr => ∃ i : Nat, i ≤ c ∧ nv = .int .u64 (N / 256 ^ i : Nat) ∧ iv = .int .i64 i ∧ Hid (MS wr B mb db s r bad (out ++ leBytes i N)) ∧ Hid (MFr mb w wr)) (fun _ iv _ => c - (intOf iv).toNat)
      case atStart => exact ⟨0, by omega, by simp, rfl, by simpa [leBytes] using HM1, HF1⟩
      case round =>
        obtain ⟨i, hic, rfl, rfl, HMr, HFr⟩ := hrel
        by_cases hlt2 : i < c
        · have hI2 : (i : Int) < (c : Int) := by omega
          have hq4 : N / 256 ^ i ≤ 4294967295 := Nat.le_trans (Nat.div_le_self _ _) hN4
          have HD : Hid (N / 256 ^ (i + 1) = N / 256 ^ i / 256) := by show _ = _; rw [Nat.pow_succ, Nat.div_div_eq_div_mul]
          have HS := hide (leBytes_snoc i N)
          obtain ⟨q, hq⟩ : ∃ q, N / 256 ^ i = q := ⟨_, rfl⟩
          rw [hq] at hq4 HD HS ⊢
          clear hq
          have hll := leBytes_length i N
          have hbq : ((q : Int) % 256) = (((UInt8.ofNat q).toNat : Nat) : Int) := by simp
          have hBr : B ≤ wr.heap.size := Nat.le_trans hB HFr.out.fr.size
          have HBQ := hide hbq
          clear hbq
          go_wp2_with fail
          refine (mPut_any HMr.out hBr _ (UInt8.ofNat q) HBQ.out (by simp; omega)).mono ?_
          rintro e w3 ⟨hF3, hM3, rfl⟩
          have HF3 := hide (HFr.out.trans hF3)
          have HM3 := hide hM3
          clear hF3 hM3
          go_wp2_with fail
          go_roundw
          case rel => exact ⟨i + 1, by omega, by rw [HD.out]; go_num, by go_num, by rw [HS.out]; exact hide (by simpa using HM3.out), HF3⟩
          case measure => simp [intOf]; omega
        · have hi : i = c := by omega
          subst hi
          have hI2 : ¬ (i : Int) < (i : Int) := by omega
          have hll := leBytes_length i N
          go_wp2_with fail
          go_end0
          refine ⟨HFr, r, bad, out ++ leBytes i N, HMr, rfl, HR.out, hrl, fun h => ⟨N, HGD.out h, by rw [HC.out]⟩, fun h => ⟨HBD.out h, by simp; omega⟩⟩

end Go.Proofs.YtnhkalnihjkoeaaGreatDoor
