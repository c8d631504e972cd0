/- View, Release. -/
import Derived.Test.YtnhkalnihjkoeaaGreatDoorRgQTk
namespace Go.Proofs.YtnhkalnihjkoeaaGreatDoor.Q
open Go.RowKit

/-- All frames' bytes lie in the row. -/
def Kept (R : PR) : Prop := ∀ (i : Nat) (f : PF), R.fs[i]? = some f → Stored R.row f.at_ f.data ∧ f.data.length ≤ 1000

def viewP (R : PR) (n from_ to_ : Int) : Bs × Nat := match heldI R n with
  | none => ([], 13)
  | some i => match R.fs[i]? with
    | none => ([], 13)
    | some f => if from_ < 0 ∨ to_ < from_ ∨ (f.data.length : Int) < to_ then ([], 8) else ((f.data.drop from_.toNat).take (to_ - from_).toNat, 0)

theorem heldI_at {R : PR} {n : Int} {i : Nat} (h : heldI R n = some i) : ∃ f, R.fs[i]? = some f ∧ f.st = 1 := by
  unfold heldI at h
  split at h
  · simp at h
  · split at h
    · rename_i f hf
      split at h
      · rename_i hs
        have h' := Option.some.inj h
        rw [h'] at hf
        exact ⟨f, hf, hs⟩
      · simp at h
    · simp at h

theorem conv_part {w : World} {rb yb : Nat} {R : PR} {fv : Value} (h : RM w rb yb R fv) {at_ : Nat} {d : Bs} (hst : Stored R.row at_ d) (a n c : Nat) (han : a + n ≤ d.length) :
    (convert 32 9 (.slice (some ⟨yb, at_ * 8 + 2 + a, none⟩) n c)).run Tryz.prog w = .ok (.string (ba ((d.drop a).take n))) w := by
  have hl : ((d.drop a).take n).length = n := by rw [List.length_take, List.length_drop]; omega
  have := run_convert_bytes_back (P := Tryz.prog) w 32 9 5 ⟨yb, at_ * 8 + 2 + a, none⟩ c ((d.drop a).take n) Tryz.underlying32 Tryz.underlying5 Tryz.underlying9 (fun j hj => by
    have e : (⟨yb, at_ * 8 + 2 + a, none⟩ : Addr).add j = ⟨yb, at_ * 8 + 2 + a + j, none⟩ := by simp [Addr.add]
    rw [e, cell_of_heap h.y]
    obtain ⟨p, s, hrow, hp⟩ := hst
    rw [hl] at hj
    have hj2 : a + j < d.length := by omega
    simp only [Lib.byteCells, List.getElem?_toArray, List.getElem?_map]
    rw [hrow, show at_ * 8 + 2 + a + j = (p ++ hdr d.length).length + (a + j) by simp [hdr]; omega, List.append_assoc, List.getElem?_append_right (Nat.le_add_right _ _), Nat.add_sub_cancel_left, List.getElem?_append_left hj2]
    simp [List.getElem_take, List.getElem_drop, hj2])
  rw [hl] at this
  exact this

/-- All bytes of a frame that is held. -/
def bytesP (R : PR) (n : Int) : Bs × Nat := match heldI R n with
  | none => ([], 13)
  | some i => match R.fs[i]? with
    | none => ([], 13)
    | some f => (f.data, 0)

set_option maxHeartbeats 8000000 in
set_option maxRecDepth 100000 in
theorem frame_any {w : World} {rb yb : Nat} {R : PR} {fv : Value} (h : RM w rb yb R fv) (hK : Kept R) (hl : R.fs.length ≤ 1000000) (h1st : 1 ≤ R.first) (hfl : R.first ≤ 3000000000000) (n : Int) (hn1 : -9223372036854775808 ≤ n) (hn2 : n ≤ 9223372036854775807) :
    Calls Tryz.prog 165 #[.pointer (some ⟨rb, 0, none⟩), .int .i64 n] w fun e w' => e = .returned (.tuple #[.string (ba (bytesP R n).1), .int .i64 (bytesP R n).2]) ∧ Fr Zero w w' := by
  have H := hide h
  have HK := hide hK
  obtain ⟨fa, fc, rfl⟩ := h.f.len
  clear h hK
  go_enter Tryz.func165, Tryz.ntmps165
  go_wp2_with fail
  refine (heldAt_any H.out hl h1st hfl n hn1 hn2).mono ?_
  rintro e w1 ⟨⟨i, rfl, hij⟩, hF1⟩
  have HF1 := hide hF1
  have H1 := hide (H.out.quiet hF1)
  clear hF1
  rcases hq : heldI R n with _ | j
  · have HU : Hid (bytesP R n = ([], 13)) := by show _ = _; unfold bytesP; rw [hq]
    simp only [Option.isSome_none]
    clear hq hij
    go_wp2_with fail
    go_ret2
    rw [HU.out]
    exact ⟨rfl, HF1⟩
  · obtain ⟨f, hf, hst⟩ := heldI_at hq
    have hi : i = j := hij j hq
    subst hi
    have HU : Hid (bytesP R n = (f.data, 0)) := by show _ = _; unfold bytesP; rw [hq]; simp only [hf]
    have k1 := H1.out.at1
    obtain ⟨fb, off, cap, e1, c1, c2, c3, c4⟩ := H1.out.f.at_ hf
    obtain ⟨rfl, _, rfl⟩ : fa = some ⟨fb, off, none⟩ ∧ True ∧ fc = cap := by simp at e1; exact ⟨e1.1, trivial, e1.2⟩
    obtain ⟨hS, hdl⟩ := HK.out j f hf
    have HS := hide hS
    have hjl : j < R.fs.length := (List.getElem?_eq_some_iff.1 hf).1
    have hI : (j : Int) < (R.fs.length : Int) := by omega
    simp only [Option.isSome_some]
    clear hq hij hf e1 hS hst
    go_wp2_with fail
    refine (bytes_any H1.out f.at_ f.data HS.out hdl).mono ?_
    rintro e w2 ⟨rfl, hF2⟩
    have HF2 := hide (HF1.out.trans hF2)
    have H2 := hide (H1.out.quiet hF2)
    clear hF2 k1 c1 c2 c3 c4
    have hcv := conv_part H2.out HS.out 0 f.data.length (8 * R.g - f.at_ * 8 - 2) (by omega)
    rw [List.drop_zero, List.take_length, Nat.add_zero] at hcv
    go_wp2_with fail
    go_ret2
    rw [HU.out]
    exact ⟨rfl, HF2⟩

theorem ba_cut (d : Bs) (a b : Nat) : (ba d).extract a b = ba ((d.drop a).take (b - a)) := by
  apply bytes_data
  rw [ByteArray.data_extract, Array.toList_extract, List.extract_eq_take_drop, ba_list, ba_list]

set_option maxHeartbeats 8000000 in
set_option maxRecDepth 100000 in
theorem view_any {w : World} {rb yb : Nat} {R : PR} {fv : Value} (h : RM w rb yb R fv) (hK : Kept R) (hl : R.fs.length ≤ 1000000) (h1st : 1 ≤ R.first) (hfl : R.first ≤ 3000000000000) (n from_ to_ : Int) (hn1 : -9223372036854775808 ≤ n) (hn2 : n ≤ 9223372036854775807) (hf1 : -9223372036854775808 ≤ from_) (hf2 : from_ ≤ 9223372036854775807) (ht1 : -9223372036854775808 ≤ to_) (ht2 : to_ ≤ 9223372036854775807) :
    Calls Tryz.prog 160 #[.pointer (some ⟨rb, 0, none⟩), .int .i64 n, .int .i64 from_, .int .i64 to_] w fun e w' => e = .returned (.tuple #[.string (ba (viewP R n from_ to_).1), .int .i64 (viewP R n from_ to_).2]) ∧ Fr Zero w w' := by
  have H := hide h
  have HK := hide hK
  clear h hK
  go_enter Tryz.func160, Tryz.ntmps160
  go_wp2_with fail
  refine (frame_any H.out HK.out hl h1st hfl n hn1 hn2).mono ?_
  rintro e w1 ⟨rfl, hF1⟩
  have HF1 := hide hF1
  clear hF1
  rcases hq : heldI R n with _ | j
  · have HU : Hid (viewP R n from_ to_ = ([], 13)) := by show _ = _; unfold viewP; rw [hq]
    have HB : Hid (bytesP R n = ([], 13)) := by show _ = _; unfold bytesP; rw [hq]
    rw [HB.out]
    clear hq
    go_wp2_with fail
    go_ret2
    rw [HU.out]
    exact ⟨rfl, HF1⟩
  · obtain ⟨f, hf, hst⟩ := heldI_at hq
    have HU : Hid (viewP R n from_ to_ = if from_ < 0 ∨ to_ < from_ ∨ (f.data.length : Int) < to_ then ([], 8) else ((f.data.drop from_.toNat).take (to_ - from_).toNat, 0)) := by show _ = _; unfold viewP; rw [hq]; simp only [hf]
    have HB : Hid (bytesP R n = (f.data, 0)) := by show _ = _; unfold bytesP; rw [hq]; simp only [hf]
    obtain ⟨hS, hdl⟩ := HK.out j f hf
    have hsz := ba_size f.data
    have HX : ∀ a b, Hid ((ba f.data).extract a b = ba ((f.data.drop a).take (b - a))) := fun a b => ba_cut f.data a b
    rw [HB.out]
    clear hq hf hS hst
    simp only
    generalize ba f.data = S at *
    rw [← hsz] at HU hdl
    by_cases b1 : from_ < 0
    · have HV : Hid (viewP R n from_ to_ = ([], 8)) := HU.out.trans (if_pos (.inl b1))
      go_wp2_with fail
      go_ret2
      rw [HV.out]
      exact ⟨rfl, HF1⟩
    · have b1d : decide (from_ < 0) = false := decide_eq_false b1
      by_cases b2 : to_ < from_
      · have HV : Hid (viewP R n from_ to_ = ([], 8)) := HU.out.trans (if_pos (.inr (.inl b2)))
        go_wp2_with fail
        go_ret2
        rw [HV.out]
        exact ⟨rfl, HF1⟩
      · have b2d : decide (to_ < from_) = false := decide_eq_false b2
        by_cases b3 : (S.size : Int) < to_
        · have HV : Hid (viewP R n from_ to_ = ([], 8)) := HU.out.trans (if_pos (.inr (.inr b3)))
          go_wp2_with fail
          go_ret2
          rw [HV.out]
          exact ⟨rfl, HF1⟩
        · have b3d : decide ((S.size : Int) < to_) = false := decide_eq_false b3
          have HV : Hid (viewP R n from_ to_ = ((f.data.drop from_.toNat).take (to_ - from_).toNat, 0)) := HU.out.trans (if_neg (by omega))
          obtain ⟨a, rfl⟩ : ∃ a : Nat, from_ = a := ⟨from_.toNat, by omega⟩
          obtain ⟨b, rfl⟩ : ∃ b : Nat, to_ = b := ⟨to_.toNat, by omega⟩
          have hI1 : (a : Int) ≤ (b : Int) := by omega
          have hI2 : (b : Int) ≤ (S.size : Int) := by omega
          have hn1 : a ≤ b := by omega
          have hn2 : b ≤ S.size := by omega
          rw [show ((b : Int) - (a : Int)).toNat = b - a by omega, Int.toNat_natCast] at HV
          go_wp2_with fail
          go_ret2
          rw [HV.out]
          refine ⟨?_, HF1⟩
          simp only
          rw [← (HX a b).out]
          rfl

end Go.Proofs.YtnhkalnihjkoeaaGreatDoor.Q
