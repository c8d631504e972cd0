/- A frame's bytes are read of the row. -/
import Derived.Test.YtnhkalnihjkoeaaGreatDoorRgQRow
namespace Go.Proofs.YtnhkalnihjkoeaaGreatDoor.Q
open Go.RowKit

/-- A frame's bytes lie in the row. -/
def Stored (row : Bs) (at_ : Nat) (d : Bs) : Prop := ∃ p s, row = p ++ hdr d.length ++ d ++ s ∧ p.length = 8 * at_

theorem len_or : ∀ n, n ≤ 1000 → bits BinOp.or IntKind.i64 ((n : Nat) % 256 : Int) ((n : Nat) / 256 * 256 : Int) = ((n : Nat) : Int) := by decide +kernel

set_option maxHeartbeats 4000000 in
set_option maxRecDepth 100000 in
theorem bytes_any {w : World} {rb yb : Nat} {R : PR} {fv : Value} (h : RM w rb yb R fv) (at_ : Nat) (d : Bs) (hst : Stored R.row at_ d) (hd : d.length ≤ 1000) :
    Calls Tryz.prog 237 #[.pointer (some ⟨rb, 0, none⟩), .int .i64 at_] w fun e w' => e = .returned (.slice (some ⟨yb, at_ * 8 + 2, none⟩) d.length (8 * R.g - at_ * 8 - 2)) ∧ Fr Zero w w' := by
  obtain ⟨p, s, hrow, hp⟩ := hst
  have hl := h.len
  have hlr := congrArg List.length hrow
  simp only [List.length_append, hdr, List.length_cons, List.length_nil] at hlr
  have h0 := h.at0
  have hg := h.g64
  have c0 : w.cell? ⟨yb, at_ * 8, none⟩ = some (.int .u8 ((UInt8.ofNat d.length).toNat : Nat)) := by
    rw [cell_of_heap h.y]
    simp only [Lib.byteCells, List.getElem?_toArray, List.getElem?_map]
    rw [hrow, show at_ * 8 = p.length by omega]
    simp [hdr]
  have c1 : w.cell? ⟨yb, at_ * 8 + 1, none⟩ = some (.int .u8 ((UInt8.ofNat (d.length / 256)).toNat : Nat)) := by
    rw [cell_of_heap h.y]
    simp only [Lib.byteCells, List.getElem?_toArray, List.getElem?_map]
    rw [hrow, show at_ * 8 + 1 = p.length + 1 by omega]
    simp [hdr]
  have e0 : (UInt8.ofNat d.length).toNat = d.length % 256 := by simp
  have e1 : (UInt8.ofNat (d.length / 256)).toNat = d.length / 256 := by simp; omega
  rw [e0] at c0
  rw [e1] at c1
  have hI1 : ((at_ : Int) * 8) ≤ ((8 * R.g : Nat) : Int) := by omega
  have hI2 : (0 : Int) < ((8 * R.g - at_ * 8 : Nat) : Int) := by omega
  have hI3 : (1 : Int) < ((8 * R.g - at_ * 8 : Nat) : Int) := by omega
  have hI4 : 2 + (d.length : Int) ≤ ((8 * R.g - at_ * 8 : Nat) : Int) := by omega
  have hn4 : 2 + d.length ≤ 8 * R.g - at_ * 8 := by omega
  have hI5 : (2 : Int) ≤ 2 + (d.length : Int) := by omega
  have hn2 : 0 < 8 * R.g - at_ * 8 := by omega
  have hn3 : 1 < 8 * R.g - at_ * 8 := by omega
  have hor : bits BinOp.or IntKind.i64 ((d.length : Int) % 256) ((d.length : Int) / 256 * 256) = (d.length : Int) := len_or d.length hd
  have H := hide h
  clear h hrow hp e0 e1
  go_enter Tryz.func237, Tryz.ntmps237
  go_wp2_with fail
  go_quiet (fail)
  go_wp2_with fail
  go_ret
  refine ⟨?_, Fr.drewN _ _ _⟩
  simp only [Nat.add_sub_cancel_left]
  rfl

end Go.Proofs.YtnhkalnihjkoeaaGreatDoor.Q
