/- A frame's bytes are put into the row, and read of it. -/
import Derived.Lib.BufferWrite
import Derived.Test.YtnhkalnihjkoeaaGreatDoorRgQTake
namespace Go.Proofs.YtnhkalnihjkoeaaGreatDoor.Q
open Go.RowKit

def putRow (row : Bs) (o : Nat) (x : Bs) : Bs := row.take o ++ x ++ row.drop (o + x.length)
def hdr (n : Nat) : Bs := [UInt8.ofNat n, UInt8.ofNat (n / 256)]

theorem putRow_at (p s d : Bs) (u v b0 b1 : UInt8) : putRow (p ++ u :: v :: s) p.length ([b0, b1] ++ d) = p ++ [b0, b1] ++ d ++ s.drop d.length := by
  unfold putRow
  rw [List.take_left, show p.length + ([b0, b1] ++ d).length = p.length + (d.length + 1 + 1) by simp, ← List.drop_drop, List.drop_left]
  simp
theorem row_put (row : Bs) (o : Nat) (d : Bs) (b0 b1 : UInt8) (h : o + 2 + d.length ≤ row.length) :
    ((((Lib.byteCells row).set o (.int .u8 b0.toNat)).set (o + 1) (.int .u8 b1.toNat)).take (o + 2) ++ Lib.byteCells d ++ (((Lib.byteCells row).set o (.int .u8 b0.toNat)).set (o + 1) (.int .u8 b1.toNat)).drop (o + 2 + d.length)) = Lib.byteCells (putRow row o ([b0, b1] ++ d)) := by
  obtain ⟨p, q, rfl, hp⟩ : ∃ p q, row = p ++ q ∧ p.length = o := ⟨row.take o, row.drop o, (List.take_append_drop o row).symm, by rw [List.length_take]; omega⟩
  subst hp
  rw [List.length_append] at h
  rcases q with _ | ⟨u, _ | ⟨v, s⟩⟩
  · simp at h; omega
  · simp at h; omega
  · rw [putRow_at]
    have e : (((Lib.byteCells (p ++ u :: v :: s)).set p.length (.int .u8 b0.toNat)).set (p.length + 1) (.int .u8 b1.toNat)) = Lib.byteCells (p ++ [b0, b1]) ++ Lib.byteCells s := by
      have e1 : Lib.byteCells (p ++ u :: v :: s) = Lib.byteCells p ++ .int .u8 u.toNat :: .int .u8 v.toNat :: Lib.byteCells s := by simp [Lib.byteCells]
      have hl : p.length = (Lib.byteCells p).length := by simp [Lib.byteCells]
      rw [e1, hl, List.set_append_right _ _ (Nat.le_refl _), List.set_append_right _ _ (by omega), Nat.sub_self, show (Lib.byteCells p).length + 1 - (Lib.byteCells p).length = 1 by omega]
      simp [Lib.byteCells]
    have hl2 : p.length + 2 = (Lib.byteCells (p ++ [b0, b1])).length := by simp [Lib.byteCells]
    rw [e, hl2, List.take_left, ← List.drop_drop, List.drop_left]
    simp [Lib.byteCells, List.map_drop]

set_option maxHeartbeats 4000000 in
set_option maxRecDepth 100000 in
theorem write_any {w : World} {rb yb : Nat} {R : PR} {fv : Value} (h : RM w rb yb R fv) (at_ : Nat) (data : ByteArray) (hfit : 8 * at_ + 2 + data.size ≤ 8 * R.g) :
    Calls Tryz.prog 232 #[.pointer (some ⟨rb, 0, none⟩), .int .i64 at_, .string data] w fun e w' => e = .returned (.tuple #[]) ∧ RM w' rb yb { R with row := putRow R.row (8 * at_) (hdr data.size ++ data.data.toList) } fv ∧ Fr (One yb) w w' := by
  have h0 := h.at0
  have hg := h.g64
  have H := hide h
  have hl := h.len
  have hy := h.y
  have hbs : (Lib.byteCells R.row).toArray.size = 8 * R.g := by simp [Lib.byteCells, hl]
  have hf : ∀ o, w.frozen? ⟨yb, o, none⟩ = false := fun o => free_of_heap hy
  have hI1 : ((at_ : Int) * 8) ≤ ((8 * R.g : Nat) : Int) := by omega
  have hcell : ∀ o, o < 8 * R.g → ∃ b : UInt8, w.cell? ⟨yb, o, none⟩ = some (.int .u8 b.toNat) := fun o ho => by
    rw [cell_of_heap hy]
    obtain ⟨b, hb⟩ : ∃ b, R.row[o]? = some b := ⟨R.row[o]'(by omega), by simp⟩
    exact ⟨b, by simp [Lib.byteCells, hb]⟩
  obtain ⟨b0, c0⟩ := hcell (at_ * 8) (by omega)
  obtain ⟨b1, c1⟩ := hcell (at_ * 8 + 1) (by omega)
  have hsz : data.size ≤ 512 := by omega
  clear h hcell
  go_enter Tryz.func232, Tryz.ntmps232
  have HX : Hid ((((data.size : Int) % 256) = ((UInt8.ofNat data.size).toNat : Int)) ∧ (((data.size : Int) / 256) = ((UInt8.ofNat (data.size / 256)).toNat : Int))) := ⟨by simp, by simp; omega⟩
  obtain ⟨cur, hcur⟩ : ∃ cur, cur = (((Lib.byteCells R.row).toArray.setIfInBounds (at_ * 8) (.int .u8 ((data.size : Int) % 256))).setIfInBounds (at_ * 8 + 1) (.int .u8 ((data.size : Int) / 256))) := ⟨_, rfl⟩
  have hW : ((w.setCell ⟨yb, at_ * 8, none⟩ (.int .u8 ((data.size : Int) % 256))).setCell ⟨yb, at_ * 8 + 1, none⟩ (.int .u8 ((data.size : Int) / 256))).heap[yb]? = some (.cells cur 5 (0, 0)) := by
    rw [hcur]
    exact heap_setCell_same (heap_setCell_same hy)
  have hcs : cur.size = 8 * R.g := by rw [hcur]; simp [Lib.byteCells, hl]
  have hrun := Lib.run_copy_row_string (P := Tryz.prog) ((w.setCell ⟨yb, at_ * 8, none⟩ (.int .u8 ((data.size : Int) % 256))).setCell ⟨yb, at_ * 8 + 1, none⟩ (.int .u8 ((data.size : Int) / 256))) 32 9 3 5 yb (at_ * 8 + 2) (8 * R.g - at_ * 8 - 2) (8 * R.g - at_ * 8 - 2) data cur 5 Tryz.underlying32 (by kernel_rfl) hW (by omega) (by omega)
  have HR : Hid ((cur.toList.take (at_ * 8 + 2) ++ Lib.byteCells data.data.toList ++ cur.toList.drop (at_ * 8 + 2 + data.size)).toArray = (Lib.byteCells (putRow R.row (8 * at_) (hdr data.size ++ data.data.toList))).toArray) := by
    have := row_put R.row (at_ * 8) data.data.toList (UInt8.ofNat data.size) (UInt8.ofNat (data.size / 256)) (by rw [Array.length_toList]; show _ + _ + data.size ≤ _; omega)
    rw [Array.length_toList] at this
    show _ = _
    rw [hcur, HX.out.1, HX.out.2, Nat.mul_comm 8 at_]
    simp only [Array.toList_setIfInBounds]
    exact congrArg List.toArray this
  rw [HR.out] at hrun
  have HW := hide hW
  clear hW hcur HR
  generalize hrw : putRow R.row (8 * at_) (hdr data.size ++ data.data.toList) = row' at *
  have HRL : Hid (row'.length = 8 * R.g) := by
    show _ = _
    rw [← hrw]
    unfold putRow
    simp only [List.length_append, List.length_take, List.length_drop, hdr, List.length_cons, List.length_nil, Array.length_toList]
    have e : data.data.size = data.size := rfl
    omega
  clear hrw
  go_wp2_with fail
  go_end0
  have hyr := setRow_heap _ yb _ (Lib.byteCells row').toArray 5 _ HW.out
  have hF : Fr (One yb) w (((w.setCell ⟨yb, at_ * 8, none⟩ (.int .u8 ((data.size : Int) % 256))).setCell ⟨yb, at_ * 8 + 1, none⟩ (.int .u8 ((data.size : Int) / 256))).setRow yb (Lib.byteCells row').toArray) :=
    ((Fr.setCell (One yb) w ⟨yb, at_ * 8, none⟩ _ rfl).trans (Fr.setCell (One yb) _ ⟨yb, at_ * 8 + 1, none⟩ _ rfl)).trans ⟨rfl, rfl, rfl, by simp, fun k _ hk => setRow_other _ yb k _ hk⟩
  refine ⟨rfl, ⟨hF.keep H.out.r H.out.ne, hyr, H.out.f.keep hF (fun g hg e => H.out.fne hg e), H.out.g2, H.out.g64, HRL.out⟩, hF⟩

end Go.Proofs.YtnhkalnihjkoeaaGreatDoor.Q
