/- A frame more behind a row of frames. -/
import Derived.Lib.BufferWrite
import Derived.OwnWalk
import Derived.Test.YtcmkjdpmlmmjcaaGreatDoorPsQTake
section
namespace Go.Proofs.YtcmkjdpmlmmjcaaGreatDoor.Q
open Go.RowKit

def putRow (row : Bs) (o : Nat) (x : Bs) : Bs := row.take o ++ x ++ row.drop (o + x.length)
def hdr (n : Nat) : Bs := [UInt8.ofNat n, UInt8.ofNat (n / 256)]

theorem putRow_at (p s d : Bs) (u v b0 b1 : UInt8) : putRow (p ++ u :: v :: s) p.length ([b0, b1] ++ d) = p ++ [b0, b1] ++ d ++ s.drop d.length := by
  unfold putRow
  rw [List.take_left, show p.length + ([b0, b1] ++ d).length = p.length + (d.length + 1 + 1) by simp, ← List.drop_drop, List.drop_left]
  simp
theorem row_put (row : Bs) (o : Nat) (d : Bs) (b0 b1 : UInt8) (h : o + 2 + d.length ≤ row.length) :
    ((((Lib.byteCells row).set o (.int .u8 b0.toNat)).set (o + 1) (.int .u8 b1.toNat)).take (o + 2) ++ Lib.byteCells d ++ (((Lib.byteCells row).set o (.int .u8 b0.toNat)).set (o + 1) (.int .u8 b1.toNat)).drop (o + 2 + d.length)) = Lib.byteCells (putRow row o ([b0, b1] ++ d)) := by
  obtain ⟨p, q, rfl, hp⟩ : ∃ p q, row = p ++ q ∧ p.length = o := ⟨row.take o, row.drop o, (List.take_append_drop o row).symm, by rw [List.length_take]; omega⟩
  subst hp
  rw [List.length_append] at h
  rcases q with _ | ⟨u, _ | ⟨v, s⟩⟩
  · simp at h; omega
  · simp at h; omega
  · rw [putRow_at]
    have e : (((Lib.byteCells (p ++ u :: v :: s)).set p.length (.int .u8 b0.toNat)).set (p.length + 1) (.int .u8 b1.toNat)) = Lib.byteCells (p ++ [b0, b1]) ++ Lib.byteCells s := by
      have e1 : Lib.byteCells (p ++ u :: v :: s) = Lib.byteCells p ++ .int .u8 u.toNat :: .int .u8 v.toNat :: Lib.byteCells s := by simp [Lib.byteCells]
      have hl : p.length = (Lib.byteCells p).length := by simp [Lib.byteCells]
      rw [e1, hl, List.set_append_right _ _ (Nat.le_refl _), List.set_append_right _ _ (by omega), Nat.sub_self, show (Lib.byteCells p).length + 1 - (Lib.byteCells p).length = 1 by omega]
      simp [Lib.byteCells]
    have hl2 : p.length + 2 = (Lib.byteCells (p ++ [b0, b1])).length := by simp [Lib.byteCells]
    rw [e, hl2, List.take_left, ← List.drop_drop, List.drop_left]
    simp [Lib.byteCells, List.map_drop]

set_option maxHeartbeats 4000000 in
set_option maxRecDepth 100000 in
theorem write_any {w : World} {rb yb : Nat} {R : PR} {fv : Value} (h : RM w rb yb R fv) (at_ : Nat) (data : ByteArray) (hfit : 8 * at_ + 2 + data.size ≤ 8 * R.g) :
    Calls Tryz.prog 43 #[.pointer (some ⟨rb, 0, none⟩), .int .i64 at_, .string data] w fun e w' => e = .returned (.tuple #[]) ∧ RM w' rb yb { R with row := putRow R.row (8 * at_) (hdr data.size ++ data.data.toList) } fv ∧ Fr (One yb) w w' := by
  have h0 := h.at0
  have hg := h.g64
  have H := hide h
  have hl := h.len
  have hy := h.y
  have hbs : (Lib.byteCells R.row).toArray.size = 8 * R.g := by simp [Lib.byteCells, hl]
  have hf : ∀ o, w.frozen? ⟨yb, o, none⟩ = false := fun o => free_of_heap hy
  have hI1 : ((at_ : Int) * 8) ≤ ((8 * R.g : Nat) : Int) := by omega
  have hcell : ∀ o, o < 8 * R.g → ∃ b : UInt8, w.cell? ⟨yb, o, none⟩ = some (.int .u8 b.toNat) := fun o ho => by
    rw [cell_of_heap hy]
    obtain ⟨b, hb⟩ : ∃ b, R.row[o]? = some b := ⟨R.row[o]'(by omega), by simp⟩
    exact ⟨b, by simp [Lib.byteCells, hb]⟩
  obtain ⟨b0, c0⟩ := hcell (at_ * 8) (by omega)
  obtain ⟨b1, c1⟩ := hcell (at_ * 8 + 1) (by omega)
  have hsz : data.size ≤ 512 := by omega
  clear h hcell
  go_enter Tryz.func43, Tryz.ntmps43
  have HX : Hid ((((data.size : Int) % 256) = ((UInt8.ofNat data.size).toNat : Int)) ∧ (((data.size : Int) / 256) = ((UInt8.ofNat (data.size / 256)).toNat : Int))) := ⟨by simp, by simp; omega⟩
  obtain ⟨cur, hcur⟩ : ∃ cur, cur = (((Lib.byteCells R.row).toArray.setIfInBounds (at_ * 8) (.int .u8 ((data.size : Int) % 256))).setIfInBounds (at_ * 8 + 1) (.int .u8 ((data.size : Int) / 256))) := ⟨_, rfl⟩
  have hW : ((w.setCell ⟨yb, at_ * 8, none⟩ (.int .u8 ((data.size : Int) % 256))).setCell ⟨yb, at_ * 8 + 1, none⟩ (.int .u8 ((data.size : Int) / 256))).heap[yb]? = some (.cells cur 5 (0, 0)) := by
    rw [hcur]
    exact heap_setCell_same (heap_setCell_same hy)
  have hcs : cur.size = 8 * R.g := by rw [hcur]; simp [Lib.byteCells, hl]
  have hrun := Lib.run_copy_row_string (P := Tryz.prog) ((w.setCell ⟨yb, at_ * 8, none⟩ (.int .u8 ((data.size : Int) % 256))).setCell ⟨yb, at_ * 8 + 1, none⟩ (.int .u8 ((data.size : Int) / 256))) 61 9 3 5 yb (at_ * 8 + 2) (8 * R.g - at_ * 8 - 2) (8 * R.g - at_ * 8 - 2) data cur 5 Tryz.underlying61 (by kernel_rfl) hW (by omega) (by omega)
  have HR : Hid ((cur.toList.take (at_ * 8 + 2) ++ Lib.byteCells data.data.toList ++ cur.toList.drop (at_ * 8 + 2 + data.size)).toArray = (Lib.byteCells (putRow R.row (8 * at_) (hdr data.size ++ data.data.toList))).toArray) := by
    have := row_put R.row (at_ * 8) data.data.toList (UInt8.ofNat data.size) (UInt8.ofNat (data.size / 256)) (by rw [Array.length_toList]; show _ + _ + data.size ≤ _; omega)
    rw [Array.length_toList] at this
    show _ = _
    rw [hcur, HX.out.1, HX.out.2, Nat.mul_comm 8 at_]
    simp only [Array.toList_setIfInBounds]
    exact congrArg List.toArray this
  rw [HR.out] at hrun
  have HW := hide hW
  clear hW hcur HR
  generalize hrw : putRow R.row (8 * at_) (hdr data.size ++ data.data.toList) = row' at *
  have HRL : Hid (row'.length = 8 * R.g) := by
    show _ = _
    rw [← hrw]
    unfold putRow
    simp only [List.length_append, List.length_take, List.length_drop, hdr, List.length_cons, List.length_nil, Array.length_toList]
    have e : data.data.size = data.size := rfl
    omega
  clear hrw
  go_wp2_with fail
  go_end0
  have hyr := setRow_heap _ yb _ (Lib.byteCells row').toArray 5 _ HW.out
  have hF : Fr (One yb) w (((w.setCell ⟨yb, at_ * 8, none⟩ (.int .u8 ((data.size : Int) % 256))).setCell ⟨yb, at_ * 8 + 1, none⟩ (.int .u8 ((data.size : Int) / 256))).setRow yb (Lib.byteCells row').toArray) :=
    ((Fr.setCell (One yb) w ⟨yb, at_ * 8, none⟩ _ rfl).trans (Fr.setCell (One yb) _ ⟨yb, at_ * 8 + 1, none⟩ _ rfl)).trans ⟨rfl, rfl, rfl, by simp, fun k _ hk => setRow_other _ yb k _ hk⟩
  refine ⟨rfl, ⟨hF.keep H.out.r H.out.ne, hyr, H.out.f.keep hF (fun g hg e => H.out.fne hg e), H.out.g2, H.out.g64, HRL.out⟩, hF⟩

end Go.Proofs.YtcmkjdpmlmmjcaaGreatDoor.Q
end
section
namespace Go.Proofs.YtcmkjdpmlmmjcaaGreatDoor.Q
open Go.RowKit

/-- A frame's bytes lie in the row. -/
def Stored (row : Bs) (at_ : Nat) (d : Bs) : Prop := ∃ p s, row = p ++ hdr d.length ++ d ++ s ∧ p.length = 8 * at_

theorem len_or : ∀ n, n ≤ 1000 → bits BinOp.or IntKind.i64 ((n : Nat) % 256 : Int) ((n : Nat) / 256 * 256 : Int) = ((n : Nat) : Int) := by decide +kernel

set_option maxHeartbeats 4000000 in
set_option maxRecDepth 100000 in
theorem bytes_any {w : World} {rb yb : Nat} {R : PR} {fv : Value} (h : RM w rb yb R fv) (at_ : Nat) (d : Bs) (hst : Stored R.row at_ d) (hd : d.length ≤ 1000) :
    Calls Tryz.prog 47 #[.pointer (some ⟨rb, 0, none⟩), .int .i64 at_] w fun e w' => e = .returned (.slice (some ⟨yb, at_ * 8 + 2, none⟩) d.length (8 * R.g - at_ * 8 - 2)) ∧ Fr Zero w w' := by
  obtain ⟨p, s, hrow, hp⟩ := hst
  have hl := h.len
  have hlr := congrArg List.length hrow
  simp only [List.length_append, hdr, List.length_cons, List.length_nil] at hlr
  have h0 := h.at0
  have hg := h.g64
  have c0 : w.cell? ⟨yb, at_ * 8, none⟩ = some (.int .u8 ((UInt8.ofNat d.length).toNat : Nat)) := by
    rw [cell_of_heap h.y]
    simp only [Lib.byteCells, List.getElem?_toArray, List.getElem?_map]
    rw [hrow, show at_ * 8 = p.length by omega]
    simp [hdr]
  have c1 : w.cell? ⟨yb, at_ * 8 + 1, none⟩ = some (.int .u8 ((UInt8.ofNat (d.length / 256)).toNat : Nat)) := by
    rw [cell_of_heap h.y]
    simp only [Lib.byteCells, List.getElem?_toArray, List.getElem?_map]
    rw [hrow, show at_ * 8 + 1 = p.length + 1 by omega]
    simp [hdr]
  have e0 : (UInt8.ofNat d.length).toNat = d.length % 256 := by simp
  have e1 : (UInt8.ofNat (d.length / 256)).toNat = d.length / 256 := by simp; omega
  rw [e0] at c0
  rw [e1] at c1
  have hI1 : ((at_ : Int) * 8) ≤ ((8 * R.g : Nat) : Int) := by omega
  have hI2 : (0 : Int) < ((8 * R.g - at_ * 8 : Nat) : Int) := by omega
  have hI3 : (1 : Int) < ((8 * R.g - at_ * 8 : Nat) : Int) := by omega
  have hI4 : 2 + (d.length : Int) ≤ ((8 * R.g - at_ * 8 : Nat) : Int) := by omega
  have hn4 : 2 + d.length ≤ 8 * R.g - at_ * 8 := by omega
  have hI5 : (2 : Int) ≤ 2 + (d.length : Int) := by omega
  have hn2 : 0 < 8 * R.g - at_ * 8 := by omega
  have hn3 : 1 < 8 * R.g - at_ * 8 := by omega
  have hor : bits BinOp.or IntKind.i64 ((d.length : Int) % 256) ((d.length : Int) / 256 * 256) = (d.length : Int) := len_or d.length hd
  have H := hide h
  clear h hrow hp e0 e1
  go_enter Tryz.func47, Tryz.ntmps47
  go_wp2_with fail
  go_quiet (fail)
  go_wp2_with fail
  go_ret
  refine ⟨?_, Fr.drewN _ _ _⟩
  simp only [Nat.add_sub_cancel_left]
  rfl

end Go.Proofs.YtcmkjdpmlmmjcaaGreatDoor.Q
end
section
namespace Go.Proofs.YtcmkjdpmlmmjcaaGreatDoor.Q
open Go.RowKit

def Owns (v : Value) : Nat → Prop := fun k => blockOf v = some k

theorem fsCells_snoc (l : List PF) (f : PF) : fsCells (l ++ [f]) = fsCells l ++ fcells f := by simp [fsCells]

theorem src_frame {w : World} {n : Nat} (f : PF) {t : TypeId} (h : w.heap[n]? = some (.cells #[.int .i64 f.at_, .int .i64 f.takes, .int .i64 f.st] t (0, 0))) : Src Tryz.prog 3 62 (.slice (some ⟨n, 0, none⟩) 1 1) 1 (fcells f) w := by
  refine Src.ofSlice w Tryz.underlying62 _ _ _ _ rfl (fun j u hj => ?_) (fun u hu => ?_)
  · have e : (⟨n, 0, none⟩ : Addr).add j = ⟨n, j, none⟩ := by simp [Addr.add]; omega
    rw [e, cell_of_heap h]
    simpa [fcells] using hj
  · simp [fcells] at hu
    rcases hu with rfl | rfl | rfl <;> rfl

theorem infoF : (Tryz.prog.info? 105).map (fun i => (i.zero, i.size, i.bytes)) = some (some (.agg #[.int .i64 0, .int .i64 0, .int .i64 0]), 3, 24) := by kernel_rfl
theorem run_fappend {w : World} {v : Value} {l : List PF} (h : FRow w v l) (tx ty : TypeId) (x : Value) (f : PF) (hs : Src Tryz.prog 3 tx x 1 (fcells f) w) (hl : l.length ≤ 1000000) :
    ∃ v' w', (Builtin.append_ #[62, tx] ty #[v, x]).run Tryz.prog w = .ok v' w' ∧ FRow w' v' (l ++ [f]) ∧ Fr (Owns v) w w' ∧ ∀ k, k < w.heap.size → blockOf v' = some k → blockOf v = some k := by
  obtain ⟨i, hi, hz, hsize, hby⟩ := info_parts infoF
  have ht : Tryz.prog.underlying 62 = some (.slice 105) := Tryz.underlying62
  have hs' := hs
  rw [← hsize] at hs'
  have hfl : (fcells f).length = 3 := rfl
  have grown : ∀ (base : Option Addr) (cap : Nat), cap < l.length + 1 → v = .slice base l.length cap → (Builtin.firstCells i.size l.length (.slice base l.length cap)).run Tryz.prog w.drew = .ok (fsCells l).toArray w.drew →
      ∃ v' w', (Builtin.append_ #[62, tx] ty #[v, x]).run Tryz.prog w = .ok v' w' ∧ FRow w' v' (l ++ [f]) ∧ Fr (Owns v) w w' ∧ ∀ k, k < w.heap.size → blockOf v' = some k → blockOf v = some k := by
    intro base cap hcap hsv hold
    subst hsv
    have hr := run_append_grow_src (P := Tryz.prog) w 62 tx ty 105 i _ ht hi hz base l.length cap (fsCells l) hold x 1 (fcells f) hs' hcap (by omega) (by rw [hby]; exact growslice_fits hcap (by omega))
    have hge := grownCap_ge w (l.length + 1) cap 105
    have hcm : grownCap w (l.length + 1) cap 105 ≤ maxLen := grownCap_le_maxLen w (l.length + 1) cap 105 (by unfold maxLen; omega)
    refine ⟨_, _, hr, .inr ⟨w.heap.size, 0, grownCap w (l.length + 1) cap 105, _, by rw [List.length_append]; rfl, heap_alloc_new w.drew _, by rw [List.length_append]; exact hge, ?_, hcm, fun j u hj => ?_⟩, ⟨rfl, rfl, rfl, by simp, fun k hk _ => Below.heap_alloc w.drew _ _ hk⟩, fun k hk e => by simp [blockOf] at e; omega⟩
    · simp only [Array.size_append, List.size_toArray, size_zeroCells, List.length_append, fsCells_length, hfl, Value.cells]
      simp
      omega
    · rw [fsCells_snoc] at hj
      rw [Nat.zero_add]
      have hjl : j < (fsCells l ++ fcells f).length := (List.getElem?_eq_some_iff.1 hj).1
      rw [Array.getElem?_append_left (by simpa using hjl)]
      simpa using hj
  rcases h with ⟨rfl, rfl⟩ | ⟨fb, off, cap, cur, rfl, h2, h3, h4, h5, h6⟩
  · exact grown none 0 (by simp) rfl (run_firstCells_none w.drew i.size 0 0 0)
  · by_cases hroom : l.length + 1 ≤ cap
    · have hfit : off + l.length * i.size + (fcells f).length ≤ cur.size := by rw [hfl, hsize]; omega
      have hst := run_storeCells_at Tryz.prog fb (off + l.length * i.size) 105 (fcells f) 0 cur w h2 (by simpa using hfit) hs.one
      simp only [Nat.add_zero] at hst
      have hr : (Builtin.append_ #[62, tx] ty #[.slice (some ⟨fb, off, none⟩) l.length cap, x]).run Tryz.prog w = .ok (.slice (some ⟨fb, off, none⟩) (l.length + 1) cap) (w.setRow fb (cur.toList.take (off + l.length * i.size) ++ fcells f ++ cur.toList.drop (off + l.length * i.size + (fcells f).length)).toArray) := by
        rcases hs'.kind with ⟨e', hk⟩ | hk <;> simp [Builtin.append_, run_underlying ht, run_underlying hk, sizeOf, typeInfo, hi, hs'.len, hroom, hs'.cells, Addr.add_lit, hst]
      refine ⟨_, _, hr, .inr ⟨fb, off, cap, _, by rw [List.length_append]; rfl, setRow_heap w fb cur _ 105 _ h2, by rw [List.length_append]; exact hroom, ?_, h5, fun j u hj => ?_⟩, ⟨rfl, rfl, rfl, by simp, fun k _ hk => setRow_other w fb k _ (fun e => hk (by subst e; rfl))⟩, fun k _ e => by simpa [blockOf] using e⟩
      · simp only [List.size_toArray, List.length_append, List.length_take, List.length_drop, Array.length_toList]
        omega
      · rw [fsCells_snoc] at hj
        rw [hsize] at hfit ⊢
        have hcl : (cur.toList.take (off + l.length * 3)).length = off + l.length * 3 := by
          have e : cur.toList.length = cur.size := Array.length_toList
          rw [List.length_take, e]
          exact Nat.min_eq_left (by omega)
        rw [List.getElem?_toArray]
        rcases Nat.lt_or_ge j (l.length * 3) with q | q
        · rw [List.getElem?_append_left (by rw [List.length_append, hcl]; omega), List.getElem?_append_left (by rw [hcl]; omega), List.getElem?_take_of_lt (by omega)]
          rw [List.getElem?_append_left (by rw [fsCells_length]; exact q)] at hj
          rw [Array.getElem?_toList]
          exact h6 j u hj
        · rw [List.getElem?_append_right (by rw [fsCells_length]; exact q), fsCells_length] at hj
          have hj3 : j - l.length * 3 < (fcells f).length := (List.getElem?_eq_some_iff.1 hj).1
          rw [hfl] at hj3
          rw [List.getElem?_append_left (by rw [List.length_append, hcl, hfl]; omega), List.getElem?_append_right (by rw [hcl]; omega), hcl, show off + j - (off + l.length * 3) = j - l.length * 3 by omega]
          exact hj
    · exact grown _ cap (by omega) rfl (run_firstCells_some w.drew i.size l.length _ _ _ (fsCells l) (by rw [fsCells_length, hsize]) (fun j u hj => by
        have e : (⟨fb, off, none⟩ : Addr).add j = ⟨fb, off + j, none⟩ := by simp [Addr.add]
        rw [e]
        show w.cell? _ = _
        rw [cell_of_heap h2]
        exact h6 j u hj))

theorem wpList_fappend {w : World} {ops : Array Oper} {rest : List Oper} {o : Oper} {a : Act} {Q : Exit → Act → World → Prop}
    (hg : o.guard = none) (s x : Operand) (tx : TypeId) (hop : o.op = Op.call { callee := Callee.builtin Builtin.append, args := #[s, x], argTypes := #[62, tx] })
    {sv xv : Value} {l : List PF} (f : PF) (hs : a.eval s = sv) (hx : a.eval x = xv) (h : FRow w sv l) (hsrc : Src Tryz.prog 3 tx xv 1 (fcells f) w) (hl : l.length ≤ 1000000)
    (hK : ∀ v' w', FRow w' v' (l ++ [f]) → Fr (Owns sv) w w' → (∀ k, k < w.heap.size → blockOf v' = some k → blockOf sv = some k) → wpList Tryz.prog ops Q rest (a.put o.dst v') w') :
    wpList Tryz.prog ops Q (o :: rest) a w := by
  refine wpList_plain hg fun K hK' => ?_
  obtain ⟨v', w', hrun, r1, r2, r3⟩ := run_fappend h tx o.type xv f hsrc hl
  unfold Oper.wp
  simp [execOp, hop, resolve, invoke, builtin, hs, hx, hrun, Result.andThen]
  exact hK' _ _ (hK v' w' r1 r2 r3)

end Go.Proofs.YtcmkjdpmlmmjcaaGreatDoor.Q
end
