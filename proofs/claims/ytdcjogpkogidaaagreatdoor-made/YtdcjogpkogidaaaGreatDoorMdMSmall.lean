/- The maker's small functions. -/
import Derived.Deep.LoopGhost
import Derived.RegionTactic
import Derived.Test.YtdcjogpkogidaaaGreatDoorMdVSub
import Derived.Test.YtdcjogpkogidaaaGreatDoorMdPStep
import Derived.Test.YtdcjogpkogidaaaGreatDoorMdMPure
import Derived.Test.YtdcjogpkogidaaaGreatDoorMdQList
namespace Go.Proofs.YtdcjogpkogidaaaGreatDoor
open Go.RowKit

set_option maxHeartbeats 4000000 in
set_option maxRecDepth 100000 in
theorem told_any (n : Int) (h1 : -9223372036854775808 ≤ n) (h2 : n ≤ 9223372036854775807) (w : World) :
    Calls Tryz.prog 86 #[.int .i64 n] w fun e w' => e = .returned (.string (ba (decI n))) ∧ Fr Zero w w' := by
  have HD0 : Hid (Digs n.natAbs n.natAbs []) := ⟨by omega, by simp⟩
  by_cases hn : n < 0
  · have hu := u64_abs h1 hn
    go_enter Tryz.func86, Tryz.ntmps86
    go_wp2_with fail
    clear hu
    go_loopw [3, 4] (fun uv sv wr => ∃ (m : Nat) (acc : Bs), uv = .int .u64 m ∧ sv = .string (ba acc) ∧ acc.length ≤ 20 ∧ m < 10 ^ 20 ∧ Hid (Digs n.natAbs m acc) ∧ Hid (Fr Zero w wr)) (fun uv _ _ => (intOf uv).toNat)
    case atStart => exact ⟨_, [], rfl, rfl, by simp, by omega, HD0, Fr.refl _ _⟩
    case round =>
      obtain ⟨m, acc, rfl, rfl, hla, hm, HD, HF⟩ := hrel
      have z2 := ba_size acc
      by_cases h9 : 9 < m
      · have hcv := conv_new (48 + m % 10) (by omega) wr wr.heap.size (48 + (m : Int) % 10) (by omega) rfl
        have HD' := hide (HD.out.more h9)
        generalize UInt8.ofNat (48 + m % 10) = d at hcv HD'
        have a1 : ba [d] ++ ba acc = ba (d :: acc) := ba_append _ _
        have z1 : (ba [d]).size = 1 := ba_size _
        have n1 : ¬ (9223372036854775807 < 1 + acc.length) := by omega
        go_wp2_with fail
        go_roundw
        case rel =>
          exact ⟨m / 10, d :: acc, by go_num, rfl, HD'.out.len, HD'.out.1, HD', HF.out.trans (Fr.alloc _ _ _)⟩
        case measure => simp [intOf]; omega
      · have hcv := conv_new (48 + m) (by omega) wr wr.heap.size (48 + (m : Int)) (by omega) rfl
        have HL := hide (HD.out.last (by omega))
        generalize UInt8.ofNat (48 + m) = d at hcv HL
        have a1 : ba [d] ++ ba acc = ba (d :: acc) := ba_append _ _
        have a2 : ⟨#[45]⟩ ++ ba (d :: acc) = ba (45 :: d :: acc) := ba_append [45] _
        have z1 : (ba [d]).size = 1 := ba_size _
        have z3 : (ba (d :: acc)).size = acc.length + 1 := ba_size _
        have n1 : ¬ (9223372036854775807 < 1 + acc.length) := by omega
        have n2 : ¬ (9223372036854775807 < 1 + (acc.length + 1)) := by omega
        go_wp2_with fail
        go_ret
        refine ⟨?_, HF.out.trans (Fr.alloc _ _ _)⟩
        unfold decI
        rw [if_pos hn, HL.out]
        rfl
  · have hu := u64_pos hn h2
    go_enter Tryz.func86, Tryz.ntmps86
    go_wp2_with fail
    clear hu
    go_loopw [3, 4] (fun uv sv wr => ∃ (m : Nat) (acc : Bs), uv = .int .u64 m ∧ sv = .string (ba acc) ∧ acc.length ≤ 20 ∧ m < 10 ^ 20 ∧ Hid (Digs n.natAbs m acc) ∧ Hid (Fr Zero w wr)) (fun uv _ _ => (intOf uv).toNat)
    case atStart => exact ⟨_, [], rfl, rfl, by simp, by omega, HD0, Fr.refl _ _⟩
    case round =>
      obtain ⟨m, acc, rfl, rfl, hla, hm, HD, HF⟩ := hrel
      have z2 := ba_size acc
      by_cases h9 : 9 < m
      · have hcv := conv_new (48 + m % 10) (by omega) wr wr.heap.size (48 + (m : Int) % 10) (by omega) rfl
        have HD' := hide (HD.out.more h9)
        generalize UInt8.ofNat (48 + m % 10) = d at hcv HD'
        have a1 : ba [d] ++ ba acc = ba (d :: acc) := ba_append _ _
        have z1 : (ba [d]).size = 1 := ba_size _
        have n1 : ¬ (9223372036854775807 < 1 + acc.length) := by omega
        go_wp2_with fail
        go_roundw
        case rel =>
          exact ⟨m / 10, d :: acc, by go_num, rfl, HD'.out.len, HD'.out.1, HD', HF.out.trans (Fr.alloc _ _ _)⟩
        case measure => simp [intOf]; omega
      · have hcv := conv_new (48 + m) (by omega) wr wr.heap.size (48 + (m : Int)) (by omega) rfl
        have HL := hide (HD.out.last (by omega))
        generalize UInt8.ofNat (48 + m) = d at hcv HL
        have a1 : ba [d] ++ ba acc = ba (d :: acc) := ba_append _ _
        have z1 : (ba [d]).size = 1 := ba_size _
        have n1 : ¬ (9223372036854775807 < 1 + acc.length) := by omega
        go_wp2_with fail
        go_ret
        refine ⟨?_, HF.out.trans (Fr.alloc _ _ _)⟩
        unfold decI
        rw [if_neg (by omega), HL.out]
        rfl

set_option maxHeartbeats 4000000 in
set_option maxRecDepth 100000 in
theorem kdecimal_any (n : Nat) (h2 : n ≤ 1000000) (w : World) :
    Calls Tryz.prog 40 #[.int .i64 n] w fun e w' => e = .returned (.string (ba (decN 20 n))) ∧ Fr Zero w w' := by
  have HD0 : Hid (Digs n n []) := ⟨by omega, by simp⟩
  go_enter Tryz.func40, Tryz.ntmps40
  go_wp2_with fail
  go_loopw [0, 3] (fun uv sv wr => ∃ (m : Nat) (acc : Bs), uv = .int .i64 m ∧ sv = .string (ba acc) ∧ acc.length ≤ 20 ∧ m ≤ 1000000 ∧ Hid (Digs n m acc) ∧ Hid (Fr Zero w wr)) (fun uv _ _ => (intOf uv).toNat)
  case atStart => exact ⟨_, [], rfl, rfl, by simp, by omega, HD0, Fr.refl _ _⟩
  case round =>
    obtain ⟨m, acc, rfl, rfl, hla, hm, HD, HF⟩ := hrel
    have z2 := ba_size acc
    by_cases h9 : 9 < m
    · have h9I : (9 : Int) < (m : Int) := by omega
      have hcv := conv_new (48 + m % 10) (by omega) wr wr.heap.size (48 + (m : Int) % 10) (by omega) rfl
      have HD' := hide (HD.out.more h9)
      generalize UInt8.ofNat (48 + m % 10) = d at hcv HD'
      have a1 : ba [d] ++ ba acc = ba (d :: acc) := ba_append _ _
      have z1 : (ba [d]).size = 1 := ba_size _
      have n1 : ¬ (9223372036854775807 < 1 + acc.length) := by omega
      go_wp2_with fail
      go_roundw
      case rel =>
        exact ⟨m / 10, d :: acc, by go_num, rfl, HD'.out.len, by omega, HD', HF.out.trans (Fr.alloc _ _ _)⟩
      case measure => simp [intOf]; omega
    · have h9I : ¬ (9 : Int) < (m : Int) := by omega
      have hcv := conv_new (48 + m) (by omega) wr wr.heap.size (48 + (m : Int)) (by omega) rfl
      have HL := hide (HD.out.last (by omega))
      generalize UInt8.ofNat (48 + m) = d at hcv HL
      have a1 : ba [d] ++ ba acc = ba (d :: acc) := ba_append _ _
      have z1 : (ba [d]).size = 1 := ba_size _
      have n1 : ¬ (9223372036854775807 < 1 + acc.length) := by omega
      go_wp2_with fail
      go_ret
      rw [HL.out]
      exact ⟨rfl, HF.out.trans (Fr.alloc _ _ _)⟩

set_option maxHeartbeats 4000000 in
theorem kname_any (i : Nat) (hi : i < 3) (w : World) :
    Calls Tryz.prog 23 #[.int .i64 i] w fun e w' => e = .returned (.string (ba [UInt8.ofNat (97 + i)])) ∧ Fr Zero w w' := by
  have hcv := conv_new (97 + i) (by omega) w w.heap.size (97 + (i : Int)) (by omega) rfl
  generalize UInt8.ofNat (97 + i) = d at hcv ⊢
  go_enter Tryz.func23, Tryz.ntmps23
  go_wp2_with fail
  go_ret
  exact ⟨rfl, Fr.alloc _ _ _⟩

set_option maxHeartbeats 4000000 in
theorem kunder_any (p st : Bs) (hp : p.length ≤ 1000000) (hst : st.length ≤ 1000000) (w : World) :
    Calls Tryz.prog 39 #[.string (ba p), .string (ba st)] w fun e w' => e = .returned (.string (ba (under p st))) ∧ w' = w := by
  have z1 := ba_size p
  have z2 := ba_size st
  have n1 : ¬ 9223372036854775807 < p.length + 1 := by omega
  have n2 : ¬ 9223372036854775807 < p.length + 1 + st.length := by omega
  by_cases h : p = []
  · have hb : ((ba p).toList.isEmpty) = true := by rw [isEmpty_bytes, h]; rfl
    have HU : Hid (under p st = st) := by show _ = _; unfold under; rw [if_pos h]
    subst h
    go_enter Tryz.func39, Tryz.ntmps39
    go_wp2_with fail
    go_ret
    rw [HU.out]
    exact ⟨rfl, rfl⟩
  · have hb : ((ba p).toList.isEmpty) = false := by rw [isEmpty_bytes]; exact decide_eq_false (fun e => h (by have := congrArg (fun x : ByteArray => x.data.toList) e; simpa [ba] using this))
    have HU : Hid (under p st = p ++ 47 :: st) := by show _ = _; unfold under; rw [if_neg h]
    have a1 : ba p ++ ⟨#[47]⟩ = ba (p ++ [47]) := ba_append p [47]
    have a2 : ba (p ++ [47]) ++ ba st = ba (p ++ 47 :: st) := by rw [ba_append]; simp
    have z3 : (ba (p ++ [47])).size = p.length + 1 := by rw [ba_size]; simp
    go_enter Tryz.func39, Tryz.ntmps39
    go_wp2_with fail
    go_ret
    rw [HU.out]
    exact ⟨rfl, rfl⟩

/-- A maker in memory. -/
def MK (w : World) (mb : Nat) (tv : Value) (n : Nat) (pv qv nv : Value) (sz : Nat) : Prop :=
  w.heap[mb]? = some (.cells #[tv, .int .i64 n, pv, qv, nv, .int .i64 sz] 36 (0, 0))
section
variable {w w' : World} {mb n sz : Nat} {tv pv qv nv : Value}
theorem MK.at0 (h : MK w mb tv n pv qv nv sz) : w.cell? ⟨mb, 0, none⟩ = some tv := by rw [cell_of_heap h]; rfl
theorem MK.at1 (h : MK w mb tv n pv qv nv sz) : w.cell? ⟨mb, 1, none⟩ = some (.int .i64 n) := by rw [cell_of_heap h]; rfl
theorem MK.at2 (h : MK w mb tv n pv qv nv sz) : w.cell? ⟨mb, 2, none⟩ = some pv := by rw [cell_of_heap h]; rfl
theorem MK.at3 (h : MK w mb tv n pv qv nv sz) : w.cell? ⟨mb, 3, none⟩ = some qv := by rw [cell_of_heap h]; rfl
theorem MK.at4 (h : MK w mb tv n pv qv nv sz) : w.cell? ⟨mb, 4, none⟩ = some nv := by rw [cell_of_heap h]; rfl
theorem MK.at5 (h : MK w mb tv n pv qv nv sz) : w.cell? ⟨mb, 5, none⟩ = some (.int .i64 sz) := by rw [cell_of_heap h]; rfl
theorem MK.lt (h : MK w mb tv n pv qv nv sz) : mb < w.heap.size := lt_of_heap h
theorem MK.free (h : MK w mb tv n pv qv nv sz) (o : Nat) : w.frozen? ⟨mb, o, none⟩ = false := free_of_heap h
end
/-- Raw numbers in memory, below B. -/
def TapeAt (w : World) (B : Nat) (tv : Value) : Prop := ∃ (o : Option Addr) (len cap : Nat), tv = .slice o len cap ∧ len ≤ 9223372036854775807 ∧ ∀ i, i < len → ∃ (b off : Nat) (z : Int), o = some ⟨b, off, none⟩ ∧ b < B ∧ w.cell? ⟨b, off + i, none⟩ = some (.int .i64 z) ∧ -9223372036854775808 ≤ z ∧ z ≤ 9223372036854775807
theorem TapeAt.keep {X : Nat → Prop} {w w' : World} {B : Nat} {tv : Value} (h : TapeAt w B tv) (hf : Fr X w w') (hx : ∀ k, k < B → ¬ X k) : TapeAt w' B tv := by
  obtain ⟨o, len, cap, rfl, hl, h⟩ := h
  refine ⟨o, len, cap, rfl, hl, fun i hi => ?_⟩
  obtain ⟨b, off, z, e1, e2, e3, e4, e5⟩ := h i hi
  exact ⟨b, off, z, e1, e2, (hf.cell (a := ⟨b, off + i, none⟩) (World.block_lt_of_cell? w _ e3) (hx b e2)).trans e3, e4, e5⟩

def NextPost (w : World) (mb : Nat) (tv : Value) (n : Nat) (pv qv nv : Value) (sz m : Nat) (e : Ending) (w' : World) : Prop :=
  (∃ r : Nat, r < m ∧ e = .returned (.int .i64 r)) ∧ Fr (One mb) w w' ∧ MK w' mb tv (n + 1) pv qv nv sz

set_option maxHeartbeats 8000000 in
set_option maxRecDepth 100000 in
theorem next_any {w : World} {B mb n sz : Nat} {tv pv qv nv : Value} (h : MK w mb tv n pv qv nv sz) (hT : TapeAt w B tv) (hB : B ≤ mb) (hn : n ≤ 1000000000) (m : Nat) (hm : 0 < m) (hm2 : m ≤ 1000) :
    Calls Tryz.prog 22 #[.pointer (some ⟨mb, 0, none⟩), .int .i64 m] w fun e w' => NextPost w mb tv n pv qv nv sz m e w' := by
  obtain ⟨o, len, cap, rfl, hl63, hT⟩ := hT
  have H := hide h
  have a0 := h.at0
  have a1 := h.at1
  have f1 := h.free 1
  have hlt := h.lt
  have HS : Hid ((w.setCell ⟨mb, 1, none⟩ (.int .i64 ((n : Int) + 1))).heap[mb]? = some (.cells #[.slice o len cap, .int .i64 ((n : Int) + 1), pv, qv, nv, .int .i64 sz] 36 (0, 0))) := by
    show _ = _
    rw [heap_setCell_same h]
    rfl
  have HF : Hid (Fr (One mb) w (w.setCell ⟨mb, 1, none⟩ (.int .i64 ((n : Int) + 1)))) := Fr.setCell _ _ _ _ rfl
  clear h
  go_enter Tryz.func22, Tryz.ntmps22
  go_wp2_with fail
  generalize w.setCell ⟨mb, 1, none⟩ (.int .i64 ((n : Int) + 1)) = w1 at *
  have c0 : w1.drew.cell? ⟨mb, 0, none⟩ = some (.slice o len cap) := (cell_of_heap (o := 0) HS.out).trans rfl
  have c1 : w1.drew.cell? ⟨mb, 1, none⟩ = some (.int .i64 ((n : Int) + 1)) := (cell_of_heap (o := 1) HS.out).trans rfl
  clear a0 a1 f1
  by_cases hgt : len < n + 1
  · have hI : (len : Int) < (n : Int) + 1 := by omega
    go_region
    go_wp2_with fail
    go_ret
    exact ⟨⟨0, hm, rfl⟩, HF.out.trans (Fr.drew _ _), HS.out⟩
  · have hI : ¬ (len : Int) < (n : Int) + 1 := by omega
    obtain ⟨b, off, z, rfl, hb, hc, hz1, hz2⟩ := hT n (by omega)
    have d0 : w1.drew.cell? ⟨b, off + n, none⟩ = some (.int .i64 z) := (HF.out.cell (a := ⟨b, off + n, none⟩) (World.block_lt_of_cell? w _ hc) (fun e => by have e' : b = mb := e; omega)).trans hc
    have hnI : (n : Int) < (len : Int) := by omega
    clear hT hc
    have e2 : ((n + 1 : Nat) : Int) - 1 = (n : Int) := by omega
    have e3 : ((n : Int) + 1) - 1 = (n : Int) := by omega
    have hwr : IntKind.i64.wrap (n : Int) = (n : Int) := by
      simp only [IntKind.wrap, IntKind.bits, IntKind.signed]
      simp
      omega
    have hcd : (0 : Int) ≤ (n : Int) ∧ (n : Int) < (len : Int) := ⟨by omega, hnI⟩
    have htn : ((n : Int)).toNat = n := by omega
    go_region
    go_wp2_with fail
    have b0 : w1.drew.drew.cell? ⟨mb, 0, none⟩ = some (.slice (some ⟨b, off, none⟩) len cap) := c0
    have b1 : w1.drew.drew.cell? ⟨mb, 1, none⟩ = some (.int .i64 ((n : Int) + 1)) := c1
    have b2 : w1.drew.drew.cell? ⟨b, off + n, none⟩ = some (.int .i64 z) := d0
    refine wp_region_held_drew (S := fun W => W.cell? ⟨mb, 0, none⟩ = some (.slice (some ⟨b, off, none⟩) len cap) ∧ W.cell? ⟨mb, 1, none⟩ = some (.int .i64 ((n : Int) + 1)) ∧ W.cell? ⟨b, off + n, none⟩ = some (.int .i64 z)) (by kernel_rfl) ⟨b0, b1, b2⟩ (fun hT => ?_)
    have HFd : Hid (Fr (One mb) w w1.drew.drew) := HF.out.trans ((Fr.drew _ _).trans (Fr.drew _ _))
    have HSd : Hid (w1.drew.drew.heap[mb]? = _) := HS.out
    generalize w1.drew.drew = wd at *
    refine wtake0 (by kernel_rfl) (by kernel_rfl) (by kernel_rfl) (fun _ _ _ h => h) (Or.inl ⟨by rfl, fun W hW => by obtain ⟨z0, z1, z2⟩ := hW; go_simp; try with_reducible rfl⟩) ⟨b0, b1, b2⟩ ?_
    try simp only [Act.put, List.setIfInBounds_toArray, List.set_cons_zero, List.set_cons_succ]
    refine wtake1 (by kernel_rfl) (by kernel_rfl) (by kernel_rfl) (fun _ _ _ h => h) (Or.inl ⟨by rfl, fun W hW => by obtain ⟨z0, z1, z2⟩ := hW; go_simp; try with_reducible rfl⟩) ⟨b0, b1, b2⟩ ?_
    try simp only [Act.put, List.setIfInBounds_toArray, List.set_cons_zero, List.set_cons_succ]
    refine wtake2 (by kernel_rfl) (by kernel_rfl) (by kernel_rfl) (fun _ _ _ h => h) (Or.inl ⟨by rfl, fun W hW => by obtain ⟨z0, z1, z2⟩ := hW; go_simp; try with_reducible rfl⟩) ⟨b0, b1, b2⟩ ?_
    try simp only [Act.put, List.setIfInBounds_toArray, List.set_cons_zero, List.set_cons_succ]
    refine wtake3 (by kernel_rfl) (by kernel_rfl) (by kernel_rfl) (fun _ _ _ h => h) (Or.inl ⟨by rfl, fun W hW => by obtain ⟨z0, z1, z2⟩ := hW; go_simp; try with_reducible rfl⟩) ⟨b0, b1, b2⟩ ?_
    try simp only [Act.put, List.setIfInBounds_toArray, List.set_cons_zero, List.set_cons_succ]
    refine wtake4 (by kernel_rfl) (by kernel_rfl) (by kernel_rfl) (fun _ _ _ h => h) (Or.inl ⟨by rfl, fun W hW => by obtain ⟨z0, z1, z2⟩ := hW; go_simp; try with_reducible rfl⟩) ⟨b0, b1, b2⟩ ?_
    try simp only [Act.put, List.setIfInBounds_toArray, List.set_cons_zero, List.set_cons_succ]
    refine wtake5 (by kernel_rfl) (by kernel_rfl) (by kernel_rfl) (fun _ _ _ h => h) (Or.inl ⟨by rfl, fun W hW => by obtain ⟨z0, z1, z2⟩ := hW; go_simp; try with_reducible rfl⟩) ⟨b0, b1, b2⟩ ?_
    try simp only [Act.put, List.setIfInBounds_toArray, List.set_cons_zero, List.set_cons_succ]
    refine wtake6 (by kernel_rfl) (by kernel_rfl) (by kernel_rfl) (fun _ _ _ h => h) (Or.inl ⟨by rfl, fun W hW => by obtain ⟨z0, z1, z2⟩ := hW; go_simp; try with_reducible rfl⟩) ⟨b0, b1, b2⟩ ?_
    try simp only [Act.put, List.setIfInBounds_toArray, List.set_cons_zero, List.set_cons_succ]
    refine wtake7 (by kernel_rfl) (by kernel_rfl) (by kernel_rfl) (fun _ _ _ h => h) (Or.inl ⟨by rfl, fun W hW => by obtain ⟨z0, z1, z2⟩ := hW; go_simp; try with_reducible rfl⟩) ⟨b0, b1, b2⟩ ?_
    try simp only [Act.put, List.setIfInBounds_toArray, List.set_cons_zero, List.set_cons_succ]
    refine wtake8 (by kernel_rfl) (by kernel_rfl) (by kernel_rfl) (fun _ _ _ h => h) (Or.inl ⟨by rfl, fun W hW => by obtain ⟨z0, z1, z2⟩ := hW; go_simp; try with_reducible rfl⟩) ⟨b0, b1, b2⟩ ?_
    try simp only [Act.put, List.setIfInBounds_toArray, List.set_cons_zero, List.set_cons_succ]
    refine wtake9 (by kernel_rfl) (by kernel_rfl) (by kernel_rfl) (fun _ _ _ h => h) (Or.inl ⟨by rfl, fun W hW => by obtain ⟨z0, z1, z2⟩ := hW; go_simp; try with_reducible rfl⟩) ⟨b0, b1, b2⟩ ?_
    try simp only [Act.put, List.setIfInBounds_toArray, List.set_cons_zero, List.set_cons_succ]
    refine wtake10 (by kernel_rfl) (by kernel_rfl) (by kernel_rfl) (fun _ _ _ h => h) (Or.inl ⟨by rfl, fun W hW => by obtain ⟨z0, z1, z2⟩ := hW; go_simp; try with_reducible rfl⟩) ⟨b0, b1, b2⟩ ?_
    try simp only [Act.put, List.setIfInBounds_toArray, List.set_cons_zero, List.set_cons_succ]
    refine wtake11 (by kernel_rfl) (by kernel_rfl) (by kernel_rfl) (fun _ _ _ h => h) (Or.inl ⟨by rfl, fun W hW => by obtain ⟨z0, z1, z2⟩ := hW; go_simp; try with_reducible rfl⟩) ⟨b0, b1, b2⟩ ?_
    try simp only [Act.put, List.setIfInBounds_toArray, List.set_cons_zero, List.set_cons_succ]
    refine wpAnyH_ready (rs := [12]) (by kernel_rfl) (by simp) ?_
    refine wcons12 (fun K hK => ?_) AllReadyH.nil
    go_simp
    refine (pick_any z m (by omega) (by omega) hz1 hz2 _).mono ?_
    rintro e w2 ⟨e4, k, hk, rfl⟩
    obtain rfl := e4.symm
    go_wp2_with fail
    refine hK.out _ _ ⟨b0, b1, b2⟩ (fun _ => ?_)
    clear hK K
    try simp only [Act.put, List.setIfInBounds_toArray, List.set_cons_zero, List.set_cons_succ]
    refine wtake13 (by kernel_rfl) (by kernel_rfl) (by kernel_rfl) (fun _ _ _ h => h) (Or.inl ⟨by rfl, fun W hW => by obtain ⟨z0, z1, z2⟩ := hW; go_simp; try with_reducible rfl⟩) ⟨b0, b1, b2⟩ ?_
    try simp only [Act.put, List.setIfInBounds_toArray, List.set_cons_zero, List.set_cons_succ]
    refine wpAnyH_done (by kernel_rfl) ?_ _
    go_wp2_with fail
    go_ret
    exact ⟨⟨k, by omega, rfl⟩, HFd.out, HSd.out⟩

end Go.Proofs.YtdcjogpkogidaaaGreatDoor
