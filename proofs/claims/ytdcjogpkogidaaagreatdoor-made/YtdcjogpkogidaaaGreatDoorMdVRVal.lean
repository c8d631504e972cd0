/- How every value is read of a message. -/
import Derived.Test.YtdcjogpkogidaaaGreatDoorMdVRead
namespace Go.Proofs.YtdcjogpkogidaaaGreatDoor
open Go.RowKit

set_option maxHeartbeats 8000000 in
set_option maxRecDepth 100000 in
theorem rvalue_0 {ty : TypeId} {w : World} {X : Nat → Prop} {rb : Nat} {s : ByteArray} {a : Addr} {l : Bs} {t : PT} (h : RB ty w rb s l) (hX : X rb) (hXlt : ∀ b, X b → b < w.heap.size) (ht : TR w X a t) (hs : s.size ≤ maxLen) (hk : t.kind = 0) :
    Calls Tryz.prog 87 #[.pointer (some ⟨rb, 0, none⟩), .pointer (some a)] w fun e w' => ValPost ty w X rb s ((mTake (widthOf 0) l).1.map (fun b => vNum t (leNat b)), (mTake (widthOf 0) l).2) e w' := by
  have HR0 : Hid (RB ty ((w.alloc zeroO).alloc (firstO a)) rb s l) := h.keep ((Fr.alloc Zero _ _).trans (Fr.alloc _ _ _)) (fun h => h)
  have hrb := h.lt
  have HX := hide hXlt
  have HTT : Hid (TR ((w.alloc zeroO).alloc (firstO a)) (X2 X w.heap.size) a t) := ht.two ((Fr.alloc Zero _ _).trans (Fr.alloc _ _ _))
  obtain ⟨tb, sv, rows, rfl, htb, htx, hrow, hrx, hnm, hlen, hsub⟩ := ht.open
  have htl := lt_of_heap htb
  have k0 : w.cell? ⟨tb, 0, none⟩ = some (.int .i64 0) := by rw [cell_of_heap htb, hk]; rfl
  clear h hXlt ht htb htx hrow hrx hnm hlen hsub hk
  go_enter Tryz.func87, Tryz.ntmps87
  go_wp2_with fail
  refine (width_k 0 (by omega) _).mono ?_

  rintro e w1 ⟨rfl, e1⟩
  obtain rfl := e1.symm
  go_wp2_with fail
  refine (lowestR_any (widthOf 0) (by decide) HR0 hs).mono ?_
  rintro e w2 ⟨hF2, hR2, m, rfl, hm⟩
  obtain ⟨hz, hv⟩ := value_keep hrb hF2
  obtain ⟨z0, z1, z2, z3, y0, y1, y2, y3⟩ := blk4 hz
  obtain ⟨v0, v1, v2, v3, x0, x1, x2, x3⟩ := blk4 hv
  have HZ := hide hz
  have HR2 := hide hR2
  have HF2 := hide hF2
  have HM := hide hm
  clear hR2 hF2 hm hz hv
  generalize hq : (Option.map (fun b => (leNat b : Int)) (mTake (widthOf 0) l).1).isSome = q at *
  have HQ := hide hq
  clear hq
  go_wp2_with fail
  have hW : Fr (One (w.heap.size + 1)) w2 (w2.setCell ⟨w.heap.size + 1, 1, none⟩ (.int .i64 m)) := Fr.setCell _ _ _ _ rfl
  obtain ⟨c0, c1, c2, c3⟩ := value_cells HZ.out hW (⟨⟨tb, 0, none⟩, m, [], .slice none 0 0⟩ : VC)
  simp only [set4, ba_nil] at c0 c1 c2 c3
  refine bodyPost_ret (v := .tuple #[VC.val (⟨⟨tb, 0, none⟩, m, [], .slice none 0 0⟩ : VC), .bool q]) (by simp [results, Tryz.results87, go_sem, c0, c1, c2, c3, VC.val, ba_nil]) rfl ?_
  exact value_fin (⟨⟨tb, 0, none⟩, m, [], .slice none 0 0⟩ : VC) hrb HX HF2 HR2 hW ⟨_, _, _, rfl⟩ (fun v hx => by simp only [Option.map_eq_some_iff] at hx; obtain ⟨b, hn, rfl⟩ := hx; rw [HM.out (leNat b) (by rw [hn]; rfl)]; exact VR.leaf (HTT.out.keep (HF2.out.mono (fun k _ e => .inl (by have e' : k = rb := e; rw [e']; exact hX))))) (by rw [← HQ.out]; simp)

set_option maxHeartbeats 8000000 in
set_option maxRecDepth 100000 in
theorem rvalue_1 {ty : TypeId} {w : World} {X : Nat → Prop} {rb : Nat} {s : ByteArray} {a : Addr} {l : Bs} {t : PT} (h : RB ty w rb s l) (hX : X rb) (hXlt : ∀ b, X b → b < w.heap.size) (ht : TR w X a t) (hs : s.size ≤ maxLen) (hk : t.kind = 1) :
    Calls Tryz.prog 87 #[.pointer (some ⟨rb, 0, none⟩), .pointer (some a)] w fun e w' => ValPost ty w X rb s ((mTake (widthOf 1) l).1.map (fun b => vNum t (leNat b)), (mTake (widthOf 1) l).2) e w' := by
  have HR0 : Hid (RB ty ((w.alloc zeroO).alloc (firstO a)) rb s l) := h.keep ((Fr.alloc Zero _ _).trans (Fr.alloc _ _ _)) (fun h => h)
  have hrb := h.lt
  have HX := hide hXlt
  have HTT : Hid (TR ((w.alloc zeroO).alloc (firstO a)) (X2 X w.heap.size) a t) := ht.two ((Fr.alloc Zero _ _).trans (Fr.alloc _ _ _))
  obtain ⟨tb, sv, rows, rfl, htb, htx, hrow, hrx, hnm, hlen, hsub⟩ := ht.open
  have htl := lt_of_heap htb
  have k0 : w.cell? ⟨tb, 0, none⟩ = some (.int .i64 1) := by rw [cell_of_heap htb, hk]; rfl
  clear h hXlt ht htb htx hrow hrx hnm hlen hsub hk
  go_enter Tryz.func87, Tryz.ntmps87
  go_wp2_with fail
  refine (width_k 1 (by omega) _).mono ?_

  rintro e w1 ⟨rfl, e1⟩
  obtain rfl := e1.symm
  go_wp2_with fail
  refine (lowestR_any (widthOf 1) (by decide) HR0 hs).mono ?_
  rintro e w2 ⟨hF2, hR2, m, rfl, hm⟩
  obtain ⟨hz, hv⟩ := value_keep hrb hF2
  obtain ⟨z0, z1, z2, z3, y0, y1, y2, y3⟩ := blk4 hz
  obtain ⟨v0, v1, v2, v3, x0, x1, x2, x3⟩ := blk4 hv
  have HZ := hide hz
  have HR2 := hide hR2
  have HF2 := hide hF2
  have HM := hide hm
  clear hR2 hF2 hm hz hv
  generalize hq : (Option.map (fun b => (leNat b : Int)) (mTake (widthOf 1) l).1).isSome = q at *
  have HQ := hide hq
  clear hq
  go_wp2_with fail
  have hW : Fr (One (w.heap.size + 1)) w2 (w2.setCell ⟨w.heap.size + 1, 1, none⟩ (.int .i64 m)) := Fr.setCell _ _ _ _ rfl
  obtain ⟨c0, c1, c2, c3⟩ := value_cells HZ.out hW (⟨⟨tb, 0, none⟩, m, [], .slice none 0 0⟩ : VC)
  simp only [set4, ba_nil] at c0 c1 c2 c3
  refine bodyPost_ret (v := .tuple #[VC.val (⟨⟨tb, 0, none⟩, m, [], .slice none 0 0⟩ : VC), .bool q]) (by simp [results, Tryz.results87, go_sem, c0, c1, c2, c3, VC.val, ba_nil]) rfl ?_
  exact value_fin (⟨⟨tb, 0, none⟩, m, [], .slice none 0 0⟩ : VC) hrb HX HF2 HR2 hW ⟨_, _, _, rfl⟩ (fun v hx => by simp only [Option.map_eq_some_iff] at hx; obtain ⟨b, hn, rfl⟩ := hx; rw [HM.out (leNat b) (by rw [hn]; rfl)]; exact VR.leaf (HTT.out.keep (HF2.out.mono (fun k _ e => .inl (by have e' : k = rb := e; rw [e']; exact hX))))) (by rw [← HQ.out]; simp)

set_option maxHeartbeats 8000000 in
set_option maxRecDepth 100000 in
theorem rvalue_2 {ty : TypeId} {w : World} {X : Nat → Prop} {rb : Nat} {s : ByteArray} {a : Addr} {l : Bs} {t : PT} (h : RB ty w rb s l) (hX : X rb) (hXlt : ∀ b, X b → b < w.heap.size) (ht : TR w X a t) (hs : s.size ≤ maxLen) (hk : t.kind = 2) :
    Calls Tryz.prog 87 #[.pointer (some ⟨rb, 0, none⟩), .pointer (some a)] w fun e w' => ValPost ty w X rb s ((mTake (widthOf 2) l).1.map (fun b => vNum t (leNat b)), (mTake (widthOf 2) l).2) e w' := by
  have HR0 : Hid (RB ty ((w.alloc zeroO).alloc (firstO a)) rb s l) := h.keep ((Fr.alloc Zero _ _).trans (Fr.alloc _ _ _)) (fun h => h)
  have hrb := h.lt
  have HX := hide hXlt
  have HTT : Hid (TR ((w.alloc zeroO).alloc (firstO a)) (X2 X w.heap.size) a t) := ht.two ((Fr.alloc Zero _ _).trans (Fr.alloc _ _ _))
  obtain ⟨tb, sv, rows, rfl, htb, htx, hrow, hrx, hnm, hlen, hsub⟩ := ht.open
  have htl := lt_of_heap htb
  have k0 : w.cell? ⟨tb, 0, none⟩ = some (.int .i64 2) := by rw [cell_of_heap htb, hk]; rfl
  clear h hXlt ht htb htx hrow hrx hnm hlen hsub hk
  go_enter Tryz.func87, Tryz.ntmps87
  go_wp2_with fail
  refine (width_k 2 (by omega) _).mono ?_

  rintro e w1 ⟨rfl, e1⟩
  obtain rfl := e1.symm
  go_wp2_with fail
  refine (lowestR_any (widthOf 2) (by decide) HR0 hs).mono ?_
  rintro e w2 ⟨hF2, hR2, m, rfl, hm⟩
  obtain ⟨hz, hv⟩ := value_keep hrb hF2
  obtain ⟨z0, z1, z2, z3, y0, y1, y2, y3⟩ := blk4 hz
  obtain ⟨v0, v1, v2, v3, x0, x1, x2, x3⟩ := blk4 hv
  have HZ := hide hz
  have HR2 := hide hR2
  have HF2 := hide hF2
  have HM := hide hm
  clear hR2 hF2 hm hz hv
  generalize hq : (Option.map (fun b => (leNat b : Int)) (mTake (widthOf 2) l).1).isSome = q at *
  have HQ := hide hq
  clear hq
  go_wp2_with fail
  have hW : Fr (One (w.heap.size + 1)) w2 (w2.setCell ⟨w.heap.size + 1, 1, none⟩ (.int .i64 m)) := Fr.setCell _ _ _ _ rfl
  obtain ⟨c0, c1, c2, c3⟩ := value_cells HZ.out hW (⟨⟨tb, 0, none⟩, m, [], .slice none 0 0⟩ : VC)
  simp only [set4, ba_nil] at c0 c1 c2 c3
  refine bodyPost_ret (v := .tuple #[VC.val (⟨⟨tb, 0, none⟩, m, [], .slice none 0 0⟩ : VC), .bool q]) (by simp [results, Tryz.results87, go_sem, c0, c1, c2, c3, VC.val, ba_nil]) rfl ?_
  exact value_fin (⟨⟨tb, 0, none⟩, m, [], .slice none 0 0⟩ : VC) hrb HX HF2 HR2 hW ⟨_, _, _, rfl⟩ (fun v hx => by simp only [Option.map_eq_some_iff] at hx; obtain ⟨b, hn, rfl⟩ := hx; rw [HM.out (leNat b) (by rw [hn]; rfl)]; exact VR.leaf (HTT.out.keep (HF2.out.mono (fun k _ e => .inl (by have e' : k = rb := e; rw [e']; exact hX))))) (by rw [← HQ.out]; simp)

set_option maxHeartbeats 8000000 in
set_option maxRecDepth 100000 in
theorem rvalue_3 {ty : TypeId} {w : World} {X : Nat → Prop} {rb : Nat} {s : ByteArray} {a : Addr} {l : Bs} {t : PT} (h : RB ty w rb s l) (hX : X rb) (hXlt : ∀ b, X b → b < w.heap.size) (ht : TR w X a t) (hs : s.size ≤ maxLen) (hk : t.kind = 3) :
    Calls Tryz.prog 87 #[.pointer (some ⟨rb, 0, none⟩), .pointer (some a)] w fun e w' => ValPost ty w X rb s ((mTake 8 l).1.map (fun b => vNum t (toInt64 (beNat b))), (mTake 8 l).2) e w' := by
  have HR0 : Hid (RB ty ((w.alloc zeroO).alloc (firstO a)) rb s l) := h.keep ((Fr.alloc Zero _ _).trans (Fr.alloc _ _ _)) (fun h => h)
  have hrb := h.lt
  have HX := hide hXlt
  have HTT : Hid (TR ((w.alloc zeroO).alloc (firstO a)) (X2 X w.heap.size) a t) := ht.two ((Fr.alloc Zero _ _).trans (Fr.alloc _ _ _))
  obtain ⟨tb, sv, rows, rfl, htb, htx, hrow, hrx, hnm, hlen, hsub⟩ := ht.open
  have htl := lt_of_heap htb
  have k0 : w.cell? ⟨tb, 0, none⟩ = some (.int .i64 3) := by rw [cell_of_heap htb, hk]; rfl
  clear h hXlt ht htb htx hrow hrx hnm hlen hsub hk
  go_enter Tryz.func87, Tryz.ntmps87
  go_wp2_with fail
  refine (highestR_any HR0 hs).mono ?_

  rintro e w2 ⟨hF2, hR2, m, rfl, hm⟩
  obtain ⟨hz, hv⟩ := value_keep hrb hF2
  obtain ⟨z0, z1, z2, z3, y0, y1, y2, y3⟩ := blk4 hz
  obtain ⟨v0, v1, v2, v3, x0, x1, x2, x3⟩ := blk4 hv
  have HZ := hide hz
  have HR2 := hide hR2
  have HF2 := hide hF2
  have HM := hide hm
  clear hR2 hF2 hm hz hv
  generalize hq : (Option.map (fun b => toInt64 (beNat b)) (mTake 8 l).1).isSome = q at *
  have HQ := hide hq
  clear hq
  go_wp2_with fail
  have hW : Fr (One (w.heap.size + 1)) w2 (w2.setCell ⟨w.heap.size + 1, 1, none⟩ (.int .i64 m)) := Fr.setCell _ _ _ _ rfl
  obtain ⟨c0, c1, c2, c3⟩ := value_cells HZ.out hW (⟨⟨tb, 0, none⟩, m, [], .slice none 0 0⟩ : VC)
  simp only [set4, ba_nil] at c0 c1 c2 c3
  refine bodyPost_ret (v := .tuple #[VC.val (⟨⟨tb, 0, none⟩, m, [], .slice none 0 0⟩ : VC), .bool q]) (by simp [results, Tryz.results87, go_sem, c0, c1, c2, c3, VC.val, ba_nil]) rfl ?_
  exact value_fin (⟨⟨tb, 0, none⟩, m, [], .slice none 0 0⟩ : VC) hrb HX HF2 HR2 hW ⟨_, _, _, rfl⟩ (fun v hx => by simp only [Option.map_eq_some_iff] at hx; obtain ⟨b, hn, rfl⟩ := hx; rw [HM.out (toInt64 (beNat b)) (by rw [hn]; rfl)]; exact VR.leaf (HTT.out.keep (HF2.out.mono (fun k _ e => .inl (by have e' : k = rb := e; rw [e']; exact hX))))) (by rw [← HQ.out]; simp)

set_option maxHeartbeats 8000000 in
set_option maxRecDepth 100000 in
theorem rvalue_4 {ty : TypeId} {w : World} {X : Nat → Prop} {rb : Nat} {s : ByteArray} {a : Addr} {l : Bs} {t : PT} (h : RB ty w rb s l) (hX : X rb) (hXlt : ∀ b, X b → b < w.heap.size) (ht : TR w X a t) (hs : s.size ≤ maxLen) (hk : t.kind = 4) :
    Calls Tryz.prog 87 #[.pointer (some ⟨rb, 0, none⟩), .pointer (some a)] w fun e w' => ValPost ty w X rb s ((mBelow 2 l).1.map (fun (n : Nat) => vNum t n), (mBelow 2 l).2) e w' := by
  have HR0 : Hid (RB ty ((w.alloc zeroO).alloc (firstO a)) rb s l) := h.keep ((Fr.alloc Zero _ _).trans (Fr.alloc _ _ _)) (fun h => h)
  have hrb := h.lt
  have HX := hide hXlt
  have HTT : Hid (TR ((w.alloc zeroO).alloc (firstO a)) (X2 X w.heap.size) a t) := ht.two ((Fr.alloc Zero _ _).trans (Fr.alloc _ _ _))
  obtain ⟨tb, sv, rows, rfl, htb, htx, hrow, hrx, hnm, hlen, hsub⟩ := ht.open
  have htl := lt_of_heap htb
  have k0 : w.cell? ⟨tb, 0, none⟩ = some (.int .i64 4) := by rw [cell_of_heap htb, hk]; rfl
  clear h hXlt ht htb htx hrow hrx hnm hlen hsub hk
  go_enter Tryz.func87, Tryz.ntmps87
  go_wp2_with fail
  refine (below_any 2 (by omega) (by omega) HR0 hs).mono ?_

  rintro e w2 ⟨hF2, hR2, m, rfl, hm⟩
  obtain ⟨hz, hv⟩ := value_keep hrb hF2
  obtain ⟨z0, z1, z2, z3, y0, y1, y2, y3⟩ := blk4 hz
  obtain ⟨v0, v1, v2, v3, x0, x1, x2, x3⟩ := blk4 hv
  have HZ := hide hz
  have HR2 := hide hR2
  have HF2 := hide hF2
  have HM := hide hm
  clear hR2 hF2 hm hz hv
  generalize hq : (Option.map Int.ofNat (mBelow 2 l).1).isSome = q at *
  have HQ := hide hq
  clear hq
  go_wp2_with fail
  have hW : Fr (One (w.heap.size + 1)) w2 (w2.setCell ⟨w.heap.size + 1, 1, none⟩ (.int .i64 m)) := Fr.setCell _ _ _ _ rfl
  obtain ⟨c0, c1, c2, c3⟩ := value_cells HZ.out hW (⟨⟨tb, 0, none⟩, m, [], .slice none 0 0⟩ : VC)
  simp only [set4, ba_nil] at c0 c1 c2 c3
  refine bodyPost_ret (v := .tuple #[VC.val (⟨⟨tb, 0, none⟩, m, [], .slice none 0 0⟩ : VC), .bool q]) (by simp [results, Tryz.results87, go_sem, c0, c1, c2, c3, VC.val, ba_nil]) rfl ?_
  exact value_fin (⟨⟨tb, 0, none⟩, m, [], .slice none 0 0⟩ : VC) hrb HX HF2 HR2 hW ⟨_, _, _, rfl⟩ (fun v hx => by simp only [Option.map_eq_some_iff] at hx; obtain ⟨n, hn, rfl⟩ := hx; rw [HM.out n (by rw [hn]; rfl)]; exact VR.leaf (HTT.out.keep (HF2.out.mono (fun k _ e => .inl (by have e' : k = rb := e; rw [e']; exact hX))))) (by rw [← HQ.out]; simp)

set_option maxHeartbeats 8000000 in
set_option maxRecDepth 100000 in
theorem rvalue_5 {ty : TypeId} {w : World} {X : Nat → Prop} {rb : Nat} {s : ByteArray} {a : Addr} {l : Bs} {t : PT} (h : RB ty w rb s l) (hX : X rb) (hXlt : ∀ b, X b → b < w.heap.size) (ht : TR w X a t) (hs : s.size ≤ maxLen) (hk : t.kind = 5) :
    Calls Tryz.prog 87 #[.pointer (some ⟨rb, 0, none⟩), .pointer (some a)] w fun e w' => ValPost ty w X rb s ((mText l).1.map (vBytes t), (mText l).2) e w' := by
  have HR0 : Hid (RB ty ((w.alloc zeroO).alloc (firstO a)) rb s l) := h.keep ((Fr.alloc Zero _ _).trans (Fr.alloc _ _ _)) (fun h => h)
  have hrb := h.lt
  have HX := hide hXlt
  have HTT : Hid (TR ((w.alloc zeroO).alloc (firstO a)) (X2 X w.heap.size) a t) := ht.two ((Fr.alloc Zero _ _).trans (Fr.alloc _ _ _))
  obtain ⟨tb, sv, rows, rfl, htb, htx, hrow, hrx, hnm, hlen, hsub⟩ := ht.open
  have htl := lt_of_heap htb
  have k0 : w.cell? ⟨tb, 0, none⟩ = some (.int .i64 5) := by rw [cell_of_heap htb, hk]; rfl
  clear h hXlt ht htb htx hrow hrx hnm hlen hsub hk
  go_enter Tryz.func87, Tryz.ntmps87
  go_wp2_with fail
  refine (textR_any HR0 hs).mono ?_

  rintro e w2 ⟨hF2, hR2, m, rfl, hm⟩
  obtain ⟨hz, hv⟩ := value_keep hrb hF2
  obtain ⟨z0, z1, z2, z3, y0, y1, y2, y3⟩ := blk4 hz
  obtain ⟨v0, v1, v2, v3, x0, x1, x2, x3⟩ := blk4 hv
  have HZ := hide hz
  have HR2 := hide hR2
  have HF2 := hide hF2
  have HM := hide hm
  clear hR2 hF2 hm hz hv
  generalize hq : (mText l).1.isSome = q at *
  have HQ := hide hq
  clear hq
  go_wp2_with fail
  have hW : Fr (One (w.heap.size + 1)) w2 (w2.setCell ⟨w.heap.size + 1, 2, none⟩ (.string m)) := Fr.setCell _ _ _ _ rfl
  obtain ⟨c0, c1, c2, c3⟩ := value_cells HZ.out hW (⟨⟨tb, 0, none⟩, 0, m.data.toList, .slice none 0 0⟩ : VC)
  simp only [set4, ba_data] at c0 c1 c2 c3
  refine bodyPost_ret (v := .tuple #[VC.val (⟨⟨tb, 0, none⟩, 0, m.data.toList, .slice none 0 0⟩ : VC), .bool q]) (by simp [results, Tryz.results87, go_sem, c0, c1, c2, c3, VC.val, ba_data]) rfl ?_
  exact value_fin (⟨⟨tb, 0, none⟩, 0, m.data.toList, .slice none 0 0⟩ : VC) hrb HX HF2 HR2 hW ⟨_, _, _, rfl⟩ (fun v hx => by simp only [Option.map_eq_some_iff] at hx; obtain ⟨n, hn, rfl⟩ := hx; rw [HM.out n hn, ba_list]; exact VR.leaf (HTT.out.keep (HF2.out.mono (fun k _ e => .inl (by have e' : k = rb := e; rw [e']; exact hX))))) (by rw [← HQ.out]; simp)

set_option maxHeartbeats 8000000 in
set_option maxRecDepth 100000 in
theorem rvalue_6 {ty : TypeId} {w : World} {X : Nat → Prop} {rb : Nat} {s : ByteArray} {a : Addr} {l : Bs} {t : PT} (h : RB ty w rb s l) (hX : X rb) (hXlt : ∀ b, X b → b < w.heap.size) (ht : TR w X a t) (hs : s.size ≤ maxLen) (hk : t.kind = 6) :
    Calls Tryz.prog 87 #[.pointer (some ⟨rb, 0, none⟩), .pointer (some a)] w fun e w' => ValPost ty w X rb s ((mBytes l).1.map (vBytes t), (mBytes l).2) e w' := by
  have HR0 : Hid (RB ty ((w.alloc zeroO).alloc (firstO a)) rb s l) := h.keep ((Fr.alloc Zero _ _).trans (Fr.alloc _ _ _)) (fun h => h)
  have hrb := h.lt
  have HX := hide hXlt
  have HTT : Hid (TR ((w.alloc zeroO).alloc (firstO a)) (X2 X w.heap.size) a t) := ht.two ((Fr.alloc Zero _ _).trans (Fr.alloc _ _ _))
  obtain ⟨tb, sv, rows, rfl, htb, htx, hrow, hrx, hnm, hlen, hsub⟩ := ht.open
  have htl := lt_of_heap htb
  have k0 : w.cell? ⟨tb, 0, none⟩ = some (.int .i64 6) := by rw [cell_of_heap htb, hk]; rfl
  clear h hXlt ht htb htx hrow hrx hnm hlen hsub hk
  go_enter Tryz.func87, Tryz.ntmps87
  go_wp2_with fail
  refine (bytesR_any HR0 hs).mono ?_

  rintro e w2 ⟨hF2, hR2, m, rfl, hm⟩
  obtain ⟨hz, hv⟩ := value_keep hrb hF2
  obtain ⟨z0, z1, z2, z3, y0, y1, y2, y3⟩ := blk4 hz
  obtain ⟨v0, v1, v2, v3, x0, x1, x2, x3⟩ := blk4 hv
  have HZ := hide hz
  have HR2 := hide hR2
  have HF2 := hide hF2
  have HM := hide hm
  clear hR2 hF2 hm hz hv
  generalize hq : (mBytes l).1.isSome = q at *
  have HQ := hide hq
  clear hq
  go_wp2_with fail
  have hW : Fr (One (w.heap.size + 1)) w2 (w2.setCell ⟨w.heap.size + 1, 2, none⟩ (.string m)) := Fr.setCell _ _ _ _ rfl
  obtain ⟨c0, c1, c2, c3⟩ := value_cells HZ.out hW (⟨⟨tb, 0, none⟩, 0, m.data.toList, .slice none 0 0⟩ : VC)
  simp only [set4, ba_data] at c0 c1 c2 c3
  refine bodyPost_ret (v := .tuple #[VC.val (⟨⟨tb, 0, none⟩, 0, m.data.toList, .slice none 0 0⟩ : VC), .bool q]) (by simp [results, Tryz.results87, go_sem, c0, c1, c2, c3, VC.val, ba_data]) rfl ?_
  exact value_fin (⟨⟨tb, 0, none⟩, 0, m.data.toList, .slice none 0 0⟩ : VC) hrb HX HF2 HR2 hW ⟨_, _, _, rfl⟩ (fun v hx => by simp only [Option.map_eq_some_iff] at hx; obtain ⟨n, hn, rfl⟩ := hx; rw [HM.out n hn, ba_list]; exact VR.leaf (HTT.out.keep (HF2.out.mono (fun k _ e => .inl (by have e' : k = rb := e; rw [e']; exact hX))))) (by rw [← HQ.out]; simp)

set_option maxHeartbeats 8000000 in
set_option maxRecDepth 100000 in
theorem rvalue_7 {ty : TypeId} {w : World} {X : Nat → Prop} {rb : Nat} {s : ByteArray} {a : Addr} {l : Bs} {t : PT} {k : Nat} (hW : WFT (k + 1) t) (hT : ∀ u ∈ t.subs, Said ty 87 (rMsg k) u s) (h : RB ty w rb s l) (hX : X rb) (hXlt : ∀ b, X b → b < w.heap.size) (ht : TR w X a t) (hs : s.size ≤ maxLen) (hk : t.kind = 7) :
    Calls Tryz.prog 87 #[.pointer (some ⟨rb, 0, none⟩), .pointer (some a)] w fun e w' => ValPost ty w X rb s ((mList (rMsg k (t.sub 0)) l).1.map (vParts t 0), (mList (rMsg k (t.sub 0)) l).2) e w' := by
  have HR0 : Hid (RB ty ((w.alloc zeroO).alloc (firstO a)) rb s l) := h.keep ((Fr.alloc Zero _ _).trans (Fr.alloc _ _ _)) (fun h => h)
  have hrb := h.lt
  have HX := hide hXlt
  have HTT : Hid (TR ((w.alloc zeroO).alloc (firstO a)) (X2 X w.heap.size) a t) := ht.two ((Fr.alloc Zero _ _).trans (Fr.alloc _ _ _))
  obtain ⟨tb, sv, rows, rfl, htb, htx, hrow, hrx, hnm, hlen, hsub⟩ := ht.open
  have htl := lt_of_heap htb
  have k0 : w.cell? ⟨tb, 0, none⟩ = some (.int .i64 7) := by rw [cell_of_heap htb, hk]; rfl
  have h1 : t.subs.length = 1 := hW.2.2.2.2.1 (by omega)
  obtain ⟨pg, pcap, rfl⟩ := own_some hrow (by omega)
  have hr1 : rows.length = 1 := by omega
  rw [hr1] at htb hrow
  have k1 : w.cell? ⟨tb, 1, none⟩ = some (.slice (some ⟨pg, 0, none⟩) 1 pcap) := by rw [cell_of_heap htb]; rfl
  obtain ⟨p, hp⟩ : ∃ p, rows[0]? = some p := ⟨rows[0]'(by omega), by simp⟩
  have hpl : pg < w.heap.size := (hrow.lt pg rfl).2
  have kp : w.cell? ⟨pg, 1, none⟩ = some (.pointer (some p.2)) := by rw [hrow.cellAt 1 (by omega)]; exact (rowCells_get rows 0 p hp).2
  have HTU : Hid (TR ((w.alloc zeroO).alloc (firstO ⟨tb, 0, none⟩)) (X2 X w.heap.size) p.2 (t.sub 0)) := (hsub 0 p _ hp (PT.sub_some (by omega))).two ((Fr.alloc Zero _ _).trans (Fr.alloc _ _ _))
  have HTS : Hid (Said ty 87 (rMsg k) (t.sub 0) s) := hT _ (List.mem_of_getElem? (PT.sub_some (by omega)))
  clear h hXlt ht htb htx hrow hrx hnm hlen hsub hk hT hW h1 hr1 hp
  go_enter Tryz.func87, Tryz.ntmps87
  go_wp2_with fail
  refine (listR_any HTS HR0 (.inl hX) (X2.lt HX (by simp)) HTU hs).mono ?_

  rintro e w2 ⟨hF2, hR2, m, ⟨o, n, j, rfl⟩, rfl, hm⟩
  obtain ⟨hz, hv⟩ := value_keep hrb hF2
  obtain ⟨z0, z1, z2, z3, y0, y1, y2, y3⟩ := blk4 hz
  obtain ⟨v0, v1, v2, v3, x0, x1, x2, x3⟩ := blk4 hv
  have HZ := hide hz
  have HR2 := hide hR2
  have HF2 := hide hF2
  have HM := hide hm
  clear hR2 hF2 hm hz hv
  generalize hq : (mList (rMsg k (t.sub 0)) l).1.isSome = q at *
  have HQ := hide hq
  clear hq
  go_wp2_with fail
  have hW : Fr (One (w.heap.size + 1)) w2 (w2.setCell ⟨w.heap.size + 1, 3, none⟩ (.slice o n j)) := Fr.setCell _ _ _ _ rfl
  obtain ⟨c0, c1, c2, c3⟩ := value_cells HZ.out hW (⟨⟨tb, 0, none⟩, 0, [], .slice o n j⟩ : VC)
  simp only [set4, ba_nil] at c0 c1 c2 c3
  refine bodyPost_ret (v := .tuple #[VC.val (⟨⟨tb, 0, none⟩, 0, [], .slice o n j⟩ : VC), .bool q]) (by simp [results, Tryz.results87, go_sem, c0, c1, c2, c3, VC.val, ba_nil]) rfl ?_
  exact value_fin (⟨⟨tb, 0, none⟩, 0, [], .slice o n j⟩ : VC) hrb HX HF2 HR2 hW ⟨_, _, _, rfl⟩ (fun v hx => by simp only [Option.map_eq_some_iff] at hx; obtain ⟨vs, hn, rfl⟩ := hx; obtain ⟨rows', hO, hg, hL⟩ := HM.out vs hn; exact VR.make (HTT.out.keep (HF2.out.mono (fun k _ e => .inl (by have e' : k = rb := e; rw [e']; exact hX)))) rfl rfl hO (fun g hg' => X2.no HX (by have := hg g hg'; simpa using this)) (hL.avoid (fun b _ hb => .inl hb))) (by rw [← HQ.out]; simp)

set_option maxHeartbeats 8000000 in
set_option maxRecDepth 100000 in
theorem rvalue_8 {ty : TypeId} {w : World} {X : Nat → Prop} {rb : Nat} {s : ByteArray} {a : Addr} {l : Bs} {t : PT} {k : Nat} (hW : WFT (k + 1) t) (hT : ∀ u ∈ t.subs, Said ty 87 (rMsg k) u s) (h : RB ty w rb s l) (hX : X rb) (hXlt : ∀ b, X b → b < w.heap.size) (ht : TR w X a t) (hs : s.size ≤ maxLen) (hk : t.kind = 8) :
    Calls Tryz.prog 87 #[.pointer (some ⟨rb, 0, none⟩), .pointer (some a)] w fun e w' => ValPost ty w X rb s ((mOpt (rMsg k (t.sub 0)) l).1.map (vParts t 0), (mOpt (rMsg k (t.sub 0)) l).2) e w' := by
  have HR0 : Hid (RB ty ((w.alloc zeroO).alloc (firstO a)) rb s l) := h.keep ((Fr.alloc Zero _ _).trans (Fr.alloc _ _ _)) (fun h => h)
  have hrb := h.lt
  have HX := hide hXlt
  have HTT : Hid (TR ((w.alloc zeroO).alloc (firstO a)) (X2 X w.heap.size) a t) := ht.two ((Fr.alloc Zero _ _).trans (Fr.alloc _ _ _))
  obtain ⟨tb, sv, rows, rfl, htb, htx, hrow, hrx, hnm, hlen, hsub⟩ := ht.open
  have htl := lt_of_heap htb
  have k0 : w.cell? ⟨tb, 0, none⟩ = some (.int .i64 8) := by rw [cell_of_heap htb, hk]; rfl
  have h1 : t.subs.length = 1 := hW.2.2.2.2.1 (by omega)
  obtain ⟨pg, pcap, rfl⟩ := own_some hrow (by omega)
  have hr1 : rows.length = 1 := by omega
  rw [hr1] at htb hrow
  have k1 : w.cell? ⟨tb, 1, none⟩ = some (.slice (some ⟨pg, 0, none⟩) 1 pcap) := by rw [cell_of_heap htb]; rfl
  obtain ⟨p, hp⟩ : ∃ p, rows[0]? = some p := ⟨rows[0]'(by omega), by simp⟩
  have hpl : pg < w.heap.size := (hrow.lt pg rfl).2
  have kp : w.cell? ⟨pg, 1, none⟩ = some (.pointer (some p.2)) := by rw [hrow.cellAt 1 (by omega)]; exact (rowCells_get rows 0 p hp).2
  have HTU : Hid (TR ((w.alloc zeroO).alloc (firstO ⟨tb, 0, none⟩)) (X2 X w.heap.size) p.2 (t.sub 0)) := (hsub 0 p _ hp (PT.sub_some (by omega))).two ((Fr.alloc Zero _ _).trans (Fr.alloc _ _ _))
  have HTS : Hid (Said ty 87 (rMsg k) (t.sub 0) s) := hT _ (List.mem_of_getElem? (PT.sub_some (by omega)))
  clear h hXlt ht htb htx hrow hrx hnm hlen hsub hk hT hW h1 hr1 hp
  go_enter Tryz.func87, Tryz.ntmps87
  go_wp2_with fail
  refine (optionR_any HTS HR0 (.inl hX) (X2.lt HX (by simp)) HTU hs).mono ?_

  rintro e w2 ⟨hF2, hR2, m, ⟨o, n, j, rfl⟩, rfl, hm⟩
  obtain ⟨hz, hv⟩ := value_keep hrb hF2
  obtain ⟨z0, z1, z2, z3, y0, y1, y2, y3⟩ := blk4 hz
  obtain ⟨v0, v1, v2, v3, x0, x1, x2, x3⟩ := blk4 hv
  have HZ := hide hz
  have HR2 := hide hR2
  have HF2 := hide hF2
  have HM := hide hm
  clear hR2 hF2 hm hz hv
  generalize hq : (mOpt (rMsg k (t.sub 0)) l).1.isSome = q at *
  have HQ := hide hq
  clear hq
  go_wp2_with fail
  have hW : Fr (One (w.heap.size + 1)) w2 (w2.setCell ⟨w.heap.size + 1, 3, none⟩ (.slice o n j)) := Fr.setCell _ _ _ _ rfl
  obtain ⟨c0, c1, c2, c3⟩ := value_cells HZ.out hW (⟨⟨tb, 0, none⟩, 0, [], .slice o n j⟩ : VC)
  simp only [set4, ba_nil] at c0 c1 c2 c3
  refine bodyPost_ret (v := .tuple #[VC.val (⟨⟨tb, 0, none⟩, 0, [], .slice o n j⟩ : VC), .bool q]) (by simp [results, Tryz.results87, go_sem, c0, c1, c2, c3, VC.val, ba_nil]) rfl ?_
  exact value_fin (⟨⟨tb, 0, none⟩, 0, [], .slice o n j⟩ : VC) hrb HX HF2 HR2 hW ⟨_, _, _, rfl⟩ (fun v hx => by simp only [Option.map_eq_some_iff] at hx; obtain ⟨vs, hn, rfl⟩ := hx; obtain ⟨rows', hO, hg, hL⟩ := HM.out vs hn; exact VR.make (HTT.out.keep (HF2.out.mono (fun k _ e => .inl (by have e' : k = rb := e; rw [e']; exact hX)))) rfl rfl hO (fun g hg' => X2.no HX (by have := hg g hg'; simpa using this)) (hL.avoid (fun b _ hb => .inl hb))) (by rw [← HQ.out]; simp)

set_option maxHeartbeats 8000000 in
set_option maxRecDepth 100000 in
theorem rvalue_9 {ty : TypeId} {w : World} {X : Nat → Prop} {rb : Nat} {s : ByteArray} {a : Addr} {l : Bs} {t : PT} {k : Nat} (hW : WFT (k + 1) t) (hT : ∀ u ∈ t.subs, Said ty 87 (rMsg k) u s) (h : RB ty w rb s l) (hX : X rb) (hXlt : ∀ b, X b → b < w.heap.size) (ht : TR w X a t) (_hs : s.size ≤ maxLen) (hk : t.kind = 9) :
    Calls Tryz.prog 87 #[.pointer (some ⟨rb, 0, none⟩), .pointer (some a)] w fun e w' => ValPost ty w X rb s ((mFields (rMsg k) t.subs [] l).1.map (vParts t 0), (mFields (rMsg k) t.subs [] l).2) e w' := by
  have HR0 : Hid (RB ty ((w.alloc zeroO).alloc (firstO a)) rb s l) := h.keep ((Fr.alloc Zero _ _).trans (Fr.alloc _ _ _)) (fun h => h)
  have hrb := h.lt
  have HX := hide hXlt
  have HTT : Hid (TR ((w.alloc zeroO).alloc (firstO a)) (X2 X w.heap.size) a t) := ht.two ((Fr.alloc Zero _ _).trans (Fr.alloc _ _ _))
  obtain ⟨tb, sv, rows, rfl, htb, htx, hrow, hrx, hnm, hlen, hsub⟩ := ht.open
  have htl := lt_of_heap htb
  have k0 : w.cell? ⟨tb, 0, none⟩ = some (.int .i64 9) := by rw [cell_of_heap htb, hk]; rfl
  have h1 : 0 < t.subs.length := hW.2.2.2.1 (by omega)
  have h6 := hW.2.2.2.2.2.1.1
  obtain ⟨pg, pcap, rfl⟩ := own_some hrow (by omega)
  have k1 : w.cell? ⟨tb, 1, none⟩ = some (.slice (some ⟨pg, 0, none⟩) rows.length pcap) := by rw [cell_of_heap htb]; rfl
  have hpl : pg < w.heap.size := (hrow.lt pg rfl).2
  have hpx : ¬ X2 X w.heap.size pg := fun hb => by
    rcases hb with hb | hb
    · exact hrx pg rfl hb
    · omega
  have HPX := hide hpx
  have HOW : Hid (((w.alloc zeroO).alloc (firstO ⟨tb, 0, none⟩)).ownsRow 0 146 2 (.slice (some ⟨pg, 0, none⟩) rows.length pcap) rows.length (rowCells rows)) := (hrow.alloc _).alloc _
  have HTU : Hid (∀ (j : Nat) (p : ByteArray × Addr) (u : PT), rows[j]? = some p → t.subs[j]? = some u → TR ((w.alloc zeroO).alloc (firstO ⟨tb, 0, none⟩)) (X2 X w.heap.size) p.2 u) := fun j p u hp hu => (hsub j p u hp hu).two ((Fr.alloc Zero _ _).trans (Fr.alloc _ _ _))
  have HLEN := hide hlen
  have HT := hide hT
  clear h hXlt ht htb htx hrow hrx hnm hlen hsub hk hT hW h1 hpx
  go_enter Tryz.func87, Tryz.ntmps87
  go_wp2_with fail
  refine (recordR_row pg pcap rows HT HR0 (.inl hX) (X2.lt HX (by simp)) HOW HPX HLEN h6 HTU).mono ?_

  rintro e w2 ⟨hF2, hR2, m, ⟨o, n, j, rfl⟩, rfl, hm⟩
  obtain ⟨hz, hv⟩ := value_keep hrb hF2
  obtain ⟨z0, z1, z2, z3, y0, y1, y2, y3⟩ := blk4 hz
  obtain ⟨v0, v1, v2, v3, x0, x1, x2, x3⟩ := blk4 hv
  have HZ := hide hz
  have HR2 := hide hR2
  have HF2 := hide hF2
  have HM := hide hm
  clear hR2 hF2 hm hz hv
  generalize hq : (mFields (rMsg k) t.subs [] l).1.isSome = q at *
  have HQ := hide hq
  clear hq
  go_wp2_with fail
  have hW : Fr (One (w.heap.size + 1)) w2 (w2.setCell ⟨w.heap.size + 1, 3, none⟩ (.slice o n j)) := Fr.setCell _ _ _ _ rfl
  obtain ⟨c0, c1, c2, c3⟩ := value_cells HZ.out hW (⟨⟨tb, 0, none⟩, 0, [], .slice o n j⟩ : VC)
  simp only [set4, ba_nil] at c0 c1 c2 c3
  refine bodyPost_ret (v := .tuple #[VC.val (⟨⟨tb, 0, none⟩, 0, [], .slice o n j⟩ : VC), .bool q]) (by simp [results, Tryz.results87, go_sem, c0, c1, c2, c3, VC.val, ba_nil]) rfl ?_
  exact value_fin (⟨⟨tb, 0, none⟩, 0, [], .slice o n j⟩ : VC) hrb HX HF2 HR2 hW ⟨_, _, _, rfl⟩ (fun v hx => by simp only [Option.map_eq_some_iff] at hx; obtain ⟨vs, hn, rfl⟩ := hx; obtain ⟨rows', hO, hg, hL⟩ := HM.out vs hn; exact VR.make (HTT.out.keep (HF2.out.mono (fun k _ e => .inl (by have e' : k = rb := e; rw [e']; exact hX)))) rfl rfl hO (fun g hg' => X2.no HX (by have := hg g hg'; simpa using this)) (hL.avoid (fun b _ hb => .inl hb))) (by rw [← HQ.out]; simp)

set_option maxHeartbeats 8000000 in
set_option maxRecDepth 100000 in
theorem rvalue_10 {ty : TypeId} {w : World} {X : Nat → Prop} {rb : Nat} {s : ByteArray} {a : Addr} {l : Bs} {t : PT} {k : Nat} (hW : WFT (k + 1) t) (hT : ∀ u ∈ t.subs, Said ty 87 (rMsg k) u s) (h : RB ty w rb s l) (hX : X rb) (hXlt : ∀ b, X b → b < w.heap.size) (ht : TR w X a t) (hs : s.size ≤ maxLen) (hk : t.kind = 10) :
    Calls Tryz.prog 87 #[.pointer (some ⟨rb, 0, none⟩), .pointer (some a)] w fun e w' => ValPost ty w X rb s ((mCase (rMsg k) t l).1.map (fun p => vParts t p.1 [p.2]), (mCase (rMsg k) t l).2) e w' := by
  have HR0 : Hid (RB ty ((w.alloc zeroO).alloc (firstO a)) rb s l) := h.keep ((Fr.alloc Zero _ _).trans (Fr.alloc _ _ _)) (fun h => h)
  have hrb := h.lt
  have HX := hide hXlt
  have HTT : Hid (TR ((w.alloc zeroO).alloc (firstO a)) (X2 X w.heap.size) a t) := ht.two ((Fr.alloc Zero _ _).trans (Fr.alloc _ _ _))
  obtain ⟨tb, sv, rows, rfl, htb, htx, hrow, hrx, hnm, hlen, hsub⟩ := ht.open
  have htl := lt_of_heap htb
  have k0 : w.cell? ⟨tb, 0, none⟩ = some (.int .i64 10) := by rw [cell_of_heap htb, hk]; rfl
  have h1 : 0 < t.subs.length := hW.2.2.2.1 (by omega)
  have h6 := hW.2.2.2.2.2.1.1
  obtain ⟨pg, pcap, rfl⟩ := own_some hrow (by omega)
  have k1 : w.cell? ⟨tb, 1, none⟩ = some (.slice (some ⟨pg, 0, none⟩) rows.length pcap) := by rw [cell_of_heap htb]; rfl
  have hpl : pg < w.heap.size := (hrow.lt pg rfl).2
  have hpx : ¬ X2 X w.heap.size pg := fun hb => by
    rcases hb with hb | hb
    · exact hrx pg rfl hb
    · omega
  have HPX := hide hpx
  have HOW : Hid (((w.alloc zeroO).alloc (firstO ⟨tb, 0, none⟩)).ownsRow 0 146 2 (.slice (some ⟨pg, 0, none⟩) rows.length pcap) rows.length (rowCells rows)) := (hrow.alloc _).alloc _
  have HTU : Hid (∀ (j : Nat) (p : ByteArray × Addr) (u : PT), rows[j]? = some p → t.subs[j]? = some u → TR ((w.alloc zeroO).alloc (firstO ⟨tb, 0, none⟩)) (X2 X w.heap.size) p.2 u) := fun j p u hp hu => (hsub j p u hp hu).two ((Fr.alloc Zero _ _).trans (Fr.alloc _ _ _))
  have HLEN := hide hlen
  have HT := hide hT
  have hr0 : 0 < rows.length := by omega
  have hr6 : rows.length ≤ 6 := by omega
  clear h hXlt ht htb htx hrow hrx hnm hlen hsub hk hT hW h1 hpx h6
  go_enter Tryz.func87, Tryz.ntmps87
  go_wp2_with fail
  refine (choiceR_row pg pcap rows HT HR0 (.inl hX) (X2.lt HX (by simp)) HOW HPX HLEN hr0 hr6 HTU hs).mono ?_

  rintro e w2 ⟨hF2, hR2, m, sv', ⟨o, n, j, rfl⟩, rfl, hm⟩
  obtain ⟨hz, hv⟩ := value_keep hrb hF2
  obtain ⟨z0, z1, z2, z3, y0, y1, y2, y3⟩ := blk4 hz
  obtain ⟨v0, v1, v2, v3, x0, x1, x2, x3⟩ := blk4 hv
  have HZ := hide hz
  have HR2 := hide hR2
  have HF2 := hide hF2
  have HM := hide hm
  clear hR2 hF2 hm hz hv
  generalize hq : (mCase (rMsg k) t l).1.isSome = q at *
  have HQ := hide hq
  clear hq
  go_wp2_with fail
  have hW : Fr (One (w.heap.size + 1)) w2 ((w2.setCell ⟨w.heap.size + 1, 1, none⟩ (.int .i64 m)).setCell ⟨w.heap.size + 1, 3, none⟩ (.slice o n j)) := (Fr.setCell (One (w.heap.size + 1)) _ ⟨w.heap.size + 1, 1, none⟩ _ rfl).trans (Fr.setCell (One (w.heap.size + 1)) _ ⟨w.heap.size + 1, 3, none⟩ _ rfl)
  obtain ⟨c0, c1, c2, c3⟩ := value_cells HZ.out hW (⟨⟨tb, 0, none⟩, m, [], .slice o n j⟩ : VC)
  simp only [set4, ba_nil] at c0 c1 c2 c3
  refine bodyPost_ret (v := .tuple #[VC.val (⟨⟨tb, 0, none⟩, m, [], .slice o n j⟩ : VC), .bool q]) (by simp [results, Tryz.results87, go_sem, c0, c1, c2, c3, VC.val, ba_nil]) rfl ?_
  exact value_fin (⟨⟨tb, 0, none⟩, m, [], .slice o n j⟩ : VC) hrb HX HF2 HR2 hW ⟨_, _, _, rfl⟩ (fun v hx => by simp only [Option.map_eq_some_iff] at hx; obtain ⟨⟨i, v'⟩, hn, rfl⟩ := hx; obtain ⟨rfl, rows', hO, hg, hL⟩ := HM.out i v' hn; exact VR.make (HTT.out.keep (HF2.out.mono (fun k _ e => .inl (by have e' : k = rb := e; rw [e']; exact hX)))) rfl rfl hO (fun g hg' => X2.no HX (by have := hg g hg'; simpa using this)) (hL.avoid (fun b _ hb => .inl hb))) (by rw [← HQ.out]; simp)

/-- A value of every type. -/
theorem rvalue_all {ty : TypeId} {s : ByteArray} (hs : s.size ≤ maxLen) : ∀ (k : Nat) (t : PT), WFT k t → Said ty 87 (rMsg k) t s := by
  intro k
  induction k with
  | zero => intro t h; exact h.elim
  | succ k ih =>
    intro t hW w X rb a l h hX hXlt ht
    have hT : ∀ u ∈ t.subs, Said ty 87 (rMsg k) u s := fun u hu => ih u (hW.2.2.1 u hu)
    have h10 := hW.1
    simp only [rMsg]
    rcases hk : t.kind with _ | _ | _ | _ | _ | _ | _ | _ | _ | _ | _ | m
    · exact rvalue_0 h hX hXlt ht hs hk
    · exact rvalue_1 h hX hXlt ht hs hk
    · exact rvalue_2 h hX hXlt ht hs hk
    · exact rvalue_3 h hX hXlt ht hs hk
    · exact rvalue_4 h hX hXlt ht hs hk
    · exact rvalue_5 h hX hXlt ht hs hk
    · exact rvalue_6 h hX hXlt ht hs hk
    · exact rvalue_7 hW hT h hX hXlt ht hs hk
    · exact rvalue_8 hW hT h hX hXlt ht hs hk
    · exact rvalue_9 hW hT h hX hXlt ht hs hk
    · exact rvalue_10 hW hT h hX hXlt ht hs hk
    · omega

end Go.Proofs.YtdcjogpkogidaaaGreatDoor
