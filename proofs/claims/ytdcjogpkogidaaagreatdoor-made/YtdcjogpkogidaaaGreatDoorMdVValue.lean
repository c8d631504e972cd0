/- How values are read of a text. -/
import Derived.Test.YtdcjogpkogidaaaGreatDoorMdVCase
namespace Go.Proofs.YtdcjogpkogidaaaGreatDoor
open Go.RowKit

theorem ba_nil : ba [] = (⟨#[]⟩ : ByteArray) := rfl

theorem blk4 {w : World} {b : Nat} {x0 x1 x2 x3 : Value} {t : TypeId} (h : w.heap[b]? = some (.cells #[x0, x1, x2, x3] t (0, 0))) : w.cell? ⟨b, 0, none⟩ = some x0 ∧ w.cell? ⟨b, 1, none⟩ = some x1 ∧ w.cell? ⟨b, 2, none⟩ = some x2 ∧ w.cell? ⟨b, 3, none⟩ = some x3 ∧
    w.frozen? ⟨b, 0, none⟩ = false ∧ w.frozen? ⟨b, 1, none⟩ = false ∧ w.frozen? ⟨b, 2, none⟩ = false ∧ w.frozen? ⟨b, 3, none⟩ = false := by
  refine ⟨?_, ?_, ?_, ?_, free_of_heap h, free_of_heap h, free_of_heap h, free_of_heap h⟩ <;> rw [cell_of_heap h] <;> rfl

/-- A world in which the four cells of a block were written. -/
def set4 (w : World) (b : Nat) (c : VC) : World := (((w.setCell ⟨b, 0, none⟩ (.pointer (some c.a))).setCell ⟨b, 1, none⟩ (.int .i64 c.n)).setCell ⟨b, 2, none⟩ (.string (ba c.b))).setCell ⟨b, 3, none⟩ c.sv
theorem set4_at {w : World} {b : Nat} {x0 x1 x2 x3 : Value} {t : TypeId} (h : w.heap[b]? = some (.cells #[x0, x1, x2, x3] t (0, 0))) (c : VC) : (set4 w b c).heap[b]? = some (.cells #[.pointer (some c.a), .int .i64 c.n, .string (ba c.b), c.sv] t (0, 0)) := by
  unfold set4
  rw [heap_setCell_same (heap_setCell_same (heap_setCell_same (heap_setCell_same h)))]
  rfl
theorem Fr.set4 (w : World) (b : Nat) (c : VC) : Fr (One b) w (set4 w b c) :=
  ((Fr.setCell (One b) _ ⟨b, 0, none⟩ _ rfl).trans (Fr.setCell (One b) _ ⟨b, 1, none⟩ _ rfl)).trans ((Fr.setCell (One b) _ ⟨b, 2, none⟩ _ rfl).trans (Fr.setCell (One b) _ ⟨b, 3, none⟩ _ rfl))

/-- X, and the two blocks that a reader of a value lays first. -/
def X2 (X : Nat → Prop) (n : Nat) : Nat → Prop := fun b => X b ∨ b = n ∨ b = n + 1

theorem TR.two {w w' : World} {X : Nat → Prop} {a : Addr} {t : PT} (h : TR w X a t) (hf : Fr Zero w w') : TR w' (X2 X w.heap.size) a t :=
  (h.avoid (Y := X2 X w.heap.size) (fun b hb hx => by rcases hx with hx | hx; exact hx; omega)).keep hf.of0

def zeroO : Obj := .cells #[.pointer none, .int .i64 0, .string ⟨#[]⟩, .slice none 0 0] 96
def firstO (a : Addr) : Obj := .cells #[.pointer (some a), .int .i64 0, .string ⟨#[]⟩, .slice none 0 0] 96

theorem value_fin {ty : TypeId} {w w2 W : World} {X : Nat → Prop} {rb : Nat} {s : ByteArray} {res : Option PV × Bs} {a : Addr} {q : Bool} (c : VC) (hrb : rb < w.heap.size) (_hXlt : ∀ b, X b → b < w.heap.size) (hF2 : Fr (One rb) ((w.alloc zeroO).alloc (firstO a)) w2) (hR2 : RB ty w2 rb s res.2) (hW : Fr (One (w.heap.size + 1)) w2 W)
    (hc : ∃ o n k, c.sv = .slice o n k) (hv : ∀ v, res.1 = some v → VR w2 (X2 X w.heap.size) c v) (hq : res.1.isSome = q) : ValPost ty w X rb s res (.returned (.tuple #[c.val, .bool q])) (set4 W w.heap.size c) := by
  subst hq
  have h0 : Fr (fun b => b = w.heap.size ∨ b = w.heap.size + 1) w2 (set4 W w.heap.size c) := (hW.mono (fun k _ e => .inr e)).trans ((Fr.set4 W w.heap.size c).mono (fun k _ e => .inl e))
  have h1 : Fr (One rb) w w2 := (((Fr.alloc _ _ _).trans (Fr.alloc _ _ _)).trans hF2)
  refine ⟨h1.past (h0.mono (fun k _ e => by rcases e with e | e <;> omega)), hR2.keep h0 (by omega), c, hc, rfl, fun v hx => ?_⟩
  exact ((hv v hx).keep (h0.mono (fun k _ e => .inr e))).avoid (fun b _ hb => .inl hb)
theorem value_keep {w w2 : World} {rb : Nat} {a : Addr} (hrb : rb < w.heap.size) (hF2 : Fr (One rb) ((w.alloc zeroO).alloc (firstO a)) w2) : w2.heap[w.heap.size]? = some (.cells #[.pointer none, .int .i64 0, .string ⟨#[]⟩, .slice none 0 0] 96 (0, 0)) ∧ w2.heap[w.heap.size + 1]? = some (.cells #[.pointer (some a), .int .i64 0, .string ⟨#[]⟩, .slice none 0 0] 96 (0, 0)) :=
  ⟨hF2.keep (by rw [Below.heap_alloc _ _ _ (by simp)]; exact heap_new_at rfl _) (fun e => by have e' : w.heap.size = rb := e; omega), hF2.keep (heap_new_at (by simp) _) (fun e => by have e' : w.heap.size + 1 = rb := e; omega)⟩
/-- The cells that are written last. -/
theorem value_cells {w2 W : World} {n : Nat} {x0 x1 x2 x3 : Value} (hz : w2.heap[n]? = some (.cells #[x0, x1, x2, x3] 96 (0, 0))) (hW : Fr (One (n + 1)) w2 W) (c : VC) : (set4 W n c).cell? ⟨n, 0, none⟩ = some (.pointer (some c.a)) ∧ (set4 W n c).cell? ⟨n, 1, none⟩ = some (.int .i64 c.n) ∧ (set4 W n c).cell? ⟨n, 2, none⟩ = some (.string (ba c.b)) ∧ (set4 W n c).cell? ⟨n, 3, none⟩ = some c.sv := by
  obtain ⟨h1, h2, h3, h4, _⟩ := blk4 (set4_at (hW.keep hz (fun e => by have e' : n = n + 1 := e; omega)) c)
  exact ⟨h1, h2, h3, h4⟩

set_option maxHeartbeats 8000000 in
set_option maxRecDepth 100000 in
theorem value_0 {ty : TypeId} {w : World} {X : Nat → Prop} {rb : Nat} {s : ByteArray} {a : Addr} {l : Bs} {t : PT} (h : RB ty w rb s l) (hX : X rb) (hXlt : ∀ b, X b → b < w.heap.size) (ht : TR w X a t) (hs : s.size ≤ maxLen) (hk : t.kind = 0) :
    Calls Tryz.prog 76 #[.pointer (some ⟨rb, 0, none⟩), .pointer (some a)] w fun e w' => ValPost ty w X rb s ((rUns (mostOf 0) l).1.map (fun (n : Nat) => vNum t n), (rUns (mostOf 0) l).2) e w' := by
  have HR0 : Hid (RB ty ((w.alloc zeroO).alloc (firstO a)) rb s l) := h.keep ((Fr.alloc Zero _ _).trans (Fr.alloc _ _ _)) (fun h => h)
  have hrb := h.lt
  have HX := hide hXlt
  have HTT : Hid (TR ((w.alloc zeroO).alloc (firstO a)) (X2 X w.heap.size) a t) := ht.two ((Fr.alloc Zero _ _).trans (Fr.alloc _ _ _))
  obtain ⟨tb, sv, rows, rfl, htb, htx, hrow, hrx, hnm, hlen, hsub⟩ := ht.open
  have htl := lt_of_heap htb
  have k0 : w.cell? ⟨tb, 0, none⟩ = some (.int .i64 0) := by rw [cell_of_heap htb, hk]; rfl
  clear h hXlt ht htb htx hrow hrx hnm hlen hsub hk
  go_enter Tryz.func76, Tryz.ntmps76
  go_wp2_with fail
  refine (unsigned_any 0 (by omega) HR0 hs).mono ?_

  rintro e w2 ⟨hF2, hR2, m, rfl, hm⟩
  obtain ⟨hz, hv⟩ := value_keep hrb hF2
  obtain ⟨z0, z1, z2, z3, y0, y1, y2, y3⟩ := blk4 hz
  obtain ⟨v0, v1, v2, v3, x0, x1, x2, x3⟩ := blk4 hv
  have HZ := hide hz
  have HR2 := hide hR2
  have HF2 := hide hF2
  have HM := hide hm
  clear hR2 hF2 hm hz hv
  generalize hq : (rUnsI (mostOf 0) l).1.isSome = q at *
  have HQ := hide hq
  clear hq
  go_wp2_with fail
  have hW : Fr (One (w.heap.size + 1)) w2 (w2.setCell ⟨w.heap.size + 1, 1, none⟩ (.int .i64 m)) := Fr.setCell _ _ _ _ rfl
  obtain ⟨c0, c1, c2, c3⟩ := value_cells HZ.out hW (⟨⟨tb, 0, none⟩, m, [], .slice none 0 0⟩ : VC)
  simp only [set4, ba_nil] at c0 c1 c2 c3
  refine bodyPost_ret (v := .tuple #[VC.val (⟨⟨tb, 0, none⟩, m, [], .slice none 0 0⟩ : VC), .bool q]) (by simp [results, Tryz.results76, go_sem, c0, c1, c2, c3, VC.val, ba_nil]) rfl ?_
  exact value_fin (⟨⟨tb, 0, none⟩, m, [], .slice none 0 0⟩ : VC) hrb HX HF2 HR2 hW ⟨_, _, _, rfl⟩ (fun v hx => by simp only [Option.map_eq_some_iff] at hx; obtain ⟨n, hn, rfl⟩ := hx; rw [HM.out n (by rw [rUnsI, hn]; rfl)]; exact VR.leaf (HTT.out.keep (HF2.out.mono (fun k _ e => .inl (by have e' : k = rb := e; rw [e']; exact hX))))) (by rw [← HQ.out]; simp [rUnsI])

set_option maxHeartbeats 8000000 in
set_option maxRecDepth 100000 in
theorem value_1 {ty : TypeId} {w : World} {X : Nat → Prop} {rb : Nat} {s : ByteArray} {a : Addr} {l : Bs} {t : PT} (h : RB ty w rb s l) (hX : X rb) (hXlt : ∀ b, X b → b < w.heap.size) (ht : TR w X a t) (hs : s.size ≤ maxLen) (hk : t.kind = 1) :
    Calls Tryz.prog 76 #[.pointer (some ⟨rb, 0, none⟩), .pointer (some a)] w fun e w' => ValPost ty w X rb s ((rUns (mostOf 1) l).1.map (fun (n : Nat) => vNum t n), (rUns (mostOf 1) l).2) e w' := by
  have HR0 : Hid (RB ty ((w.alloc zeroO).alloc (firstO a)) rb s l) := h.keep ((Fr.alloc Zero _ _).trans (Fr.alloc _ _ _)) (fun h => h)
  have hrb := h.lt
  have HX := hide hXlt
  have HTT : Hid (TR ((w.alloc zeroO).alloc (firstO a)) (X2 X w.heap.size) a t) := ht.two ((Fr.alloc Zero _ _).trans (Fr.alloc _ _ _))
  obtain ⟨tb, sv, rows, rfl, htb, htx, hrow, hrx, hnm, hlen, hsub⟩ := ht.open
  have htl := lt_of_heap htb
  have k0 : w.cell? ⟨tb, 0, none⟩ = some (.int .i64 1) := by rw [cell_of_heap htb, hk]; rfl
  clear h hXlt ht htb htx hrow hrx hnm hlen hsub hk
  go_enter Tryz.func76, Tryz.ntmps76
  go_wp2_with fail
  refine (unsigned_any 1 (by omega) HR0 hs).mono ?_

  rintro e w2 ⟨hF2, hR2, m, rfl, hm⟩
  obtain ⟨hz, hv⟩ := value_keep hrb hF2
  obtain ⟨z0, z1, z2, z3, y0, y1, y2, y3⟩ := blk4 hz
  obtain ⟨v0, v1, v2, v3, x0, x1, x2, x3⟩ := blk4 hv
  have HZ := hide hz
  have HR2 := hide hR2
  have HF2 := hide hF2
  have HM := hide hm
  clear hR2 hF2 hm hz hv
  generalize hq : (rUnsI (mostOf 1) l).1.isSome = q at *
  have HQ := hide hq
  clear hq
  go_wp2_with fail
  have hW : Fr (One (w.heap.size + 1)) w2 (w2.setCell ⟨w.heap.size + 1, 1, none⟩ (.int .i64 m)) := Fr.setCell _ _ _ _ rfl
  obtain ⟨c0, c1, c2, c3⟩ := value_cells HZ.out hW (⟨⟨tb, 0, none⟩, m, [], .slice none 0 0⟩ : VC)
  simp only [set4, ba_nil] at c0 c1 c2 c3
  refine bodyPost_ret (v := .tuple #[VC.val (⟨⟨tb, 0, none⟩, m, [], .slice none 0 0⟩ : VC), .bool q]) (by simp [results, Tryz.results76, go_sem, c0, c1, c2, c3, VC.val, ba_nil]) rfl ?_
  exact value_fin (⟨⟨tb, 0, none⟩, m, [], .slice none 0 0⟩ : VC) hrb HX HF2 HR2 hW ⟨_, _, _, rfl⟩ (fun v hx => by simp only [Option.map_eq_some_iff] at hx; obtain ⟨n, hn, rfl⟩ := hx; rw [HM.out n (by rw [rUnsI, hn]; rfl)]; exact VR.leaf (HTT.out.keep (HF2.out.mono (fun k _ e => .inl (by have e' : k = rb := e; rw [e']; exact hX))))) (by rw [← HQ.out]; simp [rUnsI])

set_option maxHeartbeats 8000000 in
set_option maxRecDepth 100000 in
theorem value_2 {ty : TypeId} {w : World} {X : Nat → Prop} {rb : Nat} {s : ByteArray} {a : Addr} {l : Bs} {t : PT} (h : RB ty w rb s l) (hX : X rb) (hXlt : ∀ b, X b → b < w.heap.size) (ht : TR w X a t) (hs : s.size ≤ maxLen) (hk : t.kind = 2) :
    Calls Tryz.prog 76 #[.pointer (some ⟨rb, 0, none⟩), .pointer (some a)] w fun e w' => ValPost ty w X rb s ((rUns (mostOf 2) l).1.map (fun (n : Nat) => vNum t n), (rUns (mostOf 2) l).2) e w' := by
  have HR0 : Hid (RB ty ((w.alloc zeroO).alloc (firstO a)) rb s l) := h.keep ((Fr.alloc Zero _ _).trans (Fr.alloc _ _ _)) (fun h => h)
  have hrb := h.lt
  have HX := hide hXlt
  have HTT : Hid (TR ((w.alloc zeroO).alloc (firstO a)) (X2 X w.heap.size) a t) := ht.two ((Fr.alloc Zero _ _).trans (Fr.alloc _ _ _))
  obtain ⟨tb, sv, rows, rfl, htb, htx, hrow, hrx, hnm, hlen, hsub⟩ := ht.open
  have htl := lt_of_heap htb
  have k0 : w.cell? ⟨tb, 0, none⟩ = some (.int .i64 2) := by rw [cell_of_heap htb, hk]; rfl
  clear h hXlt ht htb htx hrow hrx hnm hlen hsub hk
  go_enter Tryz.func76, Tryz.ntmps76
  go_wp2_with fail
  refine (unsigned_any 2 (by omega) HR0 hs).mono ?_

  rintro e w2 ⟨hF2, hR2, m, rfl, hm⟩
  obtain ⟨hz, hv⟩ := value_keep hrb hF2
  obtain ⟨z0, z1, z2, z3, y0, y1, y2, y3⟩ := blk4 hz
  obtain ⟨v0, v1, v2, v3, x0, x1, x2, x3⟩ := blk4 hv
  have HZ := hide hz
  have HR2 := hide hR2
  have HF2 := hide hF2
  have HM := hide hm
  clear hR2 hF2 hm hz hv
  generalize hq : (rUnsI (mostOf 2) l).1.isSome = q at *
  have HQ := hide hq
  clear hq
  go_wp2_with fail
  have hW : Fr (One (w.heap.size + 1)) w2 (w2.setCell ⟨w.heap.size + 1, 1, none⟩ (.int .i64 m)) := Fr.setCell _ _ _ _ rfl
  obtain ⟨c0, c1, c2, c3⟩ := value_cells HZ.out hW (⟨⟨tb, 0, none⟩, m, [], .slice none 0 0⟩ : VC)
  simp only [set4, ba_nil] at c0 c1 c2 c3
  refine bodyPost_ret (v := .tuple #[VC.val (⟨⟨tb, 0, none⟩, m, [], .slice none 0 0⟩ : VC), .bool q]) (by simp [results, Tryz.results76, go_sem, c0, c1, c2, c3, VC.val, ba_nil]) rfl ?_
  exact value_fin (⟨⟨tb, 0, none⟩, m, [], .slice none 0 0⟩ : VC) hrb HX HF2 HR2 hW ⟨_, _, _, rfl⟩ (fun v hx => by simp only [Option.map_eq_some_iff] at hx; obtain ⟨n, hn, rfl⟩ := hx; rw [HM.out n (by rw [rUnsI, hn]; rfl)]; exact VR.leaf (HTT.out.keep (HF2.out.mono (fun k _ e => .inl (by have e' : k = rb := e; rw [e']; exact hX))))) (by rw [← HQ.out]; simp [rUnsI])

set_option maxHeartbeats 8000000 in
set_option maxRecDepth 100000 in
theorem value_3 {ty : TypeId} {w : World} {X : Nat → Prop} {rb : Nat} {s : ByteArray} {a : Addr} {l : Bs} {t : PT} (h : RB ty w rb s l) (hX : X rb) (hXlt : ∀ b, X b → b < w.heap.size) (ht : TR w X a t) (hs : s.size ≤ maxLen) (hk : t.kind = 3) :
    Calls Tryz.prog 76 #[.pointer (some ⟨rb, 0, none⟩), .pointer (some a)] w fun e w' => ValPost ty w X rb s ((rSigned l).1.map (vNum t), (rSigned l).2) e w' := by
  have HR0 : Hid (RB ty ((w.alloc zeroO).alloc (firstO a)) rb s l) := h.keep ((Fr.alloc Zero _ _).trans (Fr.alloc _ _ _)) (fun h => h)
  have hrb := h.lt
  have HX := hide hXlt
  have HTT : Hid (TR ((w.alloc zeroO).alloc (firstO a)) (X2 X w.heap.size) a t) := ht.two ((Fr.alloc Zero _ _).trans (Fr.alloc _ _ _))
  obtain ⟨tb, sv, rows, rfl, htb, htx, hrow, hrx, hnm, hlen, hsub⟩ := ht.open
  have htl := lt_of_heap htb
  have k0 : w.cell? ⟨tb, 0, none⟩ = some (.int .i64 3) := by rw [cell_of_heap htb, hk]; rfl
  clear h hXlt ht htb htx hrow hrx hnm hlen hsub hk
  go_enter Tryz.func76, Tryz.ntmps76
  go_wp2_with fail
  refine (signed_any HR0 hs).mono ?_

  rintro e w2 ⟨hF2, hR2, m, rfl, hm⟩
  obtain ⟨hz, hv⟩ := value_keep hrb hF2
  obtain ⟨z0, z1, z2, z3, y0, y1, y2, y3⟩ := blk4 hz
  obtain ⟨v0, v1, v2, v3, x0, x1, x2, x3⟩ := blk4 hv
  have HZ := hide hz
  have HR2 := hide hR2
  have HF2 := hide hF2
  have HM := hide hm
  clear hR2 hF2 hm hz hv
  generalize hq : (rSigned l).1.isSome = q at *
  have HQ := hide hq
  clear hq
  go_wp2_with fail
  have hW : Fr (One (w.heap.size + 1)) w2 (w2.setCell ⟨w.heap.size + 1, 1, none⟩ (.int .i64 m)) := Fr.setCell _ _ _ _ rfl
  obtain ⟨c0, c1, c2, c3⟩ := value_cells HZ.out hW (⟨⟨tb, 0, none⟩, m, [], .slice none 0 0⟩ : VC)
  simp only [set4, ba_nil] at c0 c1 c2 c3
  refine bodyPost_ret (v := .tuple #[VC.val (⟨⟨tb, 0, none⟩, m, [], .slice none 0 0⟩ : VC), .bool q]) (by simp [results, Tryz.results76, go_sem, c0, c1, c2, c3, VC.val, ba_nil]) rfl ?_
  exact value_fin (⟨⟨tb, 0, none⟩, m, [], .slice none 0 0⟩ : VC) hrb HX HF2 HR2 hW ⟨_, _, _, rfl⟩ (fun v hx => by simp only [Option.map_eq_some_iff] at hx; obtain ⟨n, hn, rfl⟩ := hx; rw [HM.out n hn]; exact VR.leaf (HTT.out.keep (HF2.out.mono (fun k _ e => .inl (by have e' : k = rb := e; rw [e']; exact hX))))) (by rw [← HQ.out]; simp)

set_option maxHeartbeats 8000000 in
set_option maxRecDepth 100000 in
theorem value_5 {ty : TypeId} {w : World} {X : Nat → Prop} {rb : Nat} {s : ByteArray} {a : Addr} {l : Bs} {t : PT} (h : RB ty w rb s l) (hX : X rb) (hXlt : ∀ b, X b → b < w.heap.size) (ht : TR w X a t) (hs : s.size ≤ maxLen) (hk : t.kind = 5) :
    Calls Tryz.prog 76 #[.pointer (some ⟨rb, 0, none⟩), .pointer (some a)] w fun e w' => ValPost ty w X rb s ((rQuoted l).1.map (vBytes t), (rQuoted l).2) e w' := by
  have HR0 : Hid (RB ty ((w.alloc zeroO).alloc (firstO a)) rb s l) := h.keep ((Fr.alloc Zero _ _).trans (Fr.alloc _ _ _)) (fun h => h)
  have hrb := h.lt
  have HX := hide hXlt
  have HTT : Hid (TR ((w.alloc zeroO).alloc (firstO a)) (X2 X w.heap.size) a t) := ht.two ((Fr.alloc Zero _ _).trans (Fr.alloc _ _ _))
  obtain ⟨tb, sv, rows, rfl, htb, htx, hrow, hrx, hnm, hlen, hsub⟩ := ht.open
  have htl := lt_of_heap htb
  have k0 : w.cell? ⟨tb, 0, none⟩ = some (.int .i64 5) := by rw [cell_of_heap htb, hk]; rfl
  clear h hXlt ht htb htx hrow hrx hnm hlen hsub hk
  go_enter Tryz.func76, Tryz.ntmps76
  go_wp2_with fail
  refine (quoted_any HR0 hs).mono ?_

  rintro e w2 ⟨hF2, hR2, m, rfl, hm⟩
  obtain ⟨hz, hv⟩ := value_keep hrb hF2
  obtain ⟨z0, z1, z2, z3, y0, y1, y2, y3⟩ := blk4 hz
  obtain ⟨v0, v1, v2, v3, x0, x1, x2, x3⟩ := blk4 hv
  have HZ := hide hz
  have HR2 := hide hR2
  have HF2 := hide hF2
  have HM := hide hm
  clear hR2 hF2 hm hz hv
  generalize hq : (rQuoted l).1.isSome = q at *
  have HQ := hide hq
  clear hq
  go_wp2_with fail
  have hW : Fr (One (w.heap.size + 1)) w2 (w2.setCell ⟨w.heap.size + 1, 2, none⟩ (.string m)) := Fr.setCell _ _ _ _ rfl
  obtain ⟨c0, c1, c2, c3⟩ := value_cells HZ.out hW (⟨⟨tb, 0, none⟩, 0, m.data.toList, .slice none 0 0⟩ : VC)
  simp only [set4, ba_data] at c0 c1 c2 c3
  refine bodyPost_ret (v := .tuple #[VC.val (⟨⟨tb, 0, none⟩, 0, m.data.toList, .slice none 0 0⟩ : VC), .bool q]) (by simp [results, Tryz.results76, go_sem, c0, c1, c2, c3, VC.val, ba_data]) rfl ?_
  exact value_fin (⟨⟨tb, 0, none⟩, 0, m.data.toList, .slice none 0 0⟩ : VC) hrb HX HF2 HR2 hW ⟨_, _, _, rfl⟩ (fun v hx => by simp only [Option.map_eq_some_iff] at hx; obtain ⟨n, hn, rfl⟩ := hx; rw [HM.out n hn, ba_list]; exact VR.leaf (HTT.out.keep (HF2.out.mono (fun k _ e => .inl (by have e' : k = rb := e; rw [e']; exact hX))))) (by rw [← HQ.out]; simp)

set_option maxHeartbeats 8000000 in
set_option maxRecDepth 100000 in
theorem value_6 {ty : TypeId} {w : World} {X : Nat → Prop} {rb : Nat} {s : ByteArray} {a : Addr} {l : Bs} {t : PT} (h : RB ty w rb s l) (hX : X rb) (hXlt : ∀ b, X b → b < w.heap.size) (ht : TR w X a t) (hs : s.size ≤ maxLen) (hk : t.kind = 6) :
    Calls Tryz.prog 76 #[.pointer (some ⟨rb, 0, none⟩), .pointer (some a)] w fun e w' => ValPost ty w X rb s ((rHexa l).1.map (vBytes t), (rHexa l).2) e w' := by
  have HR0 : Hid (RB ty ((w.alloc zeroO).alloc (firstO a)) rb s l) := h.keep ((Fr.alloc Zero _ _).trans (Fr.alloc _ _ _)) (fun h => h)
  have hrb := h.lt
  have HX := hide hXlt
  have HTT : Hid (TR ((w.alloc zeroO).alloc (firstO a)) (X2 X w.heap.size) a t) := ht.two ((Fr.alloc Zero _ _).trans (Fr.alloc _ _ _))
  obtain ⟨tb, sv, rows, rfl, htb, htx, hrow, hrx, hnm, hlen, hsub⟩ := ht.open
  have htl := lt_of_heap htb
  have k0 : w.cell? ⟨tb, 0, none⟩ = some (.int .i64 6) := by rw [cell_of_heap htb, hk]; rfl
  clear h hXlt ht htb htx hrow hrx hnm hlen hsub hk
  go_enter Tryz.func76, Tryz.ntmps76
  go_wp2_with fail
  refine (hexadecimal_any HR0 hs).mono ?_

  rintro e w2 ⟨hF2, hR2, m, rfl, hm⟩
  obtain ⟨hz, hv⟩ := value_keep hrb hF2
  obtain ⟨z0, z1, z2, z3, y0, y1, y2, y3⟩ := blk4 hz
  obtain ⟨v0, v1, v2, v3, x0, x1, x2, x3⟩ := blk4 hv
  have HZ := hide hz
  have HR2 := hide hR2
  have HF2 := hide hF2
  have HM := hide hm
  clear hR2 hF2 hm hz hv
  generalize hq : (rHexa l).1.isSome = q at *
  have HQ := hide hq
  clear hq
  go_wp2_with fail
  have hW : Fr (One (w.heap.size + 1)) w2 (w2.setCell ⟨w.heap.size + 1, 2, none⟩ (.string m)) := Fr.setCell _ _ _ _ rfl
  obtain ⟨c0, c1, c2, c3⟩ := value_cells HZ.out hW (⟨⟨tb, 0, none⟩, 0, m.data.toList, .slice none 0 0⟩ : VC)
  simp only [set4, ba_data] at c0 c1 c2 c3
  refine bodyPost_ret (v := .tuple #[VC.val (⟨⟨tb, 0, none⟩, 0, m.data.toList, .slice none 0 0⟩ : VC), .bool q]) (by simp [results, Tryz.results76, go_sem, c0, c1, c2, c3, VC.val, ba_data]) rfl ?_
  exact value_fin (⟨⟨tb, 0, none⟩, 0, m.data.toList, .slice none 0 0⟩ : VC) hrb HX HF2 HR2 hW ⟨_, _, _, rfl⟩ (fun v hx => by simp only [Option.map_eq_some_iff] at hx; obtain ⟨n, hn, rfl⟩ := hx; rw [HM.out n hn, ba_list]; exact VR.leaf (HTT.out.keep (HF2.out.mono (fun k _ e => .inl (by have e' : k = rb := e; rw [e']; exact hX))))) (by rw [← HQ.out]; simp)

theorem X2.lt {w w' : World} {X : Nat → Prop} (h : ∀ b, X b → b < w.heap.size) (hs : w.heap.size + 2 ≤ w'.heap.size) : ∀ b, X2 X w.heap.size b → b < w'.heap.size := fun b hb => by
  rcases hb with hb | hb
  · have := h b hb; omega
  · omega
theorem X2.no {n : Nat} {X : Nat → Prop} (h : ∀ b, X b → b < n) {g : Nat} (hg : n + 2 ≤ g) : ¬ X2 X n g := fun hb => by
  rcases hb with hb | hb
  · have := h g hb; omega
  · omega
theorem own_some {w : World} {e : TypeId} {size : Nat} {v : Value} {n : Nat} {xs : List Value} (h : w.ownsRow 0 e size v n xs) (h0 : 0 < n) : ∃ g cap, v = .slice (some ⟨g, 0, none⟩) n cap := by
  rcases h.2 with ⟨_, hz⟩ | ⟨g, cap, cur, rfl, _⟩
  · omega
  · exact ⟨g, cap, rfl⟩
theorem own_words {w : World} {g : Nat} (h : w.heap[g]? = some (.cells #[.string ⟨#[110, 111]⟩, .string ⟨#[121, 101, 115]⟩] 9 (0, 0))) : w.ownsRow 0 9 1 (.slice (some ⟨g, 0, none⟩) 2 2) 2 (sCells [wNo, wYes]) :=
  ⟨rfl, .inr ⟨g, 2, _, rfl, Nat.zero_le _, h, by omega, by decide, rfl, rfl⟩⟩

set_option maxHeartbeats 8000000 in
set_option maxRecDepth 100000 in
theorem value_4 {ty : TypeId} {w : World} {X : Nat → Prop} {rb : Nat} {s : ByteArray} {a : Addr} {l : Bs} {t : PT} (h : RB ty w rb s l) (hX : X rb) (hXlt : ∀ b, X b → b < w.heap.size) (ht : TR w X a t) (hs : s.size ≤ maxLen) (hk : t.kind = 4) :
    Calls Tryz.prog 76 #[.pointer (some ⟨rb, 0, none⟩), .pointer (some a)] w fun e w' => ValPost ty w X rb s ((rOne [wNo, wYes] [] l).1.map (fun (n : Nat) => vNum t n), (rOne [wNo, wYes] [] l).2) e w' := by
  have HR0 : Hid (RB ty ((w.alloc zeroO).alloc (firstO a)) rb s l) := h.keep ((Fr.alloc Zero _ _).trans (Fr.alloc _ _ _)) (fun h => h)
  have hrb := h.lt
  have HX := hide hXlt
  have HTT : Hid (TR ((w.alloc zeroO).alloc (firstO a)) (X2 X w.heap.size) a t) := ht.two ((Fr.alloc Zero _ _).trans (Fr.alloc _ _ _))
  obtain ⟨tb, sv, rows, rfl, htb, htx, hrow, hrx, hnm, hlen, hsub⟩ := ht.open
  have htl := lt_of_heap htb
  have k0 : w.cell? ⟨tb, 0, none⟩ = some (.int .i64 4) := by rw [cell_of_heap htb, hk]; rfl
  have HR1 : Hid (RB ty (((w.alloc zeroO).alloc (firstO ⟨tb, 0, none⟩)).alloc (.cells #[.string ⟨#[110, 111]⟩, .string ⟨#[121, 101, 115]⟩] 9)) rb s l) := HR0.out.keep (Fr.alloc Zero _ _) (fun h => h)
  clear h hXlt ht htb htx hrow hrx hnm hlen hsub hk
  go_enter Tryz.func76, Tryz.ntmps76
  go_wp2_with fail
  refine (oneOf_at (w.heap.size + 2) 2 2 [wNo, wYes] rfl (by decide) (by decide) (own_words (heap_new_at (by simp) _)) (by omega) HR1 hs).mono ?_

  rintro e w2 ⟨hF1, hR2, m, rfl, hm⟩
  have hF2 : Fr (One rb) ((w.alloc zeroO).alloc (firstO ⟨tb, 0, none⟩)) w2 := (Fr.alloc _ _ _).trans hF1
  clear hF1
  obtain ⟨hz, hv⟩ := value_keep hrb hF2
  obtain ⟨z0, z1, z2, z3, y0, y1, y2, y3⟩ := blk4 hz
  obtain ⟨v0, v1, v2, v3, x0, x1, x2, x3⟩ := blk4 hv
  have HZ := hide hz
  have HR2 := hide hR2
  have HF2 := hide hF2
  have HM := hide hm
  clear hR2 hF2 hm hz hv
  generalize hq : (Option.map Int.ofNat (rOne [wNo, wYes] [] l).1).isSome = q at *
  have HQ := hide hq
  clear hq
  go_wp2_with fail
  have hW : Fr (One (w.heap.size + 1)) w2 (w2.setCell ⟨w.heap.size + 1, 1, none⟩ (.int .i64 m)) := Fr.setCell _ _ _ _ rfl
  obtain ⟨c0, c1, c2, c3⟩ := value_cells HZ.out hW (⟨⟨tb, 0, none⟩, m, [], .slice none 0 0⟩ : VC)
  simp only [set4, ba_nil] at c0 c1 c2 c3
  refine bodyPost_ret (v := .tuple #[VC.val (⟨⟨tb, 0, none⟩, m, [], .slice none 0 0⟩ : VC), .bool q]) (by simp [results, Tryz.results76, go_sem, c0, c1, c2, c3, VC.val, ba_nil]) rfl ?_
  exact value_fin (⟨⟨tb, 0, none⟩, m, [], .slice none 0 0⟩ : VC) hrb HX HF2 HR2 hW ⟨_, _, _, rfl⟩ (fun v hx => by simp only [Option.map_eq_some_iff] at hx; obtain ⟨n, hn, rfl⟩ := hx; rw [HM.out n (by rw [hn]; rfl)]; exact VR.leaf (HTT.out.keep (HF2.out.mono (fun k _ e => .inl (by have e' : k = rb := e; rw [e']; exact hX))))) (by rw [← HQ.out]; simp)

set_option maxHeartbeats 8000000 in
set_option maxRecDepth 100000 in
theorem value_7 {ty : TypeId} {w : World} {X : Nat → Prop} {rb : Nat} {s : ByteArray} {a : Addr} {l : Bs} {t : PT} {k : Nat} (hW : WFT (k + 1) t) (hT : ∀ u ∈ t.subs, Said ty 76 (rText k) u s) (h : RB ty w rb s l) (hX : X rb) (hXlt : ∀ b, X b → b < w.heap.size) (ht : TR w X a t) (hs : s.size ≤ maxLen) (hk : t.kind = 7) :
    Calls Tryz.prog 76 #[.pointer (some ⟨rb, 0, none⟩), .pointer (some a)] w fun e w' => ValPost ty w X rb s ((rList (rText k (t.sub 0)) l).1.map (vParts t 0), (rList (rText k (t.sub 0)) l).2) e w' := by
  have HR0 : Hid (RB ty ((w.alloc zeroO).alloc (firstO a)) rb s l) := h.keep ((Fr.alloc Zero _ _).trans (Fr.alloc _ _ _)) (fun h => h)
  have hrb := h.lt
  have HX := hide hXlt
  have HTT : Hid (TR ((w.alloc zeroO).alloc (firstO a)) (X2 X w.heap.size) a t) := ht.two ((Fr.alloc Zero _ _).trans (Fr.alloc _ _ _))
  obtain ⟨tb, sv, rows, rfl, htb, htx, hrow, hrx, hnm, hlen, hsub⟩ := ht.open
  have htl := lt_of_heap htb
  have k0 : w.cell? ⟨tb, 0, none⟩ = some (.int .i64 7) := by rw [cell_of_heap htb, hk]; rfl
  have h1 : t.subs.length = 1 := hW.2.2.2.2.1 (by omega)
  obtain ⟨pg, pcap, rfl⟩ := own_some hrow (by omega)
  have hr1 : rows.length = 1 := by omega
  rw [hr1] at htb hrow
  have k1 : w.cell? ⟨tb, 1, none⟩ = some (.slice (some ⟨pg, 0, none⟩) 1 pcap) := by rw [cell_of_heap htb]; rfl
  obtain ⟨p, hp⟩ : ∃ p, rows[0]? = some p := ⟨rows[0]'(by omega), by simp⟩
  have hpl : pg < w.heap.size := (hrow.lt pg rfl).2
  have kp : w.cell? ⟨pg, 1, none⟩ = some (.pointer (some p.2)) := by rw [hrow.cellAt 1 (by omega)]; exact (rowCells_get rows 0 p hp).2
  have HTU : Hid (TR ((w.alloc zeroO).alloc (firstO ⟨tb, 0, none⟩)) (X2 X w.heap.size) p.2 (t.sub 0)) := (hsub 0 p _ hp (PT.sub_some (by omega))).two ((Fr.alloc Zero _ _).trans (Fr.alloc _ _ _))
  have HTS : Hid (Said ty 76 (rText k) (t.sub 0) s) := hT _ (List.mem_of_getElem? (PT.sub_some (by omega)))
  clear h hXlt ht htb htx hrow hrx hnm hlen hsub hk hT hW h1 hr1 hp
  go_enter Tryz.func76, Tryz.ntmps76
  go_wp2_with fail
  refine (list_any HTS HR0 (.inl hX) (X2.lt HX (by simp)) HTU hs).mono ?_

  rintro e w2 ⟨hF2, hR2, m, ⟨o, n, j, rfl⟩, rfl, hm⟩
  obtain ⟨hz, hv⟩ := value_keep hrb hF2
  obtain ⟨z0, z1, z2, z3, y0, y1, y2, y3⟩ := blk4 hz
  obtain ⟨v0, v1, v2, v3, x0, x1, x2, x3⟩ := blk4 hv
  have HZ := hide hz
  have HR2 := hide hR2
  have HF2 := hide hF2
  have HM := hide hm
  clear hR2 hF2 hm hz hv
  generalize hq : (rList (rText k (t.sub 0)) l).1.isSome = q at *
  have HQ := hide hq
  clear hq
  go_wp2_with fail
  have hW : Fr (One (w.heap.size + 1)) w2 (w2.setCell ⟨w.heap.size + 1, 3, none⟩ (.slice o n j)) := Fr.setCell _ _ _ _ rfl
  obtain ⟨c0, c1, c2, c3⟩ := value_cells HZ.out hW (⟨⟨tb, 0, none⟩, 0, [], .slice o n j⟩ : VC)
  simp only [set4, ba_nil] at c0 c1 c2 c3
  refine bodyPost_ret (v := .tuple #[VC.val (⟨⟨tb, 0, none⟩, 0, [], .slice o n j⟩ : VC), .bool q]) (by simp [results, Tryz.results76, go_sem, c0, c1, c2, c3, VC.val, ba_nil]) rfl ?_
  exact value_fin (⟨⟨tb, 0, none⟩, 0, [], .slice o n j⟩ : VC) hrb HX HF2 HR2 hW ⟨_, _, _, rfl⟩ (fun v hx => by simp only [Option.map_eq_some_iff] at hx; obtain ⟨vs, hn, rfl⟩ := hx; obtain ⟨rows', hO, hg, hL⟩ := HM.out vs hn; exact VR.make (HTT.out.keep (HF2.out.mono (fun k _ e => .inl (by have e' : k = rb := e; rw [e']; exact hX)))) rfl rfl hO (fun g hg' => X2.no HX (by have := hg g hg'; simpa using this)) (hL.avoid (fun b _ hb => .inl hb))) (by rw [← HQ.out]; simp)

set_option maxHeartbeats 8000000 in
set_option maxRecDepth 100000 in
theorem value_8 {ty : TypeId} {w : World} {X : Nat → Prop} {rb : Nat} {s : ByteArray} {a : Addr} {l : Bs} {t : PT} {k : Nat} (hW : WFT (k + 1) t) (hT : ∀ u ∈ t.subs, Said ty 76 (rText k) u s) (h : RB ty w rb s l) (hX : X rb) (hXlt : ∀ b, X b → b < w.heap.size) (ht : TR w X a t) (hs : s.size ≤ maxLen) (hk : t.kind = 8) :
    Calls Tryz.prog 76 #[.pointer (some ⟨rb, 0, none⟩), .pointer (some a)] w fun e w' => ValPost ty w X rb s ((rOpt (rText k (t.sub 0)) l).1.map (vParts t 0), (rOpt (rText k (t.sub 0)) l).2) e w' := by
  have HR0 : Hid (RB ty ((w.alloc zeroO).alloc (firstO a)) rb s l) := h.keep ((Fr.alloc Zero _ _).trans (Fr.alloc _ _ _)) (fun h => h)
  have hrb := h.lt
  have HX := hide hXlt
  have HTT : Hid (TR ((w.alloc zeroO).alloc (firstO a)) (X2 X w.heap.size) a t) := ht.two ((Fr.alloc Zero _ _).trans (Fr.alloc _ _ _))
  obtain ⟨tb, sv, rows, rfl, htb, htx, hrow, hrx, hnm, hlen, hsub⟩ := ht.open
  have htl := lt_of_heap htb
  have k0 : w.cell? ⟨tb, 0, none⟩ = some (.int .i64 8) := by rw [cell_of_heap htb, hk]; rfl
  have h1 : t.subs.length = 1 := hW.2.2.2.2.1 (by omega)
  obtain ⟨pg, pcap, rfl⟩ := own_some hrow (by omega)
  have hr1 : rows.length = 1 := by omega
  rw [hr1] at htb hrow
  have k1 : w.cell? ⟨tb, 1, none⟩ = some (.slice (some ⟨pg, 0, none⟩) 1 pcap) := by rw [cell_of_heap htb]; rfl
  obtain ⟨p, hp⟩ : ∃ p, rows[0]? = some p := ⟨rows[0]'(by omega), by simp⟩
  have hpl : pg < w.heap.size := (hrow.lt pg rfl).2
  have kp : w.cell? ⟨pg, 1, none⟩ = some (.pointer (some p.2)) := by rw [hrow.cellAt 1 (by omega)]; exact (rowCells_get rows 0 p hp).2
  have HTU : Hid (TR ((w.alloc zeroO).alloc (firstO ⟨tb, 0, none⟩)) (X2 X w.heap.size) p.2 (t.sub 0)) := (hsub 0 p _ hp (PT.sub_some (by omega))).two ((Fr.alloc Zero _ _).trans (Fr.alloc _ _ _))
  have HTS : Hid (Said ty 76 (rText k) (t.sub 0) s) := hT _ (List.mem_of_getElem? (PT.sub_some (by omega)))
  clear h hXlt ht htb htx hrow hrx hnm hlen hsub hk hT hW h1 hr1 hp
  go_enter Tryz.func76, Tryz.ntmps76
  go_wp2_with fail
  refine (option_any HTS HR0 (.inl hX) (X2.lt HX (by simp)) HTU hs).mono ?_

  rintro e w2 ⟨hF2, hR2, m, ⟨o, n, j, rfl⟩, rfl, hm⟩
  obtain ⟨hz, hv⟩ := value_keep hrb hF2
  obtain ⟨z0, z1, z2, z3, y0, y1, y2, y3⟩ := blk4 hz
  obtain ⟨v0, v1, v2, v3, x0, x1, x2, x3⟩ := blk4 hv
  have HZ := hide hz
  have HR2 := hide hR2
  have HF2 := hide hF2
  have HM := hide hm
  clear hR2 hF2 hm hz hv
  generalize hq : (rOpt (rText k (t.sub 0)) l).1.isSome = q at *
  have HQ := hide hq
  clear hq
  go_wp2_with fail
  have hW : Fr (One (w.heap.size + 1)) w2 (w2.setCell ⟨w.heap.size + 1, 3, none⟩ (.slice o n j)) := Fr.setCell _ _ _ _ rfl
  obtain ⟨c0, c1, c2, c3⟩ := value_cells HZ.out hW (⟨⟨tb, 0, none⟩, 0, [], .slice o n j⟩ : VC)
  simp only [set4, ba_nil] at c0 c1 c2 c3
  refine bodyPost_ret (v := .tuple #[VC.val (⟨⟨tb, 0, none⟩, 0, [], .slice o n j⟩ : VC), .bool q]) (by simp [results, Tryz.results76, go_sem, c0, c1, c2, c3, VC.val, ba_nil]) rfl ?_
  exact value_fin (⟨⟨tb, 0, none⟩, 0, [], .slice o n j⟩ : VC) hrb HX HF2 HR2 hW ⟨_, _, _, rfl⟩ (fun v hx => by simp only [Option.map_eq_some_iff] at hx; obtain ⟨vs, hn, rfl⟩ := hx; obtain ⟨rows', hO, hg, hL⟩ := HM.out vs hn; exact VR.make (HTT.out.keep (HF2.out.mono (fun k _ e => .inl (by have e' : k = rb := e; rw [e']; exact hX)))) rfl rfl hO (fun g hg' => X2.no HX (by have := hg g hg'; simpa using this)) (hL.avoid (fun b _ hb => .inl hb))) (by rw [← HQ.out]; simp)

set_option maxHeartbeats 8000000 in
set_option maxRecDepth 100000 in
theorem value_9 {ty : TypeId} {w : World} {X : Nat → Prop} {rb : Nat} {s : ByteArray} {a : Addr} {l : Bs} {t : PT} {k : Nat} (hW : WFT (k + 1) t) (hT : ∀ u ∈ t.subs, Said ty 76 (rText k) u s) (h : RB ty w rb s l) (hX : X rb) (hXlt : ∀ b, X b → b < w.heap.size) (ht : TR w X a t) (hs : s.size ≤ maxLen) (hk : t.kind = 9) :
    Calls Tryz.prog 76 #[.pointer (some ⟨rb, 0, none⟩), .pointer (some a)] w fun e w' => ValPost ty w X rb s ((rFields (rText k) t.subs 123 [] l).1.map (vParts t 0), (rFields (rText k) t.subs 123 [] l).2) e w' := by
  have HR0 : Hid (RB ty ((w.alloc zeroO).alloc (firstO a)) rb s l) := h.keep ((Fr.alloc Zero _ _).trans (Fr.alloc _ _ _)) (fun h => h)
  have hrb := h.lt
  have HX := hide hXlt
  have HTT : Hid (TR ((w.alloc zeroO).alloc (firstO a)) (X2 X w.heap.size) a t) := ht.two ((Fr.alloc Zero _ _).trans (Fr.alloc _ _ _))
  obtain ⟨tb, sv, rows, rfl, htb, htx, hrow, hrx, hnm, hlen, hsub⟩ := ht.open
  have htl := lt_of_heap htb
  have k0 : w.cell? ⟨tb, 0, none⟩ = some (.int .i64 9) := by rw [cell_of_heap htb, hk]; rfl
  have h1 : 0 < t.subs.length := hW.2.2.2.1 (by omega)
  have h6 := hW.2.2.2.2.2.1.1
  obtain ⟨pg, pcap, rfl⟩ := own_some hrow (by omega)
  have k1 : w.cell? ⟨tb, 1, none⟩ = some (.slice (some ⟨pg, 0, none⟩) rows.length pcap) := by rw [cell_of_heap htb]; rfl
  have hpl : pg < w.heap.size := (hrow.lt pg rfl).2
  have hpx : ¬ X2 X w.heap.size pg := fun hb => by
    rcases hb with hb | hb
    · exact hrx pg rfl hb
    · omega
  have HPX := hide hpx
  have HOW : Hid (((w.alloc zeroO).alloc (firstO ⟨tb, 0, none⟩)).ownsRow 0 146 2 (.slice (some ⟨pg, 0, none⟩) rows.length pcap) rows.length (rowCells rows)) := (hrow.alloc _).alloc _
  have HTU : Hid (∀ (j : Nat) (p : ByteArray × Addr) (u : PT), rows[j]? = some p → t.subs[j]? = some u → TR ((w.alloc zeroO).alloc (firstO ⟨tb, 0, none⟩)) (X2 X w.heap.size) p.2 u) := fun j p u hp hu => (hsub j p u hp hu).two ((Fr.alloc Zero _ _).trans (Fr.alloc _ _ _))
  have HLEN := hide hlen
  have HT := hide hT
  clear h hXlt ht htb htx hrow hrx hnm hlen hsub hk hT hW h1 hpx
  go_enter Tryz.func76, Tryz.ntmps76
  go_wp2_with fail
  refine (record_row pg pcap rows HT HR0 (.inl hX) (X2.lt HX (by simp)) HOW HPX HLEN h6 HTU hs).mono ?_

  rintro e w2 ⟨hF2, hR2, m, ⟨o, n, j, rfl⟩, rfl, hm⟩
  obtain ⟨hz, hv⟩ := value_keep hrb hF2
  obtain ⟨z0, z1, z2, z3, y0, y1, y2, y3⟩ := blk4 hz
  obtain ⟨v0, v1, v2, v3, x0, x1, x2, x3⟩ := blk4 hv
  have HZ := hide hz
  have HR2 := hide hR2
  have HF2 := hide hF2
  have HM := hide hm
  clear hR2 hF2 hm hz hv
  generalize hq : (rFields (rText k) t.subs 123 [] l).1.isSome = q at *
  have HQ := hide hq
  clear hq
  go_wp2_with fail
  have hW : Fr (One (w.heap.size + 1)) w2 (w2.setCell ⟨w.heap.size + 1, 3, none⟩ (.slice o n j)) := Fr.setCell _ _ _ _ rfl
  obtain ⟨c0, c1, c2, c3⟩ := value_cells HZ.out hW (⟨⟨tb, 0, none⟩, 0, [], .slice o n j⟩ : VC)
  simp only [set4, ba_nil] at c0 c1 c2 c3
  refine bodyPost_ret (v := .tuple #[VC.val (⟨⟨tb, 0, none⟩, 0, [], .slice o n j⟩ : VC), .bool q]) (by simp [results, Tryz.results76, go_sem, c0, c1, c2, c3, VC.val, ba_nil]) rfl ?_
  exact value_fin (⟨⟨tb, 0, none⟩, 0, [], .slice o n j⟩ : VC) hrb HX HF2 HR2 hW ⟨_, _, _, rfl⟩ (fun v hx => by simp only [Option.map_eq_some_iff] at hx; obtain ⟨vs, hn, rfl⟩ := hx; obtain ⟨rows', hO, hg, hL⟩ := HM.out vs hn; exact VR.make (HTT.out.keep (HF2.out.mono (fun k _ e => .inl (by have e' : k = rb := e; rw [e']; exact hX)))) rfl rfl hO (fun g hg' => X2.no HX (by have := hg g hg'; simpa using this)) (hL.avoid (fun b _ hb => .inl hb))) (by rw [← HQ.out]; simp)

set_option maxHeartbeats 8000000 in
set_option maxRecDepth 100000 in
theorem value_10 {ty : TypeId} {w : World} {X : Nat → Prop} {rb : Nat} {s : ByteArray} {a : Addr} {l : Bs} {t : PT} {k : Nat} (hW : WFT (k + 1) t) (hT : ∀ u ∈ t.subs, Said ty 76 (rText k) u s) (h : RB ty w rb s l) (hX : X rb) (hXlt : ∀ b, X b → b < w.heap.size) (ht : TR w X a t) (hs : s.size ≤ maxLen) (hk : t.kind = 10) :
    Calls Tryz.prog 76 #[.pointer (some ⟨rb, 0, none⟩), .pointer (some a)] w fun e w' => ValPost ty w X rb s ((rCase (rText k) t l).1.map (fun p => vParts t p.1 [p.2]), (rCase (rText k) t l).2) e w' := by
  have HR0 : Hid (RB ty ((w.alloc zeroO).alloc (firstO a)) rb s l) := h.keep ((Fr.alloc Zero _ _).trans (Fr.alloc _ _ _)) (fun h => h)
  have hrb := h.lt
  have HX := hide hXlt
  have HTT : Hid (TR ((w.alloc zeroO).alloc (firstO a)) (X2 X w.heap.size) a t) := ht.two ((Fr.alloc Zero _ _).trans (Fr.alloc _ _ _))
  obtain ⟨tb, sv, rows, rfl, htb, htx, hrow, hrx, hnm, hlen, hsub⟩ := ht.open
  have htl := lt_of_heap htb
  have k0 : w.cell? ⟨tb, 0, none⟩ = some (.int .i64 10) := by rw [cell_of_heap htb, hk]; rfl
  have h1 : 0 < t.subs.length := hW.2.2.2.1 (by omega)
  have h6 := hW.2.2.2.2.2.1.1
  obtain ⟨pg, pcap, rfl⟩ := own_some hrow (by omega)
  have k1 : w.cell? ⟨tb, 1, none⟩ = some (.slice (some ⟨pg, 0, none⟩) rows.length pcap) := by rw [cell_of_heap htb]; rfl
  have hpl : pg < w.heap.size := (hrow.lt pg rfl).2
  have hpx : ¬ X2 X w.heap.size pg := fun hb => by
    rcases hb with hb | hb
    · exact hrx pg rfl hb
    · omega
  have HPX := hide hpx
  have HOW : Hid (((w.alloc zeroO).alloc (firstO ⟨tb, 0, none⟩)).ownsRow 0 146 2 (.slice (some ⟨pg, 0, none⟩) rows.length pcap) rows.length (rowCells rows)) := (hrow.alloc _).alloc _
  have HTU : Hid (∀ (j : Nat) (p : ByteArray × Addr) (u : PT), rows[j]? = some p → t.subs[j]? = some u → TR ((w.alloc zeroO).alloc (firstO ⟨tb, 0, none⟩)) (X2 X w.heap.size) p.2 u) := fun j p u hp hu => (hsub j p u hp hu).two ((Fr.alloc Zero _ _).trans (Fr.alloc _ _ _))
  have HLEN := hide hlen
  have HT := hide hT
  have HNM := hide hnm
  have HNS : Hid (∀ p ∈ rows, p.1.size ≤ 400) := fun p hp => hW.2.2.2.2.2.1.2 p.1 (by rw [← hnm]; exact List.mem_map_of_mem hp)
  have hr0 : 0 < rows.length := by omega
  have hr6 : rows.length ≤ 6 := by omega
  clear h hXlt ht htb htx hrow hrx hnm hlen hsub hk hT hW h1 hpx h6
  go_enter Tryz.func76, Tryz.ntmps76
  go_wp2_with fail
  refine (choice_row pg pcap rows HT HR0 (.inl hX) (X2.lt HX (by simp)) HOW HPX HLEN HNM hr0 hr6 HNS HTU hs).mono ?_

  rintro e w2 ⟨hF2, hR2, m, sv', ⟨o, n, j, rfl⟩, rfl, hm⟩
  obtain ⟨hz, hv⟩ := value_keep hrb hF2
  obtain ⟨z0, z1, z2, z3, y0, y1, y2, y3⟩ := blk4 hz
  obtain ⟨v0, v1, v2, v3, x0, x1, x2, x3⟩ := blk4 hv
  have HZ := hide hz
  have HR2 := hide hR2
  have HF2 := hide hF2
  have HM := hide hm
  clear hR2 hF2 hm hz hv
  generalize hq : (rCase (rText k) t l).1.isSome = q at *
  have HQ := hide hq
  clear hq
  go_wp2_with fail
  have hW : Fr (One (w.heap.size + 1)) w2 ((w2.setCell ⟨w.heap.size + 1, 1, none⟩ (.int .i64 m)).setCell ⟨w.heap.size + 1, 3, none⟩ (.slice o n j)) := (Fr.setCell (One (w.heap.size + 1)) _ ⟨w.heap.size + 1, 1, none⟩ _ rfl).trans (Fr.setCell (One (w.heap.size + 1)) _ ⟨w.heap.size + 1, 3, none⟩ _ rfl)
  obtain ⟨c0, c1, c2, c3⟩ := value_cells HZ.out hW (⟨⟨tb, 0, none⟩, m, [], .slice o n j⟩ : VC)
  simp only [set4, ba_nil] at c0 c1 c2 c3
  refine bodyPost_ret (v := .tuple #[VC.val (⟨⟨tb, 0, none⟩, m, [], .slice o n j⟩ : VC), .bool q]) (by simp [results, Tryz.results76, go_sem, c0, c1, c2, c3, VC.val, ba_nil]) rfl ?_
  exact value_fin (⟨⟨tb, 0, none⟩, m, [], .slice o n j⟩ : VC) hrb HX HF2 HR2 hW ⟨_, _, _, rfl⟩ (fun v hx => by simp only [Option.map_eq_some_iff] at hx; obtain ⟨⟨i, v'⟩, hn, rfl⟩ := hx; obtain ⟨rfl, rows', hO, hg, hL⟩ := HM.out i v' hn; exact VR.make (HTT.out.keep (HF2.out.mono (fun k _ e => .inl (by have e' : k = rb := e; rw [e']; exact hX)))) rfl rfl hO (fun g hg' => X2.no HX (by have := hg g hg'; simpa using this)) (hL.avoid (fun b _ hb => .inl hb))) (by rw [← HQ.out]; simp)

/-- A value of every type. -/
theorem value_all {ty : TypeId} {s : ByteArray} (hs : s.size ≤ maxLen) : ∀ (k : Nat) (t : PT), WFT k t → Said ty 76 (rText k) t s := by
  intro k
  induction k with
  | zero => intro t h; exact h.elim
  | succ k ih =>
    intro t hW w X rb a l h hX hXlt ht
    have hT : ∀ u ∈ t.subs, Said ty 76 (rText k) u s := fun u hu => ih u (hW.2.2.1 u hu)
    have h10 := hW.1
    simp only [rText]
    rcases hk : t.kind with _ | _ | _ | _ | _ | _ | _ | _ | _ | _ | _ | m
    · exact value_0 h hX hXlt ht hs hk
    · exact value_1 h hX hXlt ht hs hk
    · exact value_2 h hX hXlt ht hs hk
    · exact value_3 h hX hXlt ht hs hk
    · exact value_4 h hX hXlt ht hs hk
    · exact value_5 h hX hXlt ht hs hk
    · exact value_6 h hX hXlt ht hs hk
    · exact value_7 hW hT h hX hXlt ht hs hk
    · exact value_8 hW hT h hX hXlt ht hs hk
    · exact value_9 hW hT h hX hXlt ht hs hk
    · exact value_10 hW hT h hX hXlt ht hs hk
    · omega

end Go.Proofs.YtdcjogpkogidaaaGreatDoor
