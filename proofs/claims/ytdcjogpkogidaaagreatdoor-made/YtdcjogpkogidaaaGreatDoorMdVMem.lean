/- Readers of values, and values, in memory. -/
import Derived.Test.YtdcjogpkogidaaaGreatDoorMdParse
import Derived.Test.YtdcjogpkogidaaaGreatDoorMdVal
namespace Go.Proofs.YtdcjogpkogidaaaGreatDoor
open Go.RowKit

/-! ### What is left of a text -/

def ba (l : Bs) : ByteArray := ⟨l.toArray⟩
def tl (s : ByteArray) (n : Nat) : Bs := s.data.toList.drop n

theorem ba_list (l : Bs) : (ba l).data.toList = l := by simp [ba]
theorem ba_data (s : ByteArray) : ba s.data.toList = s := by apply bytes_data; simp [ba]
theorem ba_size (l : Bs) : (ba l).size = l.length := by show l.toArray.size = _; simp
theorem tl_length (s : ByteArray) (n : Nat) : (tl s n).length = s.size - n := by unfold tl; rw [List.length_drop, Array.length_toList]; rfl
theorem tl_cons {s : ByteArray} {n : Nat} (h : n < s.size) : tl s n = s[n] :: tl s (n + 1) := by
  unfold tl
  rw [List.drop_eq_getElem_cons (by rw [Array.length_toList]; exact h)]
  rfl
theorem tl_drop (s : ByteArray) (n k : Nat) : (tl s n).drop k = tl s (n + k) := by simp [tl, List.drop_drop]
theorem tl_extract {s : ByteArray} {f n : Nat} {got : Bs} (hf : f ≤ n) (h : tl s f = got ++ tl s n) (hn : n ≤ s.size) : s.extract f n = ba got := by
  apply bytes_data
  rw [ba_list]
  have hl := congrArg List.length h
  rw [List.length_append, tl_length, tl_length] at hl
  have h2 : (tl s f).take (n - f) = got := by
    rw [h, List.take_append_of_le_length (by omega), List.take_of_length_le (by omega)]
  rw [← h2]
  simp only [ByteArray.data_extract, Array.toList_extract, List.extract_eq_take_drop]
  rfl

/-- Where a reader stands that has this left. -/
def pos (s : ByteArray) (l : Bs) : Nat := s.size - l.length

/-- A reader in memory: its bytes, and what is left. -/
structure RB (ty : TypeId) (w : World) (rb : Nat) (s : ByteArray) (l : Bs) : Prop where
  len : l.length ≤ s.size
  tail : tl s (pos s l) = l
  block : w.heap[rb]? = some (.cells #[.int .i64 (pos s l), .string s] ty (0, 0))

section
variable {ty : TypeId} {w w' : World} {rb : Nat} {s : ByteArray} {l : Bs}
theorem RB.at0 (h : RB ty w rb s l) : w.cell? ⟨rb, 0, none⟩ = some (.int .i64 (pos s l)) := by rw [cell_of_heap h.block]; rfl
theorem RB.at1 (h : RB ty w rb s l) : w.cell? ⟨rb, 1, none⟩ = some (.string s) := by rw [cell_of_heap h.block]; rfl
theorem RB.free (h : RB ty w rb s l) (o : Nat) : w.frozen? ⟨rb, o, none⟩ = false := free_of_heap h.block
theorem RB.keep (h : RB ty w rb s l) {X : Nat → Prop} (hf : Fr X w w') (hx : ¬ X rb) : RB ty w' rb s l := ⟨h.len, h.tail, hf.keep h.block hx⟩
theorem RB.drewN (h : RB ty w rb s l) (k : Nat) : RB ty (w.drewN k) rb s l := ⟨h.len, h.tail, h.block⟩
def placeR (rb : Nat) (w : World) : Nat := match w.cell? ⟨rb, 0, none⟩ with | some (.int _ n) => n.toNat | _ => 0
theorem RB.place (h : RB ty w rb s l) : placeR rb w = pos s l := by unfold placeR; rw [h.at0]; simp
theorem RB.lt (h : RB ty w rb s l) : rb < w.heap.size := lt_of_heap h.block
theorem RB.posle (_h : RB ty w rb s l) : pos s l ≤ s.size := Nat.sub_le _ _
theorem RB.next {b : UInt8} {r : Bs} (h : RB ty w rb s (b :: r)) : pos s (b :: r) < s.size ∧ pos s r = pos s (b :: r) + 1 ∧ tl s (pos s r) = r ∧ (∀ hn : pos s (b :: r) < s.size, s[pos s (b :: r)] = b) := by
  have hl := h.len
  have ht := h.tail
  simp only [List.length_cons] at hl
  have hp : pos s (b :: r) < s.size := by simp only [pos, List.length_cons]; omega
  have hp1 : pos s r = pos s (b :: r) + 1 := by simp only [pos, List.length_cons]; omega
  rw [tl_cons hp] at ht
  simp only [List.cons.injEq] at ht
  exact ⟨hp, hp1, by rw [hp1]; exact ht.2, fun _ => ht.1⟩
theorem RB.end (h : RB ty w rb s []) : pos s [] = s.size := by have := h.len; simp [pos]
theorem RB.move {r : Bs} (h : RB ty w rb s l) (hl : r.length ≤ s.size) (ht : tl s (pos s r) = r) : RB ty (w.setCell ⟨rb, 0, none⟩ (.int .i64 (pos s r))) rb s r := by
  refine ⟨hl, ht, ?_⟩
  rw [heap_setCell_same h.block]; rfl
theorem RB.skip {a r : Bs} (h : RB ty w rb s (a ++ r)) : r.length ≤ s.size ∧ tl s (pos s r) = r ∧ pos s r = pos s (a ++ r) + a.length := by
  have hl := h.len
  have ht := h.tail
  rw [List.length_append] at hl
  have hp : pos s r = pos s (a ++ r) + a.length := by simp only [pos, List.length_append]; omega
  refine ⟨by omega, ?_, hp⟩
  rw [hp, ← tl_drop, ht, List.drop_left]

theorem vAccept_yes {r : Bs} (h : RB ty w rb s l) (hs : s.size ≤ maxLen) (c : Nat) (hc : rAcc c l = some r) :
    Calls Tryz.prog 106 #[.pointer (some ⟨rb, 0, none⟩), .int .u8 c] w fun e w' => e = .returned (.bool true) ∧ RB ty w' rb s r ∧ Fr (One rb) w w' := by
  obtain ⟨b, rfl, hb⟩ := rAcc_some hc
  obtain ⟨h1, h2, h3, h4⟩ := h.next
  refine (accept_yes rb _ s c w hs h.at0 (h.free 0) h.at1 h1 (by rw [h4 h1, hb])).mono ?_
  rintro e w' ⟨rfl, k, rfl⟩
  refine ⟨rfl, ?_, (Fr.drewN _ _ k).trans (Fr.setCell _ _ _ _ rfl)⟩
  rw [← h2]
  exact (h.drewN k).move (by have := h.len; simp at this; omega) h3
theorem vAccept_no (h : RB ty w rb s l) (hs : s.size ≤ maxLen) (c : Nat) (hc : rAcc c l = none) :
    Calls Tryz.prog 106 #[.pointer (some ⟨rb, 0, none⟩), .int .u8 c] w fun e w' => e = .returned (.bool false) ∧ RB ty w' rb s l ∧ Fr (One rb) w w' := by
  refine (accept_no rb _ s c w hs h.at0 h.at1 h.posle (fun hn => ?_)).mono ?_
  · cases l with
    | nil => rw [h.end] at hn; omega
    | cons b r =>
      obtain ⟨h1, h2, h3, h4⟩ := h.next
      rw [h4 hn]
      intro e
      rw [rAcc_cons (by omega)] at hc
      cases hc
  · rintro e w' ⟨rfl, k, rfl⟩
    exact ⟨rfl, h.drewN k, Fr.drewN _ _ _⟩
theorem vIn_yes {b : UInt8} {r : Bs} (h : RB ty w rb s (b :: r)) (hs : s.size ≤ maxLen) (lo hi : Int) (h1 : lo ≤ b.toNat) (h2 : (b.toNat : Int) ≤ hi) :
    Calls Tryz.prog 160 #[.pointer (some ⟨rb, 0, none⟩), .int .u8 lo, .int .u8 hi] w fun e w' => e = .returned (.tuple #[.int .u8 b.toNat, .bool true]) ∧ RB ty w' rb s r ∧ Fr (One rb) w w' := by
  obtain ⟨q1, q2, q3, q4⟩ := h.next
  refine (acceptIn_yes rb _ s lo hi w hs h.at0 (h.free 0) h.at1 q1 (by rw [q4 q1]; exact h1) (by rw [q4 q1]; exact h2)).mono ?_
  rintro e w' ⟨rfl, k, rfl⟩
  refine ⟨by rw [q4 q1], ?_, (Fr.drewN _ _ k).trans (Fr.setCell _ _ _ _ rfl)⟩
  rw [← q2]
  exact (h.drewN k).move (by have := h.len; simp at this; omega) q3
theorem vIn_no (h : RB ty w rb s l) (hs : s.size ≤ maxLen) (lo hi : Int) (hc : ∀ b r, l = b :: r → (b.toNat : Int) < lo ∨ hi < (b.toNat : Int)) :
    Calls Tryz.prog 160 #[.pointer (some ⟨rb, 0, none⟩), .int .u8 lo, .int .u8 hi] w fun e w' => e = .returned (.tuple #[.int .u8 0, .bool false]) ∧ RB ty w' rb s l ∧ Fr (One rb) w w' := by
  refine (acceptIn_no rb _ s lo hi w hs h.at0 h.at1 h.posle (fun hn => ?_)).mono ?_
  · cases l with
    | nil => rw [h.end] at hn; omega
    | cons b r =>
      obtain ⟨h1, h2, h3, h4⟩ := h.next
      rw [h4 hn]
      exact hc b r rfl
  · rintro e w' ⟨rfl, k, rfl⟩
    exact ⟨rfl, h.drewN k, Fr.drewN _ _ _⟩
theorem vPeek_no (h : RB ty w rb s []) (hs : s.size ≤ maxLen) :
    Calls Tryz.prog 163 #[.pointer (some ⟨rb, 0, none⟩)] w fun e w' => e = .returned (.tuple #[.int .u8 0, .bool false]) ∧ RB ty w' rb s [] ∧ Fr (One rb) w w' := by
  refine (peek_no rb _ s w hs h.at0 h.at1 h.end).mono ?_
  rintro e w' ⟨rfl, k, rfl⟩
  exact ⟨rfl, h.drewN k, Fr.drewN _ _ _⟩
theorem vPeek_yes {b : UInt8} {r : Bs} (h : RB ty w rb s (b :: r)) (hs : s.size ≤ maxLen) :
    Calls Tryz.prog 163 #[.pointer (some ⟨rb, 0, none⟩)] w fun e w' => e = .returned (.tuple #[.int .u8 b.toNat, .bool true]) ∧ RB ty w' rb s (b :: r) ∧ Fr (One rb) w w' := by
  obtain ⟨q1, q2, q3, q4⟩ := h.next
  refine (peek_yes rb _ s w hs h.at0 h.at1 q1).mono ?_
  rintro e w' ⟨rfl, k, rfl⟩
  exact ⟨by rw [q4 q1], h.drewN k, Fr.drewN _ _ _⟩
theorem vAt (h : RB ty w rb s l) :
    Calls Tryz.prog 71 #[.pointer (some ⟨rb, 0, none⟩)] w fun e w' => e = .returned (.int .i64 (pos s l)) ∧ w' = w := at_any rb _ w h.at0
theorem vStep {a r : Bs} (h : RB ty w rb s (a ++ r)) (hs : s.size ≤ maxLen) (k : Int) (hk : k = a.length) :
    Calls Tryz.prog 167 #[.pointer (some ⟨rb, 0, none⟩), .int .i64 k] w fun e w' => e = .returned (.tuple #[]) ∧ RB ty w' rb s r ∧ Fr (One rb) w w' := by
  obtain ⟨q1, q2, q3⟩ := h.skip
  have hle : pos s r ≤ s.size := Nat.sub_le _ _
  unfold maxLen at hs
  refine (step_any rb (pos s (a ++ r)) k w h.at0 (h.free 0) (by omega) (by omega)).mono ?_
  rintro e w' ⟨rfl, rfl⟩
  refine ⟨rfl, ?_, Fr.setCell _ _ _ _ rfl⟩
  rw [show ((pos s (a ++ r) : Int) + k) = ((pos s r : Nat) : Int) by omega]
  exact h.move q1 q2
theorem vEnded (h : RB ty w rb s l) (hs : s.size ≤ maxLen) :
    Calls Tryz.prog 77 #[.pointer (some ⟨rb, 0, none⟩)] w fun e w' => e = .returned (.bool l.isEmpty) ∧ RB ty w' rb s l ∧ Fr (One rb) w w' := by
  cases l with
  | nil =>
    refine (ended_yes rb _ s w hs h.at0 h.at1 h.end).mono ?_
    rintro e w' ⟨rfl, k, rfl⟩
    exact ⟨rfl, h.drewN k, Fr.drewN _ _ _⟩
  | cons b r =>
    refine (ended_no rb _ s w hs h.at0 h.at1 h.next.1).mono ?_
    rintro e w' ⟨rfl, k, rfl⟩
    exact ⟨rfl, h.drewN k, Fr.drewN _ _ _⟩
theorem vSince {got : Bs} (h : RB ty w rb s l) (hs : s.size ≤ maxLen) (_hl : (got ++ l).length ≤ s.size) (hg : tl s (pos s (got ++ l)) = got ++ l) :
    Calls Tryz.prog 165 #[.pointer (some ⟨rb, 0, none⟩), .int .i64 (pos s (got ++ l))] w fun e w' => e = .returned (.string (ba got)) ∧ RB ty w' rb s l ∧ Fr (One rb) w w' := by
  have hp : pos s (got ++ l) ≤ pos s l := by simp only [pos, List.length_append]; omega
  refine (since_any rb (pos s (got ++ l)) (pos s l) s w hs h.at0 h.at1 hp h.posle).mono ?_
  rintro e w' ⟨rfl, k, rfl⟩
  refine ⟨?_, h.drewN k, Fr.drewN _ _ _⟩
  rw [tl_extract hp (by rw [hg, h.tail]) h.posle]
end

/-! ### Values -/

/-- The four cells of a value. -/
structure VC where
  a : Addr
  n : Int
  b : Bs
  sv : Value

def VC.val (c : VC) : Value := .agg #[.pointer (some c.a), .int .i64 c.n, .string (ba c.b), c.sv]
def VC.cells (c : VC) : List Value := [.pointer (some c.a), .int .i64 c.n, .string (ba c.b), c.sv]
def vCells (l : List VC) : List Value := l.flatMap VC.cells

theorem vCells_snoc (l : List VC) (c : VC) : vCells (l ++ [c]) = vCells l ++ c.cells := by simp [vCells]
theorem vCells_get (l : List VC) : ∀ (j : Nat) (c : VC), l[j]? = some c → (vCells l)[j * 4]? = some (.pointer (some c.a)) ∧ (vCells l)[j * 4 + 1]? = some (.int .i64 c.n) ∧ (vCells l)[j * 4 + 2]? = some (.string (ba c.b)) ∧ (vCells l)[j * 4 + 3]? = some c.sv := by
  induction l with
  | nil => intro j c h; simp at h
  | cons q l ih =>
    intro j c h
    cases j with
    | zero => simp at h; subst h; exact ⟨rfl, rfl, rfl, rfl⟩
    | succ j =>
      have h' : l[j]? = some c := by simpa using h
      have e : vCells (q :: l) = .pointer (some q.a) :: .int .i64 q.n :: .string (ba q.b) :: q.sv :: vCells l := rfl
      rw [e, show (j + 1) * 4 = j * 4 + 1 + 1 + 1 + 1 by omega]
      exact ih j c h'

/-- A value in memory, at most k deep; none of its blocks is in X. -/
def VRep (w : World) (X : Nat → Prop) : Nat → VC → PV → Prop
  | 0, _, _ => False
  | k + 1, c, p => TR w X c.a p.of ∧ c.n = p.num ∧ c.b = p.bytes ∧ ∃ rows : List VC, w.ownsRow 0 96 4 c.sv rows.length (vCells rows) ∧ (∀ g, c.sv.ownBlock = some g → ¬ X g) ∧ rows.length = p.parts.length ∧
      ∀ (j : Nat) (r : VC) (u : PV), rows[j]? = some r → p.parts[j]? = some u → VRep w X k r u

def VR (w : World) (X : Nat → Prop) (c : VC) (p : PV) : Prop := ∃ k, VRep w X k c p

theorem VRep.mono {w : World} {X : Nat → Prop} : ∀ (k : Nat) (c : VC) (p : PV), VRep w X k c p → ∀ k', k ≤ k' → VRep w X k' c p := by
  intro k
  induction k with
  | zero => intro c p h; exact h.elim
  | succ k ih =>
    intro c p h k' hk
    obtain ⟨k'', rfl⟩ : ∃ k'', k' = k'' + 1 := ⟨k' - 1, by omega⟩
    obtain ⟨h1, h2, h3, rows, h4, h5, h6, h7⟩ := h
    exact ⟨h1, h2, h3, rows, h4, h5, h6, fun j r u hr hu => ih r u (h7 j r u hr hu) k'' (by omega)⟩
theorem VRep.keep {w w' : World} {X : Nat → Prop} (hf : Fr X w w') : ∀ (k : Nat) (c : VC) (p : PV), VRep w X k c p → VRep w' X k c p := by
  intro k
  induction k with
  | zero => intro c p h; exact h.elim
  | succ k ih =>
    intro c p h
    obtain ⟨h1, h2, h3, rows, h4, h5, h6, h7⟩ := h
    exact ⟨h1.keep hf, h2, h3, rows, ownsRow_keep h4 hf h5, h5, h6, fun j r u hr hu => ih r u (h7 j r u hr hu)⟩
theorem VRep.avoid {w : World} {X Y : Nat → Prop} (hxy : ∀ b, b < w.heap.size → Y b → X b) : ∀ (k : Nat) (c : VC) (p : PV), VRep w X k c p → VRep w Y k c p := by
  intro k
  induction k with
  | zero => intro c p h; exact h.elim
  | succ k ih =>
    intro c p h
    obtain ⟨h1, h2, h3, rows, h4, h5, h6, h7⟩ := h
    exact ⟨h1.avoid hxy, h2, h3, rows, h4, fun g hg y => h5 g hg (hxy g (h4.lt g hg).2 y), h6, fun j r u hr hu => ih r u (h7 j r u hr hu)⟩
theorem VR.keep {w w' : World} {X : Nat → Prop} {c : VC} {p : PV} (h : VR w X c p) (hf : Fr X w w') : VR w' X c p := by
  obtain ⟨k, h⟩ := h; exact ⟨k, VRep.keep hf k c p h⟩
theorem VR.avoid {w : World} {X Y : Nat → Prop} {c : VC} {p : PV} (h : VR w X c p) (hxy : ∀ b, b < w.heap.size → Y b → X b) : VR w Y c p := by
  obtain ⟨k, h⟩ := h; exact ⟨k, VRep.avoid hxy k c p h⟩

/-- A row of values in memory. -/
def VL (w : World) (X : Nat → Prop) (rows : List VC) (vs : List PV) : Prop :=
  rows.length = vs.length ∧ ∀ (j : Nat) (r : VC) (u : PV), rows[j]? = some r → vs[j]? = some u → VR w X r u

theorem VL.nil (w : World) (X : Nat → Prop) : VL w X [] [] := ⟨rfl, fun j r u h => by simp at h⟩
theorem VL.keep {w w' : World} {X : Nat → Prop} {rows : List VC} {vs : List PV} (h : VL w X rows vs) (hf : Fr X w w') : VL w' X rows vs :=
  ⟨h.1, fun j r u hr hu => (h.2 j r u hr hu).keep hf⟩
theorem VL.avoid {w : World} {X Y : Nat → Prop} {rows : List VC} {vs : List PV} (h : VL w X rows vs) (hxy : ∀ b, b < w.heap.size → Y b → X b) : VL w Y rows vs :=
  ⟨h.1, fun j r u hr hu => (h.2 j r u hr hu).avoid hxy⟩
theorem VL.snoc {w : World} {X : Nat → Prop} {rows : List VC} {vs : List PV} (h : VL w X rows vs) {c : VC} {v : PV} (hv : VR w X c v) : VL w X (rows ++ [c]) (vs ++ [v]) := by
  have hl := h.1
  refine ⟨by simp [hl], fun j r u hr hu => ?_⟩
  by_cases hj : j < rows.length
  · rw [List.getElem?_append_left hj] at hr
    rw [List.getElem?_append_left (by omega)] at hu
    exact h.2 j r u hr hu
  · rw [List.getElem?_append_right (by omega)] at hr hu
    have hj0 : j - rows.length = 0 := by
      rcases Nat.eq_zero_or_pos (j - rows.length) with e | e
      · exact e
      · rw [List.getElem?_eq_none (by simp; omega)] at hr; cases hr
    rw [← hl, hj0] at hu
    rw [hj0] at hr
    simp at hr hu
    subst hr hu
    exact hv

theorem VR.make {w : World} {X : Nat → Prop} {c : VC} {p : PV} {rows : List VC} (ht : TR w X c.a p.of) (hn : c.n = p.num) (hb : c.b = p.bytes) (hO : w.ownsRow 0 96 4 c.sv rows.length (vCells rows)) (hx : ∀ g, c.sv.ownBlock = some g → ¬ X g) (hL : VL w X rows p.parts) : VR w X c p := by
  have : ∀ m : Nat, m ≤ rows.length → ∃ k, ∀ j, j < m → ∀ r u, rows[j]? = some r → p.parts[j]? = some u → VRep w X k r u := by
    intro m
    induction m with
    | zero => intro _; exact ⟨0, fun j hj => by omega⟩
    | succ m ih =>
      intro hm
      obtain ⟨k, hk⟩ := ih (by omega)
      have hlen := hL.1
      obtain ⟨k2, hk2⟩ := hL.2 m rows[m] (p.parts[m]'(by omega)) (by simp) (by simp)
      refine ⟨max k k2, fun j hj r u hr hu => ?_⟩
      by_cases e : j < m
      · exact VRep.mono _ _ _ (hk j e r u hr hu) _ (by omega)
      · have : j = m := by omega
        subst this
        obtain ⟨_, rfl⟩ := List.getElem?_eq_some_iff.1 hr
        obtain ⟨_, rfl⟩ := List.getElem?_eq_some_iff.1 hu
        exact VRep.mono _ _ _ hk2 _ (by omega)
  obtain ⟨k, hk⟩ := this rows.length (Nat.le_refl _)
  exact ⟨k + 1, ht, hn, hb, rows, hO, hx, hL.1, fun j r u hr hu => hk j (List.getElem?_eq_some_iff.1 hr).1 r u hr hu⟩
theorem VR.open {w : World} {X : Nat → Prop} {c : VC} {p : PV} (h : VR w X c p) : TR w X c.a p.of ∧ c.n = p.num ∧ c.b = p.bytes ∧ ∃ rows : List VC, w.ownsRow 0 96 4 c.sv rows.length (vCells rows) ∧ (∀ g, c.sv.ownBlock = some g → ¬ X g) ∧ VL w X rows p.parts := by
  obtain ⟨k, h⟩ := h
  cases k with
  | zero => exact h.elim
  | succ k =>
    obtain ⟨h1, h2, h3, rows, h4, h5, h6, h7⟩ := h
    exact ⟨h1, h2, h3, rows, h4, h5, h6, fun j r u hr hu => ⟨k, h7 j r u hr hu⟩⟩

/-- A value without parts. -/
theorem VR.leaf {w : World} {X : Nat → Prop} {a : Addr} {t : PT} {n : Int} {b : Bs} (ht : TR w X a t) : VR w X ⟨a, n, b, .slice none 0 0⟩ ⟨t, n, b, []⟩ :=
  VR.make (rows := []) ht rfl rfl (World.ownsRow_nil _ _ _ _) (fun g hg => by simp [Value.ownBlock] at hg) (VL.nil _ _)

/-- What is told of a type by its block. -/
theorem TR.open {w : World} {X : Nat → Prop} {a : Addr} {t : PT} (h : TR w X a t) : ∃ (b : Nat) (sv : Value) (rows : List (ByteArray × Addr)), a = ⟨b, 0, none⟩ ∧ w.heap[b]? = some (.cells #[.int .i64 t.kind, sv, .int .i64 t.depth] 230 (0, 0)) ∧ ¬ X b ∧
      w.ownsRow 0 146 2 sv rows.length (rowCells rows) ∧ (∀ g, sv.ownBlock = some g → ¬ X g) ∧ rows.map (·.1) = t.names ∧ rows.length = t.subs.length ∧
      ∀ (j : Nat) (p : ByteArray × Addr) (u : PT), rows[j]? = some p → t.subs[j]? = some u → TR w X p.2 u := by
  obtain ⟨k, h⟩ := h
  cases k with
  | zero => exact h.elim
  | succ k =>
    obtain ⟨b, sv, rows, h1, h2, h3, h4, h5, h6, h7, h8⟩ := h
    exact ⟨b, sv, rows, h1, h2, h3, h4, h5, h6, h7, fun j p u hp hu => ⟨k, h8 j p u hp hu⟩⟩

/-- One value more in a row that is being made. -/
theorem VL.grow {w1 w2 : World} {X : Nat → Prop} {B : Nat} {pv v' : Value} {vs : List PV} {rows : List VC} {c : VC} {v : PV}
    (hpv : ∀ g, pv.ownBlock = some g → B ≤ g) (hB : B ≤ w1.heap.size) (hL : VL w1 (XO X pv) rows vs) (hv : VR w1 (XO X pv) c v)
    (hO2 : w2.ownsRow 0 96 4 v' (rows.length + 1) (vCells rows ++ c.cells)) (hg : w1.grownBy w2 pv.ownBlock) (hv' : ∃ g cap, v' = .slice (some ⟨g, 0, none⟩) (rows.length + 1) cap ∧ (pv.ownBlock = some g ∨ w1.heap.size ≤ g)) :
    VL w2 (XO X v') (rows ++ [c]) (vs ++ [v]) ∧ w2.ownsRow 0 96 4 v' (rows ++ [c]).length (vCells (rows ++ [c])) ∧ (∀ g, v'.ownBlock = some g → B ≤ g) ∧ Fr (fun k => B ≤ k) w1 w2 ∧ Fr (XO X pv) w1 w2 := by
  obtain ⟨g, cap, rfl, hgg⟩ := hv'
  have hZ1 : ∀ b, b < w1.heap.size → (XO X pv b ∨ w1.heap.size ≤ b) → XO X pv b := fun b hb h => by
    rcases h with h | h
    · exact h
    · omega
  have hZ2 : ∀ b, b < w2.heap.size → XO X (.slice (some ⟨g, 0, none⟩) (rows.length + 1) cap) b → (XO X pv b ∨ w1.heap.size ≤ b) := fun b _ h => by
    rcases h with h | h
    · exact .inl (.inl h)
    · simp [Value.ownBlock] at h
      subst h
      rcases hgg with h | h
      · exact .inl (.inr h)
      · exact .inr h
  have hfZ : Fr (fun b => XO X pv b ∨ w1.heap.size ≤ b) w1 w2 := Fr.grown hg (fun k e _ => .inl (.inr e))
  refine ⟨?_, ?_, ?_, Fr.grown hg (fun k e _ => hpv k e), Fr.grown hg (fun k e _ => .inr e)⟩
  · exact (((hL.snoc hv).avoid hZ1).keep hfZ).avoid hZ2
  · rw [vCells_snoc, List.length_append]
    exact hO2
  · intro g' hg'
    simp [Value.ownBlock] at hg'
    subst hg'
    rcases hgg with h | h
    · exact hpv _ h
    · omega

end Go.Proofs.YtdcjogpkogidaaaGreatDoor
