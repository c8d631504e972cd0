/- The parser's small calls, told of the parser's whole state. What compound makes of a row of parts. What namedType, around and part do. What part does. -/
import Derived.Test.YtdcjogpkogidaaaGreatDoorMdWordType
namespace Go.Proofs.YtdcjogpkogidaaaGreatDoor
open Go.RowKit

theorem PS.keep0 {w w' : World} {X : Nat → Prop} {pb : Nat} {s : ByteArray} {n : Nat} {lv : Value} {lines : List (ByteArray × PT)} {bad deep : Option Nat} (hX : X pb) (h : PS w X pb s n lv lines bad deep) (hf : Fr Zero w w') : PS w' X pb s n lv lines bad deep := by
  obtain ⟨bn, td, rows, hP, hO, hlx, hL, hb, hd⟩ := h
  exact PS.step hX hP hO hlx hL hb hd hf.of0 (hf.keep hP (fun h => h))

theorem PS.at0 {w : World} {X : Nat → Prop} {pb : Nat} {s : ByteArray} {n : Nat} {lv : Value} {lines : List (ByteArray × PT)} {bad deep : Option Nat} (h : PS w X pb s n lv lines bad deep) : w.cell? ⟨pb, 0, none⟩ = some (.int .i64 n) := by
  obtain ⟨bn, td, rows, hP, _⟩ := h
  exact hP.at0

theorem psRefuseName {w : World} {X : Nat → Prop} {pb : Nat} {s : ByteArray} {n : Nat} {lv : Value} {lines : List (ByteArray × PT)} {bad deep : Option Nat} (hX : X pb) (h : PS w X pb s n lv lines bad deep) (at' : Nat) :
    Calls Tryz.prog 217 #[.pointer (some ⟨pb, 0, none⟩), .int .i64 at'] w fun e w' => e = .returned (.tuple #[]) ∧ Fr (One pb) w w' ∧ PS w' X pb s n lv lines (orElse bad at') deep := by
  obtain ⟨bn, td, rows, hP, hO, hlx, hL, hb, hd⟩ := h
  refine (refuseName_any at' bad hP hb).mono ?_
  rintro e w' ⟨rfl, hf, bn', hP', hb'⟩
  exact ⟨rfl, hf, bn', td, rows, hP', ownsRow_keep hO hf (owned_ne hP hO), hlx, hL.keep (hf.one hX), hb', hd.keep hP hf⟩

theorem psRefuseDepth {w : World} {X : Nat → Prop} {pb : Nat} {s : ByteArray} {n : Nat} {lv : Value} {lines : List (ByteArray × PT)} {bad deep : Option Nat} (hX : X pb) (h : PS w X pb s n lv lines bad deep) (at' : Nat) :
    Calls Tryz.prog 159 #[.pointer (some ⟨pb, 0, none⟩), .int .i64 at'] w fun e w' => e = .returned (.tuple #[]) ∧ Fr (One pb) w w' ∧ PS w' X pb s n lv lines bad (orElse deep at') := by
  obtain ⟨bn, td, rows, hP, hO, hlx, hL, hb, hd⟩ := h
  refine (refuseDepth_any at' deep hP hd).mono ?_
  rintro e w' ⟨rfl, hf, td', hP', hd'⟩
  exact ⟨rfl, hf, bn, td', rows, hP', ownsRow_keep hO hf (owned_ne hP hO), hlx, hL.keep (hf.one hX), hb.keep hP hf, hd'⟩

theorem psLetters {w : World} {X : Nat → Prop} {pb : Nat} {s : ByteArray} {n : Nat} {lv : Value} {lines : List (ByteArray × PT)} {bad deep : Option Nat} (hX : X pb) (h : PS w X pb s n lv lines bad deep) (hs : s.size ≤ maxLen) (hle : n ≤ s.size) :
    Calls Tryz.prog 214 #[.pointer (some ⟨pb, 0, none⟩)] w fun e w' => e = .returned (.string (nameAt s n)) ∧ Fr (One pb) w w' ∧ PS w' X pb s (lettersTo s n 6) lv lines bad deep := by
  obtain ⟨bn, td, rows, hP, hO, hlx, hL, hb, hd⟩ := h
  refine (letters_any hP hs hle).mono ?_
  rintro e w' ⟨rfl, hP', hf⟩
  exact ⟨rfl, hf, PS.step hX hP hO hlx hL hb hd hf hP'⟩

theorem psAccept_no {w : World} {X : Nat → Prop} {pb : Nat} {s : ByteArray} {n : Nat} {lv : Value} {lines : List (ByteArray × PT)} {bad deep : Option Nat} (hX : X pb) (h : PS w X pb s n lv lines bad deep) (hs : s.size ≤ maxLen) (hle : n ≤ s.size) (c : Int) (hc : (byteAt s n : Int) ≠ c) :
    Calls Tryz.prog 106 #[.pointer (some ⟨pb, 0, none⟩), .int .u8 c] w fun e w' => e = .returned (.bool false) ∧ Fr (One pb) w w' ∧ PS w' X pb s n lv lines bad deep := by
  obtain ⟨bn, td, rows, hP, hO, hlx, hL, hb, hd⟩ := h
  refine (pAccept_no hP hs hle c hc).mono ?_
  rintro e w' ⟨rfl, hP', hf⟩
  exact ⟨rfl, hf, PS.step hX hP hO hlx hL hb hd hf hP'⟩

theorem psAccept_yes {w : World} {X : Nat → Prop} {pb : Nat} {s : ByteArray} {n : Nat} {lv : Value} {lines : List (ByteArray × PT)} {bad deep : Option Nat} (hX : X pb) (h : PS w X pb s n lv lines bad deep) (hs : s.size ≤ maxLen) (c : Int) (hc : (byteAt s n : Int) = c) (h256 : c < 256) :
    Calls Tryz.prog 106 #[.pointer (some ⟨pb, 0, none⟩), .int .u8 c] w fun e w' => e = .returned (.bool true) ∧ Fr (One pb) w w' ∧ PS w' X pb s (n + 1) lv lines bad deep := by
  obtain ⟨bn, td, rows, hP, hO, hlx, hL, hb, hd⟩ := h
  refine (pAccept_yes hP hs c hc h256).mono ?_
  rintro e w' ⟨rfl, hP', hf⟩
  exact ⟨rfl, hf, PS.step hX hP hO hlx hL hb hd hf hP'⟩

theorem psEnded {w : World} {X : Nat → Prop} {pb : Nat} {s : ByteArray} {n : Nat} {lv : Value} {lines : List (ByteArray × PT)} {bad deep : Option Nat} (hX : X pb) (h : PS w X pb s n lv lines bad deep) (hs : s.size ≤ maxLen) (hle : n ≤ s.size) :
    Calls Tryz.prog 77 #[.pointer (some ⟨pb, 0, none⟩)] w fun e w' => e = .returned (.bool (decide (n = s.size))) ∧ Fr (One pb) w w' ∧ PS w' X pb s n lv lines bad deep := by
  obtain ⟨bn, td, rows, hP, hO, hlx, hL, hb, hd⟩ := h
  refine (pEnded hP hs hle).mono ?_
  rintro e w' ⟨rfl, hP', hf⟩
  exact ⟨rfl, hf, PS.step hX hP hO hlx hL hb hd hf hP'⟩

theorem wordType_is (nm : ByteArray) (k : Nat) (hk : k < 7) (he : wd k = nm) (w : World) (hw : Words w) :
    Calls Tryz.prog 215 #[.string nm] w fun e w' => e = .returned (.tuple #[.pointer (some ⟨w.heap.size, 0, none⟩), .bool true]) ∧ w' = w.alloc (.cells #[.int .i64 k, .slice none 0 0, .int .i64 1] 230) := by
  subst he
  exact wordType_some k hk w hw

theorem extract_empty {s : ByteArray} {n m : Nat} (h1 : n ≤ m) (h2 : m ≤ s.size) : (s.extract n m = ⟨#[]⟩) ↔ m = n := by
  constructor
  · intro h
    have h' := congrArg ByteArray.size h
    have h0 : (⟨#[]⟩ : ByteArray).size = 0 := rfl
    rw [h0] at h'
    simp [ByteArray.size_extract] at h'
    omega
  · intro h
    subst h
    apply ByteArray.ext
    simp
theorem isEmpty_bytes (a : ByteArray) : a.toList.isEmpty = decide (a = ⟨#[]⟩) := by
  rw [← strEq, ByteArray.toList_eq, ByteArray.toList_eq]
  cases a.data.toList <;> rfl
theorem name_empty {s : ByteArray} {n : Nat} (h : n ≤ s.size) : (nameAt s n).toList.isEmpty = decide (lettersTo s n 6 = n) := by
  rw [isEmpty_bytes]
  have := extract_empty (s := s) (lettersTo_ge s 6 n) (lettersTo_le s 6 n h)
  simp [nameAt, this]

/-- What newName leaves. -/
def NamePost (w : World) (X : Nat → Prop) (pb : Nat) (s : ByteArray) (n : Nat) (lv : Value) (lines : List (ByteArray × PT)) (others : List ByteArray) (bad deep : Option Nat) (e : Ending) (w' : World) : Prop :=
  Fr (One pb) w w' ∧ (∃ v, e = .returned (.tuple #[.string v, .bool (nameOk s n)]) ∧ (nameOk s n = true → v = nameAt s n)) ∧
    PS w' X pb s (lettersTo s n 6) lv lines (if nameOk s n = true then nameBad s others n bad else bad) deep

set_option maxHeartbeats 2000000 in
theorem newName_any {w : World} {X : Nat → Prop} {pb : Nat} {s : ByteArray} {n : Nat} {lv : Value} {lines : List (ByteArray × PT)} {bad deep : Option Nat} (hX : X pb) (h : PS w X pb s n lv lines bad deep) (hw : Words w) (hs : s.size ≤ maxLen) (hle : n ≤ s.size)
    (ov : Value) (orows : List (ByteArray × Addr)) (hol : orows.length ≤ 1000) (hO : w.ownsRow 0 146 2 ov orows.length (rowCells orows)) (hne : ∀ g, ov.ownBlock = some g → ¬ One pb g) :
    Calls Tryz.prog 194 #[.pointer (some ⟨pb, 0, none⟩), ov] w fun e w' => NamePost w X pb s n lv lines (orows.map (·.1)) bad deep e w' := by
  have h0 := h.at0
  have hn1 := hide (h.not1 hw)
  have HS := hide h
  have HW := hide hw
  have HO := hide hO
  have HN := hide hne
  have hE := hide (name_empty (s := s) hle)
  clear h hw hO hne
  go_enter Tryz.func194, Tryz.ntmps194
  go_wp2_with fail
  refine (at_any pb n _ h0).mono ?_
  rintro e w0 ⟨rfl, e0⟩
  obtain rfl := e0.symm
  clear h0
  go_wp2_with fail
  refine (psLetters hX HS hs hle).mono ?_
  rintro e w1 ⟨rfl, hF1, hS1⟩
  have HF1 := hide hF1
  have HS1 := hide hS1
  have HW1 := hide (HW.out.keep hF1 hn1)
  clear hF1 hS1
  go_wp2_with fail
  rcases hk : wordIdx (nameAt s n) with _ | k
  · refine (wordType_none (nameAt s n) _ HW1 (wordIdx_none hk)).mono ?_
    rintro e w2 ⟨rfl, e2⟩
    obtain rfl := e2.symm
    by_cases hm : lettersTo s n 6 = n
    · have hOK : Hid (nameOk s n = false) := by simp [Hid, nameOk, hm]
      have hb := hE.out
      rw [decide_eq_true hm] at hb
      have HM := hide hm
      have HK := hide hk
      clear hm hk
      generalize nameAt s n = nm at *
      go_wp2_with fail
      go_ret2
      refine ⟨HF1, ⟨⟨#[]⟩, by rw [hOK.out]; rfl, fun h => by rw [hOK.out] at h; cases h⟩, by rw [hOK.out]; exact HS1⟩
    · have hOK : Hid (nameOk s n = true) := by simp [Hid, nameOk, hm, hk]
      have hb := hE.out
      rw [decide_eq_false hm] at hb
      have HM := hide hm
      have HK := hide hk
      clear hm hk
      have HO1 := hide (ownsRow_keep HO.out HF1 HN.out)
      generalize hnm : nameAt s n = nm at *
      have HNM := hide hnm
      clear hnm
      go_wp2_with fail
      refine (find_any ov orows nm 0 _ hol HO1).mono ?_
      rintro e w3 ⟨rfl, hF3⟩
      have HF3 := hide (HF1.out.trans hF3.of0)
      have HS3 := hide (PS.keep0 hX HS1 hF3)
      clear hF3
      have hfm := findRow_mem (nm := nm) (rows := orows)
      unfold foundV
      rcases hfr : findRow nm orows with _ | a
      · rw [hfr] at hfm
        have HFM := hide hfm
        clear hfm hfr
        go_wp2_with fail
        go_ret2
        refine ⟨HF3, ⟨nm, by rw [hOK.out]; rfl, fun _ => HNM.out.symm⟩, ?_⟩
        rw [hOK.out, if_pos rfl, nameBad, HNM.out, ← HFM.out]
        exact HS3
      · rw [hfr] at hfm
        have HFM := hide hfm
        clear hfm hfr
        go_wp2_with fail
        refine (psRefuseName hX HS3 n).mono ?_
        rintro e w4 ⟨rfl, hF4, hS4⟩
        have HF4 := hide (HF3.out.trans hF4)
        have HS4 := hide hS4
        clear hF4 hS4
        go_wp2_with fail
        go_ret2
        refine ⟨HF4, ⟨nm, by rw [hOK.out]; rfl, fun _ => HNM.out.symm⟩, ?_⟩
        rw [hOK.out, if_pos rfl, nameBad, HNM.out, ← HFM.out]
        exact HS4
  · obtain ⟨hk7, hke⟩ := wordIdx_some hk
    have hOK : Hid (nameOk s n = false) := by simp [Hid, nameOk, hk]
    refine (wordType_is (nameAt s n) k hk7 hke _ HW1).mono ?_
    rintro e w2 ⟨rfl, rfl⟩
    clear hk hke
    go_wp2_with fail
    go_ret2
    refine ⟨HF1.out.trans (Fr.alloc _ _ _), ⟨⟨#[]⟩, by rw [hOK.out]; rfl, fun h => by rw [hOK.out] at h; cases h⟩, by rw [hOK.out]; exact PS.keep0 hX HS1 (Fr.alloc _ _ _)⟩

end Go.Proofs.YtdcjogpkogidaaaGreatDoor

namespace Go.Proofs.YtdcjogpkogidaaaGreatDoor
open Go.RowKit

theorem maxDepth_snoc (l : List (ByteArray × PT)) (q : ByteArray × PT) : maxDepth (l ++ [q]) = max (maxDepth l) q.2.depth := by
  simp [maxDepth, List.foldl_append]
theorem maxDepth_take (l : List (ByteArray × PT)) (k : Nat) (q : ByteArray × PT) (h : l[k]? = some q) : maxDepth (l.take (k + 1)) = max (maxDepth (l.take k)) q.2.depth := by
  obtain ⟨hk, he⟩ := List.getElem?_eq_some_iff.1 h
  rw [List.take_succ_eq_append_getElem hk, he, maxDepth_snoc]
theorem maxDepth_le (l : List (ByteArray × PT)) (D : Nat) (h : ∀ q ∈ l, q.2.depth ≤ D) : maxDepth l ≤ D := by
  have : ∀ (m : List Nat) (a : Nat), a ≤ D → (∀ x ∈ m, x ≤ D) → m.foldl max a ≤ D := by
    intro m
    induction m with
    | nil => intro a ha _; exact ha
    | cons x m ih => intro a ha hm; exact ih (max a x) (by have := hm x (by simp); omega) (fun y hy => hm y (by simp [hy]))
  unfold maxDepth
  exact this _ 0 (by omega) (fun x hx => by obtain ⟨q, hq, rfl⟩ := List.mem_map.1 hx; exact h q hq)

theorem maxInt (a b : Nat) : (if a < b then (b : Int) else (a : Int)) = ((max a b : Nat) : Int) := by split <;> omega
theorem ownsRow_base {w : World} {base : Nat} {e : TypeId} {size : Nat} {v : Value} {n : Nat} {xs : List Value} (h : w.ownsRow base e size v n xs) : w.ownsRow 0 e size v n xs := by
  refine ⟨h.1, ?_⟩
  rcases h.2 with h' | ⟨g, cap, cur, hv, hb, r⟩
  · exact .inl h'
  · exact .inr ⟨g, cap, cur, hv, Nat.zero_le _, r⟩

theorem TR.depth {w : World} {X : Nat → Prop} {a : Addr} {t : PT} (h : TR w X a t) : ∃ b, a = ⟨b, 0, none⟩ ∧ b < w.heap.size ∧ ¬ X b ∧ w.cell? ⟨b, 2, none⟩ = some (.int .i64 t.depth) := by
  obtain ⟨k, h⟩ := h
  cases k with
  | zero => exact h.elim
  | succ k =>
    obtain ⟨b, sv, rows, h1, h2, h3, _⟩ := h
    exact ⟨b, h1, lt_of_heap h2, h3, by rw [cell_of_heap h2]; rfl⟩

theorem TR.compound {w : World} {X : Nat → Prop} (kind : Nat) {sv : Value} {rows : List (ByteArray × Addr)} {l : List (ByteArray × PT)} (hL : LinesR w X rows l) (hO : w.ownsRow 0 146 2 sv rows.length (rowCells rows)) (hx : ∀ g, sv.ownBlock = some g → ¬ X g)
    {b : Nat} (hb : w.heap[b]? = some (.cells #[.int .i64 kind, sv, .int .i64 ((maxDepth l + 1 : Nat) : Int)] 230 (0, 0))) (hbx : ¬ X b) : TR w X ⟨b, 0, none⟩ (compoundT kind l) := by
  have : ∀ m : Nat, m ≤ rows.length → ∃ k, ∀ j, j < m → ∀ p q, rows[j]? = some p → l[j]? = some q → TRep w X k p.2 q.2 := by
    intro m
    induction m with
    | zero => intro _; exact ⟨0, fun j hj => by omega⟩
    | succ m ih =>
      intro hm
      obtain ⟨k, hk⟩ := ih (by omega)
      have hlen := hL.length
      obtain ⟨k2, hk2⟩ := hL.2 m rows[m] (l[m]'(by omega)) (by simp) (by simp)
      refine ⟨max k k2, fun j hj p q hp hq => ?_⟩
      by_cases e : j < m
      · exact TRep.mono _ _ _ (hk j e p q hp hq) _ (by omega)
      · have : j = m := by omega
        subst this
        obtain ⟨_, rfl⟩ := List.getElem?_eq_some_iff.1 hp
        obtain ⟨_, rfl⟩ := List.getElem?_eq_some_iff.1 hq
        exact TRep.mono _ _ _ hk2 _ (by omega)
  obtain ⟨k, hk⟩ := this rows.length (Nat.le_refl _)
  refine ⟨k + 1, b, sv, rows, rfl, hb, hbx, hO, hx, hL.1, by simp [compoundT, hL.length], fun j p u hp hu => ?_⟩
  simp only [compoundT, List.getElem?_map, Option.map_eq_some_iff] at hu
  obtain ⟨q, hq, rfl⟩ := hu
  exact hk j (List.getElem?_eq_some_iff.1 hp).1 p q hp hq

set_option maxHeartbeats 1000000 in
theorem compound_row (kind g cap base : Nat) (rows : List (ByteArray × Addr)) (l : List (ByteArray × PT)) (X : Nat → Prop) (w : World) (hlen : rows.length ≤ 1000) (hD : ∀ q ∈ l, q.2.depth ≤ 1000000) (hL : LinesR w X rows l)
    (hO : w.ownsRow base 146 2 (.slice (some ⟨g, 0, none⟩) rows.length cap) rows.length (rowCells rows)) (hgx : ¬ X g) (hXlt : ∀ b, X b → b < w.heap.size) :
    Calls Tryz.prog 233 #[.int .i64 kind, .slice (some ⟨g, 0, none⟩) rows.length cap] w fun e w' => Fr Zero w w' ∧ ∃ a, e = .returned (.pointer (some a)) ∧ TR w' X a (compoundT kind l) := by
  have hg : g < w.heap.size := (hO.lt g rfl).2
  have HLL := hide hL.length
  have HL := hide hL
  have HD := hide hD
  have HO := hide hO
  have HX := hide hXlt
  clear hL hD hO hXlt
  go_enter Tryz.func233, Tryz.ntmps233
  go_wp2_with fail
  go_loopw [5, 10] (fun d i wr => ∃ k : Nat, k ≤ rows.length ∧ i = .int .i64 k ∧ d = .int .i64 (maxDepth (l.take k)) ∧ Hid (Fr Zero w wr)) (fun _ i _ => rows.length - (intOf i).toNat)
  case atStart => exact ⟨0, by omega, rfl, rfl, Fr.refl _ _⟩
  case round =>
    obtain ⟨k, hk, rfl, rfl, HF⟩ := hrel
    have hmd : maxDepth (l.take k) ≤ 1000000 := maxDepth_le _ _ (fun q hq => HD q (List.mem_of_mem_take hq))
    by_cases hlt : k < rows.length
    · obtain ⟨p, hp⟩ : ∃ p, rows[k]? = some p := ⟨rows[k], by simp [hlt]⟩
      obtain ⟨q, hq⟩ : ∃ q, l[k]? = some q := ⟨l[k]'(by have := HLL.out; omega), by simp⟩
      obtain ⟨b, hb, hblt, hbx, hdc⟩ := (HL.out.2 k p q hp hq).depth
      have hc0 : wr.cell? ⟨g, k * 2, none⟩ = some (.string p.1) := by
        rw [HF.out.cell (a := ⟨g, k * 2, none⟩) hg (by intro h; exact h), HO.out.cellAt (k * 2) (by omega)]
        exact (rowCells_get rows k p hp).1
      have hc1 : wr.cell? ⟨g, k * 2 + 1, none⟩ = some (.pointer (some ⟨b, 0, none⟩)) := by
        rw [HF.out.cell (a := ⟨g, k * 2 + 1, none⟩) hg (by intro h; exact h), HO.out.cellAt (k * 2 + 1) (by omega), ← hb]
        exact (rowCells_get rows k p hp).2
      have hc2 : wr.cell? ⟨b, 2, none⟩ = some (.int .i64 q.2.depth) := by
        rw [HF.out.cell (a := ⟨b, 2, none⟩) hblt (by intro h; exact h)]; exact hdc
      have hbl : b < wr.heap.size := Nat.lt_of_lt_of_le hblt HF.out.size
      have hqd := HD.out q (List.mem_of_getElem? hq)
      have HPp := hide hp
      have HQq := hide hq
      clear hp hq hb hdc hblt hbx
      go_wp2_with fail
      exact ⟨⟨k + 1, by omega, by go_num, by rw [maxDepth_take l k q HQq, maxInt], HF.out.trans (Fr.alloc _ _ _)⟩, by simp [intOf]; omega⟩
    · have hkl : k = rows.length := by omega
      subst hkl
      have HT : Hid (l.take rows.length = l) := by rw [HLL.out]; exact List.take_length
      rw [HT.out]
      rw [HT.out] at hmd
      go_wp2_with fail
      go_ret
      refine ⟨HF.out.trans (Fr.alloc _ _ _), ⟨wr.heap.size, 0, none⟩, rfl, ?_⟩
      have hFw : Fr X w (wr.alloc (.cells #[.int .i64 kind, .slice (some ⟨g, 0, none⟩) rows.length cap, .int .i64 ((maxDepth l : Int) + 1)] 230)) := (HF.out.trans (Fr.alloc _ _ _)).of0
      refine TR.compound kind (HL.out.keep hFw) (ownsRow_keep (ownsRow_base HO.out) hFw (fun g' hg' => ?_)) (fun g' hg' => ?_) (heap_new_at rfl _) (fun hx => ?_)
      · simp [Value.ownBlock] at hg'; subst hg'; exact hgx
      · simp [Value.ownBlock] at hg'; subst hg'; exact hgx
      · have := HX wr.heap.size hx
        have := HF.out.size
        omega

theorem compound_any (kind base : Nat) (v : Value) (rows : List (ByteArray × Addr)) (l : List (ByteArray × PT)) (X : Nat → Prop) (w : World) (hlen : rows.length ≤ 1000) (hpos : 0 < rows.length) (hD : ∀ q ∈ l, q.2.depth ≤ 1000000) (hL : LinesR w X rows l)
    (hO : w.ownsRow base 146 2 v rows.length (rowCells rows)) (hgx : ∀ g, v.ownBlock = some g → ¬ X g) (hXlt : ∀ b, X b → b < w.heap.size) :
    Calls Tryz.prog 233 #[.int .i64 kind, v] w fun e w' => Fr Zero w w' ∧ ∃ a, e = .returned (.pointer (some a)) ∧ TR w' X a (compoundT kind l) := by
  rcases hO.2 with ⟨_, h0⟩ | ⟨g, cap, cur, rfl, _⟩
  · omega
  · exact compound_row kind g cap base rows l X w hlen hD hL hO (hgx g rfl) hXlt

end Go.Proofs.YtdcjogpkogidaaaGreatDoor

namespace Go.Proofs.YtdcjogpkogidaaaGreatDoor
open Go.RowKit

theorem TR.leaf {w : World} {X : Nat → Prop} {b : Nat} {kind depth : Nat} (hb : w.heap[b]? = some (.cells #[.int .i64 kind, .slice none 0 0, .int .i64 depth] 230 (0, 0))) (hx : ¬ X b) : TR w X ⟨b, 0, none⟩ ⟨kind, depth, [], []⟩ :=
  ⟨1, b, .slice none 0 0, [], rfl, hb, hx, World.ownsRow_nil _ _ _ _, fun g hg => by simp [Value.ownBlock] at hg, rfl, rfl, fun j p u hp => by simp at hp⟩

theorem not_new {X : Nat → Prop} {w w' : World} {Y : Nat → Prop} (hX : ∀ b, X b → b < w.heap.size) (hf : Fr Y w w') {k : Nat} (hk : w'.heap.size ≤ k) : ¬ X k := fun h => by
  have := hX k h
  have := hf.size
  omega

set_option maxHeartbeats 2000000 in
theorem namedType_any {w : World} {X : Nat → Prop} {pb : Nat} {s : ByteArray} {n : Nat} {lv : Value} {lines : List (ByteArray × PT)} {bad deep : Option Nat} (hX : X pb) (h : PS w X pb s n lv lines bad deep) (hw : Words w) (hXlt : ∀ b, X b → b < w.heap.size) (hs : s.size ≤ maxLen) (hle : n ≤ s.size) (hll : lines.length ≤ 1000) :
    Calls Tryz.prog 220 #[.pointer (some ⟨pb, 0, none⟩)] w fun e w' => TypPost w X pb s lv lines deep (pNamed s lines n bad) e w' := by
  have h0 := h.at0
  have hn1 := hide (h.not1 hw)
  have HS := hide h
  have HW := hide hw
  have HX := hide hXlt
  have hE := hide (name_empty (s := s) hle)
  have hML := hide (lettersTo_le s 6 n hle)
  clear h hw hXlt
  go_enter Tryz.func220, Tryz.ntmps220
  go_wp2_with fail
  refine (at_any pb n _ h0).mono ?_
  rintro e w0 ⟨rfl, e0⟩
  obtain rfl := e0.symm
  clear h0
  go_wp2_with fail
  refine (psLetters hX HS hs hle).mono ?_
  rintro e w1 ⟨rfl, hF1, hS1⟩
  have HF1 := hide hF1
  have HS1 := hide hS1
  have HW1 := hide (HW.out.keep hF1 hn1)
  clear hF1 hS1
  by_cases hm : lettersTo s n 6 = n
  · have hR : Hid (pNamed s lines n bad = noRes n bad) := by simp [Hid, pNamed, hm]
    have hb := hE.out
    rw [decide_eq_true hm] at hb
    have HM := hide hm
    clear hm
    generalize nameAt s n = nm at *
    go_wp2_with fail
    go_ret2
    rw [hR.out]
    exact ⟨HF1, hle, ⟨bad, by rw [HM.out] at HS1; exact HS1, fun h => by cases h⟩, none, rfl, fun h => by cases h⟩
  · have hb := hE.out
    rw [decide_eq_false hm] at hb
    have HM := hide hm
    clear hm
    have hun : Hid (pNamed s lines n bad = match wordIdx (nameAt s n) with
        | some k => ⟨true, PT.word k, lettersTo s n 6, bad⟩
        | none => match lineOf (nameAt s n) lines with
          | some t => ⟨true, t, lettersTo s n 6, bad⟩
          | none => ⟨true, PT.dummy, lettersTo s n 6, orElse bad n⟩) := by simp only [Hid, pNamed]; rw [if_neg HM.out]; rfl
    generalize nameAt s n = nm at *
    go_wp2_with fail
    rcases hk : wordIdx nm with _ | k
    · refine (wordType_none nm _ HW1 (wordIdx_none hk)).mono ?_
      rintro e w2 ⟨rfl, e2⟩
      obtain rfl := e2.symm
      rw [hk] at hun
      clear hk
      obtain ⟨bn, td, rows, hP, hO, hlx, hL, hbn, htd⟩ := HS1.out
      have c2 := hP.at2
      have HL := hide hL
      have HO := hide hO
      have hrl : rows.length ≤ 1000 := by rw [hL.length]; exact hll
      clear hP hO hlx hL hbn htd
      go_wp2_with fail
      refine (find_any lv rows nm 0 _ hrl HO).mono ?_
      rintro e w3 ⟨rfl, hF3⟩
      have HF3 := hide (HF1.out.trans hF3.of0)
      have HS3 := hide (PS.keep0 hX HS1 hF3)
      have HL3 := hide (HL.out.keep hF3.of0)
      clear hF3 c2
      unfold foundV
      rcases HL3.out.find (nm := nm) with ⟨f1, f2⟩ | ⟨a, t, f1, f2, ht⟩
      · rw [f1]
        have hR : Hid (pNamed s lines n bad = ⟨true, PT.dummy, lettersTo s n 6, orElse bad n⟩) := by
          have := hun.out
          rw [f2] at this
          exact this
        clear f1 f2 hun
        go_wp2_with fail
        refine (psRefuseName hX HS3 n).mono ?_
        rintro e w4 ⟨rfl, hF4, hS4⟩
        have HF4 := hide (HF3.out.trans hF4)
        have HS4 := hide hS4
        clear hF4 hS4
        go_wp2_with fail
        go_ret2
        rw [hR.out]
        exact ⟨HF4.out.trans (Fr.alloc _ _ _), hML, ⟨_, PS.keep0 hX HS4 (Fr.alloc _ _ _), fun _ => rfl⟩, some ⟨w4.heap.size, 0, none⟩, rfl, fun _ => ⟨_, rfl, TR.leaf (heap_new_at rfl _) (not_new HX HF4.out (Nat.le_refl _))⟩⟩
      · rw [f1]
        have hR : Hid (pNamed s lines n bad = ⟨true, t, lettersTo s n 6, bad⟩) := by
          have := hun.out
          rw [f2] at this
          exact this
        have HT := hide ht
        clear f1 f2 hun ht
        go_wp2_with fail
        go_ret2
        rw [hR.out]
        exact ⟨HF3, hML, ⟨_, HS3, fun _ => rfl⟩, some a, rfl, fun _ => ⟨_, rfl, HT⟩⟩
    · obtain ⟨hk7, hke⟩ := wordIdx_some hk
      refine (wordType_is nm k hk7 hke _ HW1).mono ?_
      rintro e w2 ⟨rfl, rfl⟩
      have hR : Hid (pNamed s lines n bad = ⟨true, PT.word k, lettersTo s n 6, bad⟩) := by
        have := hun.out
        rw [hk] at this
        exact this
      clear hk hke hun
      go_wp2_with fail
      go_ret2
      rw [hR.out]
      exact ⟨HF1.out.trans (Fr.alloc _ _ _), hML, ⟨_, PS.keep0 hX HS1 (Fr.alloc _ _ _), fun _ => rfl⟩, some ⟨w1.heap.size, 0, none⟩, rfl, fun _ => ⟨_, rfl, TR.leaf (heap_new_at rfl _) (not_new HX HF1.out (Nat.le_refl _))⟩⟩

def aroundR (kind : Nat) (r : Res) : Res := if r.ok = false then noRes r.n r.bad else ⟨true, compoundT kind [(⟨#[]⟩, r.t)], r.n, r.bad⟩

theorem ownsRow_one (w : World) (nm : ByteArray) (a : Addr) : (w.alloc (.cells #[.string nm, .pointer (some a)] 146)).ownsRow 0 146 2 (.slice (some ⟨w.heap.size, 0, none⟩) 1 1) 1 (rowCells [(nm, a)]) :=
  ⟨rfl, .inr ⟨w.heap.size, 1, _, rfl, Nat.zero_le _, heap_new_at rfl _, Nat.le_refl _, by unfold maxLen; omega, rfl, rfl⟩⟩

set_option maxHeartbeats 2000000 in
theorem around_any {w : World} {X : Nat → Prop} {pb : Nat} {s : ByteArray} {n f : Nat} {lv : Value} {lines : List (ByteArray × PT)} {bad deep : Option Nat} (hT : TypSaid s lines f) (hX : X pb) (h : PS w X pb s n lv lines bad deep) (hw : Words w) (hXlt : ∀ b, X b → b < w.heap.size)
    (hle : n ≤ s.size) (hf : s.size < n + f) (kind : Nat) (hd : (pTyp s lines f n bad).t.depth ≤ 1000000) :
    Calls Tryz.prog 218 #[.pointer (some ⟨pb, 0, none⟩), .int .i64 kind] w fun e w' => TypPost w X pb s lv lines deep (aroundR kind (pTyp s lines f n bad)) e w' := by
  have HT := hide (hT w X pb n lv bad deep h hw hX hXlt hle hf)
  have HX := hide hXlt
  clear hT h hw hXlt hle hf
  generalize pTyp s lines f n bad = r at *
  go_enter Tryz.func218, Tryz.ntmps218
  go_wp2_with fail
  refine HT.out.mono ?_
  rintro e w1 ⟨hF, hn, ⟨bad', hS, hbad⟩, a, rfl, hok⟩
  have HF := hide hF
  have HS := hide hS
  clear hF hS
  rcases hr : r.ok with _ | _
  · have HR := hide hr
    clear hr hok hbad
    go_wp2_with fail
    go_ret2
    simp only [aroundR, HR.out, if_true]
    exact ⟨HF, hn, ⟨bad', HS, fun h => by cases h⟩, none, rfl, fun h => by cases h⟩
  · have HR := hide hr
    obtain ⟨a', rfl, ht⟩ := hok hr
    have HTR := hide ht
    have HB := hide (hbad hr)
    clear hr hok hbad ht
    go_wp2_with fail
    refine (compound_row kind w1.heap.size 1 0 [(⟨#[]⟩, a')] [(⟨#[]⟩, r.t)] X _ (by simp) (fun q hq => by simp at hq; subst hq; exact hd) ?_ (ownsRow_one w1 ⟨#[]⟩ a') (not_new HX HF.out (Nat.le_refl _)) (fun b hb => ?_)).mono ?_
    · refine ⟨rfl, fun j p q hp hq => ?_⟩
      cases j with
      | zero => simp at hp hq; subst hp hq; exact HTR.out.keep (Fr.alloc _ _ _)
      | succ j => simp at hp
    · have := HX b hb
      have := HF.out.size
      simp
      omega
    · rintro e w2 ⟨hF2, a2, rfl, ht2⟩
      have HF2 := hide (HF.out.trans ((Fr.alloc _ _ _).trans hF2.of0))
      have HS2 := hide (PS.keep0 hX HS ((Fr.alloc _ _ _).trans hF2))
      have HT2 := hide ht2
      clear hF2 ht2
      go_wp2_with fail
      go_ret2
      have e : aroundR kind r = ⟨true, compoundT kind [(⟨#[]⟩, r.t)], r.n, r.bad⟩ := by simp [aroundR, HR.out]
      rw [e]
      exact ⟨HF2, hn, ⟨bad', HS2, fun _ => HB⟩, some a2, rfl, fun _ => ⟨a2, rfl, HT2⟩⟩

end Go.Proofs.YtdcjogpkogidaaaGreatDoor

namespace Go.Proofs.YtdcjogpkogidaaaGreatDoor
open Go.RowKit

/-- What part leaves. -/
def PartPost (w : World) (X : Nat → Prop) (pb : Nat) (s : ByteArray) (n : Nat) (lv : Value) (lines : List (ByteArray × PT)) (deep : Option Nat) (r : Res) (e : Ending) (w' : World) : Prop :=
  Fr (One pb) w w' ∧ r.n ≤ s.size ∧ (∃ bad', PS w' X pb s r.n lv lines bad' deep ∧ (r.ok = true → bad' = r.bad)) ∧
    ∃ (nm : ByteArray) (a : Option Addr), e = .returned (.tuple #[.agg #[.string nm, .pointer a], .bool r.ok]) ∧ (r.ok = true → nm = nameAt s n ∧ ∃ a', a = some a' ∧ TR w' X a' r.t)

theorem heap_alloc_same {w w' : World} {o o' : Obj} {X : Nat → Prop} (hf : Fr X (w.alloc o) w') (hx : ¬ X w.heap.size) (he : o = o') : w'.heap[w.heap.size]? = some o' := by
  subst he
  exact hf.keep (heap_new_at rfl o) hx

theorem RefV.keepT {w w' : World} {errno : Int} {v : Value} {r : Option Nat} {rb : Nat} {c : Array Value} {t : TypeId} {fz : Nat × Nat} (h : RefV w errno v r) (hrb : w.heap[rb]? = some (.cells c t fz)) (ht : t ≠ 93) (hf : Fr (One rb) w w') : RefV w' errno v r := by
  cases r with
  | none => exact h
  | some m =>
    obtain ⟨b, hv, hb⟩ := h
    refine ⟨b, hv, hf.keep hb (fun e => ?_)⟩
    have e' : b = rb := e
    subst e'
    rw [hb] at hrb
    simp at hrb
    exact ht hrb.2.1.symm

theorem PS.avoid {w : World} {X Y : Nat → Prop} {pb : Nat} {s : ByteArray} {n : Nat} {lv : Value} {lines : List (ByteArray × PT)} {bad deep : Option Nat} (h : PS w X pb s n lv lines bad deep) (hxy : ∀ b, b < w.heap.size → Y b → X b) (hl : ∀ g, lv.ownBlock = some g → Y g) : PS w Y pb s n lv lines bad deep := by
  obtain ⟨bn, td, rows, hP, hO, hlx, hL, hb, hd⟩ := h
  exact ⟨bn, td, rows, hP, hO, hl, hL.avoid hxy, hb, hd⟩

theorem PS.lx {w : World} {X : Nat → Prop} {pb : Nat} {s : ByteArray} {n : Nat} {lv : Value} {lines : List (ByteArray × PT)} {bad deep : Option Nat} (h : PS w X pb s n lv lines bad deep) : ∀ g, lv.ownBlock = some g → X g := by
  obtain ⟨bn, td, rows, hP, hO, hlx, hL, hb, hd⟩ := h
  exact hlx

theorem PS.other {w w' : World} {X : Nat → Prop} {pb rb : Nat} {s : ByteArray} {n : Nat} {lv : Value} {lines : List (ByteArray × PT)} {bad deep : Option Nat} {c : Array Value} {fz : Nat × Nat} (h : PS w X pb s n lv lines bad deep) (hrb : w.heap[rb]? = some (.cells c 146 fz)) (hXr : X rb) (hl : ∀ g, lv.ownBlock = some g → g ≠ rb) (hf : Fr (One rb) w w') : PS w' X pb s n lv lines bad deep := by
  obtain ⟨bn, td, rows, hP, hO, hlx, hL, hb, hd⟩ := h
  refine ⟨bn, td, rows, hf.keep hP (fun e => ?_), ownsRow_keep hO hf (fun g hg e => hl g hg e), hlx, hL.keep (hf.one hXr), hb.keepT hrb (by decide) hf, hd.keepT hrb (by decide) hf⟩
  have e' : pb = rb := e
  subst e'
  unfold PB at hP
  rw [hP] at hrb
  simp at hrb

theorem Fr.setNew {X : Nat → Prop} {w w1 : World} (h : Fr X w w1) {a : Addr} (ha : w.heap.size ≤ a.block) (v : Value) : Fr X w (w1.setCell a v) :=
  ⟨h.os, h.tape, h.output, by simp [World.setCell]; exact h.size, fun k hk hx => by rw [Below.heap_setCell _ _ _ _ (by omega)]; exact h.block k hk hx⟩

theorem two_set {w : World} {rb : Nat} {x y a b : Value} {t : TypeId} {fz : Nat × Nat} (h : w.heap[rb]? = some (.cells #[x, y] t fz)) : ((w.setCell ⟨rb, 0, none⟩ a).setCell ⟨rb, 1, none⟩ b).heap[rb]? = some (.cells #[a, b] t fz) := by
  rw [heap_setCell_same (heap_setCell_same h)]; rfl

theorem Fr.two (w : World) (b : Nat) (x y : Value) : Fr (One b) w ((w.setCell ⟨b, 0, none⟩ x).setCell ⟨b, 1, none⟩ y) :=
  (Fr.setCell (One b) w ⟨b, 0, none⟩ x rfl).trans (Fr.setCell (One b) _ ⟨b, 1, none⟩ y rfl)

/-- X, and one block more. -/
def More (X : Nat → Prop) (b : Nat) : Nat → Prop := fun k => X k ∨ k = b

theorem More.lt {X : Nat → Prop} {w : World} (hX : ∀ b, X b → b < w.heap.size) (o : Obj) : ∀ b, More X w.heap.size b → b < (w.alloc o).heap.size := by
  intro b hb
  rcases hb with h | h
  · have := hX b h; simp; omega
  · simp; omega
theorem More.old {X : Nat → Prop} {w : World} : ∀ b, b < w.heap.size → More X w.heap.size b → X b := by
  intro b hb h
  rcases h with h | h
  · exact h
  · omega

set_option maxHeartbeats 4000000 in
theorem part_any {w : World} {X : Nat → Prop} {pb : Nat} {s : ByteArray} {n f : Nat} {lv : Value} {lines : List (ByteArray × PT)} {bad deep : Option Nat} (hT : TypSaid s lines f) (hX : X pb) (h : PS w X pb s n lv lines bad deep) (hw : Words w) (hXlt : ∀ b, X b → b < w.heap.size) (hs : s.size ≤ maxLen)
    (hle : n ≤ s.size) (hf : s.size < n + f) (ov : Value) (orows : List (ByteArray × Addr)) (hol : orows.length ≤ 1000) (hO : w.ownsRow 0 146 2 ov orows.length (rowCells orows)) (hne : ∀ g, ov.ownBlock = some g → ¬ One pb g) (sign : Nat) (hsg : sign < 256) :
    Calls Tryz.prog 158 #[.pointer (some ⟨pb, 0, none⟩), ov, .int .u8 sign] w fun e w' => PartPost w X pb s n lv lines deep (pPart (pTyp s lines f) s (orows.map (·.1)) sign n bad) e w' := by
  have hpl : pb < w.heap.size := hXlt pb hX
  have hn1 := hide (h.not1 hw)
  have HLX := hide h.lx
  have hX' : More X w.heap.size pb := .inl hX
  have HS := hide (PS.keep0 (w' := w.alloc (.cells #[.string ⟨#[]⟩, .pointer none] 146)) hX' (h.avoid More.old (fun g hg => .inl (h.lx g hg))) (Fr.alloc _ _ _))
  have HW := hide (Words.keep hw (Fr.alloc Zero w (.cells #[.string ⟨#[]⟩, .pointer none] 146)) (fun h => h))
  have HO := hide (hO.alloc (.cells #[.string ⟨#[]⟩, .pointer none] 146))
  have HX := hide hXlt
  have HX' := hide (More.lt hXlt (.cells #[.string ⟨#[]⟩, .pointer none] 146))
  have HN := hide hne
  have HT := hide hT
  have hML := lettersTo_le s 6 n hle
  have hMG := lettersTo_ge s 6 n
  have HLR : Hid (∀ g, lv.ownBlock = some g → g ≠ w.heap.size) := fun g hg => by have := hXlt g (h.lx g hg); omega
  clear h hw hO hXlt hne hT
  go_enter Tryz.func158, Tryz.ntmps158
  go_wp2_with fail
  refine (newName_any hX' HS HW hs hle ov orows hol HO HN).mono ?_
  rintro e w1 ⟨hF1, ⟨v, rfl, hv⟩, hS1⟩
  have hrb : w1.heap[w.heap.size]? = some (.cells #[.string ⟨#[]⟩, .pointer none] 146 (0, 0)) := heap_alloc_same hF1 (fun e => by have e' : w.heap.size = pb := e; omega) rfl
  have HF1 := hide ((Fr.alloc _ _ _).trans hF1)
  have HFF := hide hF1
  have HS1 := hide hS1
  have HW1 := hide (HW.out.keep hF1 hn1)
  have HRB := hide hrb
  clear hF1 hS1 hrb
  rcases hk : nameOk s n with _ | _
  · have hR : Hid (pPart (pTyp s lines f) s (orows.map (·.1)) sign n bad = noRes (lettersTo s n 6) bad) := by simp [Hid, pPart, hk]
    rw [hk, if_neg (by simp)] at HS1
    clear hk hv
    have c0 : w1.cell? ⟨w.heap.size, 0, none⟩ = some (.string ⟨#[]⟩) := by rw [cell_of_heap HRB]; rfl
    have c1 : w1.cell? ⟨w.heap.size, 1, none⟩ = some (.pointer none) := by rw [cell_of_heap HRB]; rfl
    have f0 : w1.frozen? ⟨w.heap.size, 0, none⟩ = false := free_of_heap HRB
    have f1 : w1.frozen? ⟨w.heap.size, 1, none⟩ = false := free_of_heap HRB
    go_wp2_with fail
    have h2 := two_set (a := .string ⟨#[]⟩) (b := .pointer none) HRB.out
    have k0 := cell_of_heap (o := 0) h2
    have k1 := cell_of_heap (o := 1) h2
    refine bodyPost_ret (v := .tuple #[.agg #[.string ⟨#[]⟩, .pointer none], .bool false]) (by simp [results, Tryz.results158, go_sem, k0, k1]) rfl ?_
    rw [hR.out]
    have hF2 : Fr (One w.heap.size) w1 ((w1.setCell ⟨w.heap.size, 0, none⟩ (.string ⟨#[]⟩)).setCell ⟨w.heap.size, 1, none⟩ (.pointer none)) := Fr.two _ _ _ _
    exact ⟨(HF1.out.setNew (Nat.le_refl _) _).setNew (Nat.le_refl _) _, hML, ⟨bad, (PS.other HS1 HRB (.inr rfl) HLR hF2).avoid (fun b _ hb => .inl hb) HLX, fun h => by cases h⟩, ⟨#[]⟩, none, rfl, fun h => by cases h⟩
  · rw [hk, if_pos rfl] at HS1
    have hnm := hv hk
    subst hnm
    by_cases hc : byteAt s (lettersTo s n 6) = sign
    · have hR : Hid (pPart (pTyp s lines f) s (orows.map (·.1)) sign n bad = pTyp s lines f (lettersTo s n 6 + 1) (nameBad s (orows.map (·.1)) n bad)) := by simp [Hid, pPart, hk, hc]
      have hcI : Hid ((byteAt s (lettersTo s n 6) : Int) = sign) := by simp [Hid, hc]
      have hm1 : lettersTo s n 6 + 1 ≤ s.size := byteAt_in (by omega)
      clear hk hv hc
      generalize hnm : nameAt s n = nm at *
      have HNM := hide hnm
      clear hnm
      go_wp2_with fail
      refine (psAccept_yes hX' HS1 hs sign hcI (by omega)).mono ?_
      rintro e w2 ⟨rfl, hF2, hS2⟩
      have HS2 := hide hS2
      have HF2 := hide hF2
      clear hF2 hS2
      go_wp2_with fail
      refine (HT.out w2 (More X w.heap.size) pb _ lv _ deep HS2 (HW1.out.keep HF2 hn1) hX' (fun b hb => ?_) hm1 (by omega)).mono ?_
      · exact Nat.lt_of_lt_of_le (HX' b hb) (Nat.le_trans HFF.out.size HF2.out.size)
      generalize hr : pTyp s lines f (lettersTo s n 6 + 1) (nameBad s (orows.map (·.1)) n bad) = r at *
      rintro e w3 ⟨hF3, hn3, ⟨bad', hS3, hbad⟩, a, rfl, hok⟩
      have hrb3 : w3.heap[w.heap.size]? = some (.cells #[.string ⟨#[]⟩, .pointer none] 146 (0, 0)) :=
        hF3.keep (HF2.out.keep HRB (fun e => by have e' : w.heap.size = pb := e; omega)) (fun e => by have e' : w.heap.size = pb := e; omega)
      have c0 : w3.cell? ⟨w.heap.size, 0, none⟩ = some (.string ⟨#[]⟩) := by rw [cell_of_heap hrb3]; rfl
      have c1 : w3.cell? ⟨w.heap.size, 1, none⟩ = some (.pointer none) := by rw [cell_of_heap hrb3]; rfl
      have f0 : w3.frozen? ⟨w.heap.size, 0, none⟩ = false := free_of_heap hrb3
      have f1 : w3.frozen? ⟨w.heap.size, 1, none⟩ = false := free_of_heap hrb3
      have HRB3 := hide hrb3
      have HF3 := hide (HF1.out.trans (HF2.out.trans hF3))
      have HS3 := hide hS3
      have HOK := hide hok
      have HBAD := hide hbad
      have HRR := hide hr
      clear hrb3 hF3 hS3 hok hbad hr
      go_wp2_with fail
      have h2 := two_set (a := .string nm) (b := .pointer a) HRB3.out
      have k0 := cell_of_heap (o := 0) h2
      have k1 := cell_of_heap (o := 1) h2
      refine bodyPost_ret (v := .tuple #[.agg #[.string nm, .pointer a], .bool r.ok]) (by simp [results, Tryz.results158, go_sem, k0, k1]) rfl ?_
      rw [hR.out]
      have hF4 : Fr (One w.heap.size) w3 ((w3.setCell ⟨w.heap.size, 0, none⟩ (.string nm)).setCell ⟨w.heap.size, 1, none⟩ (.pointer a)) := Fr.two _ _ _ _
      exact ⟨(HF3.out.setNew (Nat.le_refl _) _).setNew (Nat.le_refl _) _, hn3, ⟨bad', (PS.other HS3 HRB3 (.inr rfl) HLR hF4).avoid (fun b _ hb => .inl hb) HLX, HBAD⟩, nm, a, rfl, fun h => ⟨HNM.out.symm, by
        obtain ⟨a', e, ht⟩ := HOK.out h
        exact ⟨a', e, (ht.keep (hF4.one (.inr rfl))).avoid (fun b _ hb => .inl hb)⟩⟩⟩
    · have hR : Hid (pPart (pTyp s lines f) s (orows.map (·.1)) sign n bad = noRes (lettersTo s n 6) (nameBad s (orows.map (·.1)) n bad)) := by simp [Hid, pPart, hk, hc]
      have hcI : Hid ((byteAt s (lettersTo s n 6) : Int) ≠ sign) := fun e => hc (by omega)
      clear hk hv hc
      generalize nameAt s n = nm at *
      go_wp2_with fail
      refine (psAccept_no hX' HS1 hs hML sign hcI).mono ?_
      rintro e w2 ⟨rfl, hF2, hS2⟩
      have hrb3 : w2.heap[w.heap.size]? = some (.cells #[.string ⟨#[]⟩, .pointer none] 146 (0, 0)) :=
        hF2.keep HRB (fun e => by have e' : w.heap.size = pb := e; omega)
      have c0 : w2.cell? ⟨w.heap.size, 0, none⟩ = some (.string ⟨#[]⟩) := by rw [cell_of_heap hrb3]; rfl
      have c1 : w2.cell? ⟨w.heap.size, 1, none⟩ = some (.pointer none) := by rw [cell_of_heap hrb3]; rfl
      have f0 : w2.frozen? ⟨w.heap.size, 0, none⟩ = false := free_of_heap hrb3
      have f1 : w2.frozen? ⟨w.heap.size, 1, none⟩ = false := free_of_heap hrb3
      have HS2 := hide hS2
      have HF2 := hide (HF1.out.trans hF2)
      have HRB3 := hide hrb3
      clear hF2 hS2 hrb3
      go_wp2_with fail
      have h2 := two_set (a := .string ⟨#[]⟩) (b := .pointer none) HRB3.out
      have k0 := cell_of_heap (o := 0) h2
      have k1 := cell_of_heap (o := 1) h2
      refine bodyPost_ret (v := .tuple #[.agg #[.string ⟨#[]⟩, .pointer none], .bool false]) (by simp [results, Tryz.results158, go_sem, k0, k1]) rfl ?_
      rw [hR.out]
      have hF4 : Fr (One w.heap.size) w2 ((w2.setCell ⟨w.heap.size, 0, none⟩ (.string ⟨#[]⟩)).setCell ⟨w.heap.size, 1, none⟩ (.pointer none)) := Fr.two _ _ _ _
      exact ⟨(HF2.out.setNew (Nat.le_refl _) _).setNew (Nat.le_refl _) _, hML, ⟨_, (PS.other HS2 HRB3 (.inr rfl) HLR hF4).avoid (fun b _ hb => .inl hb) HLX, fun h => by cases h⟩, ⟨#[]⟩, none, rfl, fun h => by cases h⟩

theorem part_at {w : World} {X : Nat → Prop} {pb : Nat} {s : ByteArray} {n f : Nat} {lv : Value} {lines : List (ByteArray × PT)} {bad deep : Option Nat} (hT : TypSaid s lines f) (hX : X pb) (h : PS w X pb s n lv lines bad deep) (hw : Words w) (hXlt : ∀ b, X b → b < w.heap.size) (hs : s.size ≤ maxLen)
    (hle : n ≤ s.size) (hf : s.size < n + f) (ov : Value) (orows : List (ByteArray × Addr)) (hol : orows.length ≤ 1000) (hO : w.ownsRow 0 146 2 ov orows.length (rowCells orows)) (hne : ∀ g, ov.ownBlock = some g → ¬ One pb g) (sg : Int) (sign : Nat) (hsg : sign < 256) (he : sg = (sign : Int)) :
    Calls Tryz.prog 158 #[.pointer (some ⟨pb, 0, none⟩), ov, .int .u8 sg] w fun e w' => PartPost w X pb s n lv lines deep (pPart (pTyp s lines f) s (orows.map (·.1)) sign n bad) e w' := by
  subst he
  exact part_any hT hX h hw hXlt hs hle hf ov orows hol hO hne sign hsg

end Go.Proofs.YtdcjogpkogidaaaGreatDoor
