/- The parser's small calls, told of the parser's whole state. -/
import Derived.Test.YtapblkmlhoalgaaGreatDoorTree
namespace Go.Proofs.YtapblkmlhoalgaaGreatDoor
open Go.RowKit

theorem PS.keep0 {w w' : World} {X : Nat → Prop} {pb : Nat} {s : ByteArray} {n : Nat} {lv : Value} {lines : List (ByteArray × PT)} {bad deep : Option Nat} (hX : X pb) (h : PS w X pb s n lv lines bad deep) (hf : Fr Zero w w') : PS w' X pb s n lv lines bad deep := by
  obtain ⟨bn, td, rows, hP, hO, hlx, hL, hb, hd⟩ := h
  exact PS.step hX hP hO hlx hL hb hd hf.of0 (hf.keep hP (fun h => h))

theorem PS.at0 {w : World} {X : Nat → Prop} {pb : Nat} {s : ByteArray} {n : Nat} {lv : Value} {lines : List (ByteArray × PT)} {bad deep : Option Nat} (h : PS w X pb s n lv lines bad deep) : w.cell? ⟨pb, 0, none⟩ = some (.int .i64 n) := by
  obtain ⟨bn, td, rows, hP, _⟩ := h
  exact hP.at0

theorem psRefuseName {w : World} {X : Nat → Prop} {pb : Nat} {s : ByteArray} {n : Nat} {lv : Value} {lines : List (ByteArray × PT)} {bad deep : Option Nat} (hX : X pb) (h : PS w X pb s n lv lines bad deep) (at' : Nat) :
    Calls Tryz.prog 255 #[.pointer (some ⟨pb, 0, none⟩), .int .i64 at'] w fun e w' => e = .returned (.tuple #[]) ∧ Fr (One pb) w w' ∧ PS w' X pb s n lv lines (orElse bad at') deep := by
  obtain ⟨bn, td, rows, hP, hO, hlx, hL, hb, hd⟩ := h
  refine (refuseName_any at' bad hP hb).mono ?_
  rintro e w' ⟨rfl, hf, bn', hP', hb'⟩
  exact ⟨rfl, hf, bn', td, rows, hP', ownsRow_keep hO hf (owned_ne hP hO), hlx, hL.keep (hf.one hX), hb', hd.keep hP hf⟩

theorem psRefuseDepth {w : World} {X : Nat → Prop} {pb : Nat} {s : ByteArray} {n : Nat} {lv : Value} {lines : List (ByteArray × PT)} {bad deep : Option Nat} (hX : X pb) (h : PS w X pb s n lv lines bad deep) (at' : Nat) :
    Calls Tryz.prog 215 #[.pointer (some ⟨pb, 0, none⟩), .int .i64 at'] w fun e w' => e = .returned (.tuple #[]) ∧ Fr (One pb) w w' ∧ PS w' X pb s n lv lines bad (orElse deep at') := by
  obtain ⟨bn, td, rows, hP, hO, hlx, hL, hb, hd⟩ := h
  refine (refuseDepth_any at' deep hP hd).mono ?_
  rintro e w' ⟨rfl, hf, td', hP', hd'⟩
  exact ⟨rfl, hf, bn, td', rows, hP', ownsRow_keep hO hf (owned_ne hP hO), hlx, hL.keep (hf.one hX), hb.keep hP hf, hd'⟩

theorem psLetters {w : World} {X : Nat → Prop} {pb : Nat} {s : ByteArray} {n : Nat} {lv : Value} {lines : List (ByteArray × PT)} {bad deep : Option Nat} (hX : X pb) (h : PS w X pb s n lv lines bad deep) (hs : s.size ≤ maxLen) (hle : n ≤ s.size) :
    Calls Tryz.prog 252 #[.pointer (some ⟨pb, 0, none⟩)] w fun e w' => e = .returned (.string (nameAt s n)) ∧ Fr (One pb) w w' ∧ PS w' X pb s (lettersTo s n 6) lv lines bad deep := by
  obtain ⟨bn, td, rows, hP, hO, hlx, hL, hb, hd⟩ := h
  refine (letters_any hP hs hle).mono ?_
  rintro e w' ⟨rfl, hP', hf⟩
  exact ⟨rfl, hf, PS.step hX hP hO hlx hL hb hd hf hP'⟩

theorem psAccept_no {w : World} {X : Nat → Prop} {pb : Nat} {s : ByteArray} {n : Nat} {lv : Value} {lines : List (ByteArray × PT)} {bad deep : Option Nat} (hX : X pb) (h : PS w X pb s n lv lines bad deep) (hs : s.size ≤ maxLen) (hle : n ≤ s.size) (c : Int) (hc : (byteAt s n : Int) ≠ c) :
    Calls Tryz.prog 165 #[.pointer (some ⟨pb, 0, none⟩), .int .u8 c] w fun e w' => e = .returned (.bool false) ∧ Fr (One pb) w w' ∧ PS w' X pb s n lv lines bad deep := by
  obtain ⟨bn, td, rows, hP, hO, hlx, hL, hb, hd⟩ := h
  refine (pAccept_no hP hs hle c hc).mono ?_
  rintro e w' ⟨rfl, hP', hf⟩
  exact ⟨rfl, hf, PS.step hX hP hO hlx hL hb hd hf hP'⟩

theorem psAccept_yes {w : World} {X : Nat → Prop} {pb : Nat} {s : ByteArray} {n : Nat} {lv : Value} {lines : List (ByteArray × PT)} {bad deep : Option Nat} (hX : X pb) (h : PS w X pb s n lv lines bad deep) (hs : s.size ≤ maxLen) (c : Int) (hc : (byteAt s n : Int) = c) (h256 : c < 256) :
    Calls Tryz.prog 165 #[.pointer (some ⟨pb, 0, none⟩), .int .u8 c] w fun e w' => e = .returned (.bool true) ∧ Fr (One pb) w w' ∧ PS w' X pb s (n + 1) lv lines bad deep := by
  obtain ⟨bn, td, rows, hP, hO, hlx, hL, hb, hd⟩ := h
  refine (pAccept_yes hP hs c hc h256).mono ?_
  rintro e w' ⟨rfl, hP', hf⟩
  exact ⟨rfl, hf, PS.step hX hP hO hlx hL hb hd hf hP'⟩

theorem psEnded {w : World} {X : Nat → Prop} {pb : Nat} {s : ByteArray} {n : Nat} {lv : Value} {lines : List (ByteArray × PT)} {bad deep : Option Nat} (hX : X pb) (h : PS w X pb s n lv lines bad deep) (hs : s.size ≤ maxLen) (hle : n ≤ s.size) :
    Calls Tryz.prog 54 #[.pointer (some ⟨pb, 0, none⟩)] w fun e w' => e = .returned (.bool (decide (n = s.size))) ∧ Fr (One pb) w w' ∧ PS w' X pb s n lv lines bad deep := by
  obtain ⟨bn, td, rows, hP, hO, hlx, hL, hb, hd⟩ := h
  refine (pEnded hP hs hle).mono ?_
  rintro e w' ⟨rfl, hP', hf⟩
  exact ⟨rfl, hf, PS.step hX hP hO hlx hL hb hd hf hP'⟩

theorem wordType_is (nm : ByteArray) (k : Nat) (hk : k < 7) (he : wd k = nm) (w : World) (hw : Words w) :
    Calls Tryz.prog 253 #[.string nm] w fun e w' => e = .returned (.tuple #[.pointer (some ⟨w.heap.size, 0, none⟩), .bool true]) ∧ w' = w.alloc (.cells #[.int .i64 k, .slice none 0 0, .int .i64 1] 196) := by
  subst he
  exact wordType_some k hk w hw

theorem extract_empty {s : ByteArray} {n m : Nat} (h1 : n ≤ m) (h2 : m ≤ s.size) : (s.extract n m = ⟨#[]⟩) ↔ m = n := by
  constructor
  · intro h
    have h' := congrArg ByteArray.size h
    have h0 : (⟨#[]⟩ : ByteArray).size = 0 := rfl
    rw [h0] at h'
    simp [ByteArray.size_extract] at h'
    omega
  · intro h
    subst h
    apply ByteArray.ext
    simp
theorem isEmpty_bytes (a : ByteArray) : a.toList.isEmpty = decide (a = ⟨#[]⟩) := by
  rw [← strEq, ByteArray.toList_eq, ByteArray.toList_eq]
  cases a.data.toList <;> rfl
theorem name_empty {s : ByteArray} {n : Nat} (h : n ≤ s.size) : (nameAt s n).toList.isEmpty = decide (lettersTo s n 6 = n) := by
  rw [isEmpty_bytes]
  have := extract_empty (s := s) (lettersTo_ge s 6 n) (lettersTo_le s 6 n h)
  simp [nameAt, this]

/-- What newName leaves. -/
def NamePost (w : World) (X : Nat → Prop) (pb : Nat) (s : ByteArray) (n : Nat) (lv : Value) (lines : List (ByteArray × PT)) (others : List ByteArray) (bad deep : Option Nat) (e : Ending) (w' : World) : Prop :=
  Fr (One pb) w w' ∧ (∃ v, e = .returned (.tuple #[.string v, .bool (nameOk s n)]) ∧ (nameOk s n = true → v = nameAt s n)) ∧
    PS w' X pb s (lettersTo s n 6) lv lines (if nameOk s n = true then nameBad s others n bad else bad) deep

set_option maxHeartbeats 2000000 in
theorem newName_any {w : World} {X : Nat → Prop} {pb : Nat} {s : ByteArray} {n : Nat} {lv : Value} {lines : List (ByteArray × PT)} {bad deep : Option Nat} (hX : X pb) (h : PS w X pb s n lv lines bad deep) (hw : Words w) (hs : s.size ≤ maxLen) (hle : n ≤ s.size)
    (ov : Value) (orows : List (ByteArray × Addr)) (hol : orows.length ≤ 1000) (hO : w.ownsRow 0 180 2 ov orows.length (rowCells orows)) (hne : ∀ g, ov.ownBlock = some g → ¬ One pb g) :
    Calls Tryz.prog 229 #[.pointer (some ⟨pb, 0, none⟩), ov] w fun e w' => NamePost w X pb s n lv lines (orows.map (·.1)) bad deep e w' := by
  have h0 := h.at0
  have hn1 := hide (h.not1 hw)
  have HS := hide h
  have HW := hide hw
  have HO := hide hO
  have HN := hide hne
  have hE := hide (name_empty (s := s) hle)
  clear h hw hO hne
  go_enter Tryz.func229, Tryz.ntmps229
  go_wp2_with fail
  refine (at_any pb n _ h0).mono ?_
  rintro e w0 ⟨rfl, e0⟩
  obtain rfl := e0.symm
  clear h0
  go_wp2_with fail
  refine (psLetters hX HS hs hle).mono ?_
  rintro e w1 ⟨rfl, hF1, hS1⟩
  have HF1 := hide hF1
  have HS1 := hide hS1
  have HW1 := hide (HW.out.keep hF1 hn1)
  clear hF1 hS1
  go_wp2_with fail
  rcases hk : wordIdx (nameAt s n) with _ | k
  · refine (wordType_none (nameAt s n) _ HW1 (wordIdx_none hk)).mono ?_
    rintro e w2 ⟨rfl, e2⟩
    obtain rfl := e2.symm
    by_cases hm : lettersTo s n 6 = n
    · have hOK : Hid (nameOk s n = false) := by simp [Hid, nameOk, hm]
      have hb := hE.out
      rw [decide_eq_true hm] at hb
      have HM := hide hm
      have HK := hide hk
      clear hm hk
      generalize nameAt s n = nm at *
      go_wp2_with fail
      go_ret2
      refine ⟨HF1, ⟨⟨#[]⟩, by rw [hOK.out]; rfl, fun h => by rw [hOK.out] at h; cases h⟩, by rw [hOK.out]; exact HS1⟩
    · have hOK : Hid (nameOk s n = true) := by simp [Hid, nameOk, hm, hk]
      have hb := hE.out
      rw [decide_eq_false hm] at hb
      have HM := hide hm
      have HK := hide hk
      clear hm hk
      have HO1 := hide (ownsRow_keep HO.out HF1 HN.out)
      generalize hnm : nameAt s n = nm at *
      have HNM := hide hnm
      clear hnm
      go_wp2_with fail
      refine (find_any ov orows nm 0 _ hol HO1).mono ?_
      rintro e w3 ⟨rfl, hF3⟩
      have HF3 := hide (HF1.out.trans hF3.of0)
      have HS3 := hide (PS.keep0 hX HS1 hF3)
      clear hF3
      have hfm := findRow_mem (nm := nm) (rows := orows)
      unfold foundV
      rcases hfr : findRow nm orows with _ | a
      · rw [hfr] at hfm
        have HFM := hide hfm
        clear hfm hfr
        go_wp2_with fail
        go_ret2
        refine ⟨HF3, ⟨nm, by rw [hOK.out]; rfl, fun _ => HNM.out.symm⟩, ?_⟩
        rw [hOK.out, if_pos rfl, nameBad, HNM.out, ← HFM.out]
        exact HS3
      · rw [hfr] at hfm
        have HFM := hide hfm
        clear hfm hfr
        go_wp2_with fail
        refine (psRefuseName hX HS3 n).mono ?_
        rintro e w4 ⟨rfl, hF4, hS4⟩
        have HF4 := hide (HF3.out.trans hF4)
        have HS4 := hide hS4
        clear hF4 hS4
        go_wp2_with fail
        go_ret2
        refine ⟨HF4, ⟨nm, by rw [hOK.out]; rfl, fun _ => HNM.out.symm⟩, ?_⟩
        rw [hOK.out, if_pos rfl, nameBad, HNM.out, ← HFM.out]
        exact HS4
  · obtain ⟨hk7, hke⟩ := wordIdx_some hk
    have hOK : Hid (nameOk s n = false) := by simp [Hid, nameOk, hk]
    refine (wordType_is (nameAt s n) k hk7 hke _ HW1).mono ?_
    rintro e w2 ⟨rfl, rfl⟩
    clear hk hke
    go_wp2_with fail
    go_ret2
    refine ⟨HF1.out.trans (Fr.alloc _ _ _), ⟨⟨#[]⟩, by rw [hOK.out]; rfl, fun h => by rw [hOK.out] at h; cases h⟩, by rw [hOK.out]; exact PS.keep0 hX HS1 (Fr.alloc _ _ _)⟩

end Go.Proofs.YtapblkmlhoalgaaGreatDoor
