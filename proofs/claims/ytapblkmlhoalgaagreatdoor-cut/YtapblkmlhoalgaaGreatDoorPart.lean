/- What part does. -/
import Derived.Test.YtapblkmlhoalgaaGreatDoorNamed
namespace Go.Proofs.YtapblkmlhoalgaaGreatDoor
open Go.RowKit

/-- What part leaves. -/
def PartPost (w : World) (X : Nat → Prop) (pb : Nat) (s : ByteArray) (n : Nat) (lv : Value) (lines : List (ByteArray × PT)) (deep : Option Nat) (r : Res) (e : Ending) (w' : World) : Prop :=
  Fr (One pb) w w' ∧ r.n ≤ s.size ∧ (∃ bad', PS w' X pb s r.n lv lines bad' deep ∧ (r.ok = true → bad' = r.bad)) ∧
    ∃ (nm : ByteArray) (a : Option Addr), e = .returned (.tuple #[.agg #[.string nm, .pointer a], .bool r.ok]) ∧ (r.ok = true → nm = nameAt s n ∧ ∃ a', a = some a' ∧ TR w' X a' r.t)

theorem heap_alloc_same {w w' : World} {o o' : Obj} {X : Nat → Prop} (hf : Fr X (w.alloc o) w') (hx : ¬ X w.heap.size) (he : o = o') : w'.heap[w.heap.size]? = some o' := by
  subst he
  exact hf.keep (heap_new_at rfl o) hx

theorem RefV.keepT {w w' : World} {errno : Int} {v : Value} {r : Option Nat} {rb : Nat} {c : Array Value} {t : TypeId} {fz : Nat × Nat} (h : RefV w errno v r) (hrb : w.heap[rb]? = some (.cells c t fz)) (ht : t ≠ 114) (hf : Fr (One rb) w w') : RefV w' errno v r := by
  cases r with
  | none => exact h
  | some m =>
    obtain ⟨b, hv, hb⟩ := h
    refine ⟨b, hv, hf.keep hb (fun e => ?_)⟩
    have e' : b = rb := e
    subst e'
    rw [hb] at hrb
    simp at hrb
    exact ht hrb.2.1.symm

theorem PS.avoid {w : World} {X Y : Nat → Prop} {pb : Nat} {s : ByteArray} {n : Nat} {lv : Value} {lines : List (ByteArray × PT)} {bad deep : Option Nat} (h : PS w X pb s n lv lines bad deep) (hxy : ∀ b, b < w.heap.size → Y b → X b) (hl : ∀ g, lv.ownBlock = some g → Y g) : PS w Y pb s n lv lines bad deep := by
  obtain ⟨bn, td, rows, hP, hO, hlx, hL, hb, hd⟩ := h
  exact ⟨bn, td, rows, hP, hO, hl, hL.avoid hxy, hb, hd⟩

theorem PS.lx {w : World} {X : Nat → Prop} {pb : Nat} {s : ByteArray} {n : Nat} {lv : Value} {lines : List (ByteArray × PT)} {bad deep : Option Nat} (h : PS w X pb s n lv lines bad deep) : ∀ g, lv.ownBlock = some g → X g := by
  obtain ⟨bn, td, rows, hP, hO, hlx, hL, hb, hd⟩ := h
  exact hlx

theorem PS.other {w w' : World} {X : Nat → Prop} {pb rb : Nat} {s : ByteArray} {n : Nat} {lv : Value} {lines : List (ByteArray × PT)} {bad deep : Option Nat} {c : Array Value} {fz : Nat × Nat} (h : PS w X pb s n lv lines bad deep) (hrb : w.heap[rb]? = some (.cells c 180 fz)) (hXr : X rb) (hl : ∀ g, lv.ownBlock = some g → g ≠ rb) (hf : Fr (One rb) w w') : PS w' X pb s n lv lines bad deep := by
  obtain ⟨bn, td, rows, hP, hO, hlx, hL, hb, hd⟩ := h
  refine ⟨bn, td, rows, hf.keep hP (fun e => ?_), ownsRow_keep hO hf (fun g hg e => hl g hg e), hlx, hL.keep (hf.one hXr), hb.keepT hrb (by decide) hf, hd.keepT hrb (by decide) hf⟩
  have e' : pb = rb := e
  subst e'
  unfold PB at hP
  rw [hP] at hrb
  simp at hrb

theorem Fr.setNew {X : Nat → Prop} {w w1 : World} (h : Fr X w w1) {a : Addr} (ha : w.heap.size ≤ a.block) (v : Value) : Fr X w (w1.setCell a v) :=
  ⟨h.os, h.tape, h.output, by simp [World.setCell]; exact h.size, fun k hk hx => by rw [Below.heap_setCell _ _ _ _ (by omega)]; exact h.block k hk hx⟩

theorem two_set {w : World} {rb : Nat} {x y a b : Value} {t : TypeId} {fz : Nat × Nat} (h : w.heap[rb]? = some (.cells #[x, y] t fz)) : ((w.setCell ⟨rb, 0, none⟩ a).setCell ⟨rb, 1, none⟩ b).heap[rb]? = some (.cells #[a, b] t fz) := by
  rw [heap_setCell_same (heap_setCell_same h)]; rfl

theorem Fr.two (w : World) (b : Nat) (x y : Value) : Fr (One b) w ((w.setCell ⟨b, 0, none⟩ x).setCell ⟨b, 1, none⟩ y) :=
  (Fr.setCell (One b) w ⟨b, 0, none⟩ x rfl).trans (Fr.setCell (One b) _ ⟨b, 1, none⟩ y rfl)

/-- X, and one block more. -/
def More (X : Nat → Prop) (b : Nat) : Nat → Prop := fun k => X k ∨ k = b

theorem More.lt {X : Nat → Prop} {w : World} (hX : ∀ b, X b → b < w.heap.size) (o : Obj) : ∀ b, More X w.heap.size b → b < (w.alloc o).heap.size := by
  intro b hb
  rcases hb with h | h
  · have := hX b h; simp; omega
  · simp; omega
theorem More.old {X : Nat → Prop} {w : World} : ∀ b, b < w.heap.size → More X w.heap.size b → X b := by
  intro b hb h
  rcases h with h | h
  · exact h
  · omega

set_option maxHeartbeats 4000000 in
theorem part_any {w : World} {X : Nat → Prop} {pb : Nat} {s : ByteArray} {n f : Nat} {lv : Value} {lines : List (ByteArray × PT)} {bad deep : Option Nat} (hT : TypSaid s lines f) (hX : X pb) (h : PS w X pb s n lv lines bad deep) (hw : Words w) (hXlt : ∀ b, X b → b < w.heap.size) (hs : s.size ≤ maxLen)
    (hle : n ≤ s.size) (hf : s.size < n + f) (ov : Value) (orows : List (ByteArray × Addr)) (hol : orows.length ≤ 1000) (hO : w.ownsRow 0 180 2 ov orows.length (rowCells orows)) (hne : ∀ g, ov.ownBlock = some g → ¬ One pb g) (sign : Nat) (hsg : sign < 256) :
    Calls Tryz.prog 214 #[.pointer (some ⟨pb, 0, none⟩), ov, .int .u8 sign] w fun e w' => PartPost w X pb s n lv lines deep (pPart (pTyp s lines f) s (orows.map (·.1)) sign n bad) e w' := by
  have hpl : pb < w.heap.size := hXlt pb hX
  have hn1 := hide (h.not1 hw)
  have HLX := hide h.lx
  have hX' : More X w.heap.size pb := .inl hX
  have HS := hide (PS.keep0 (w' := w.alloc (.cells #[.string ⟨#[]⟩, .pointer none] 180)) hX' (h.avoid More.old (fun g hg => .inl (h.lx g hg))) (Fr.alloc _ _ _))
  have HW := hide (Words.keep hw (Fr.alloc Zero w (.cells #[.string ⟨#[]⟩, .pointer none] 180)) (fun h => h))
  have HO := hide (hO.alloc (.cells #[.string ⟨#[]⟩, .pointer none] 180))
  have HX := hide hXlt
  have HX' := hide (More.lt hXlt (.cells #[.string ⟨#[]⟩, .pointer none] 180))
  have HN := hide hne
  have HT := hide hT
  have hML := lettersTo_le s 6 n hle
  have hMG := lettersTo_ge s 6 n
  have HLR : Hid (∀ g, lv.ownBlock = some g → g ≠ w.heap.size) := fun g hg => by have := hXlt g (h.lx g hg); omega
  clear h hw hO hXlt hne hT
  go_enter Tryz.func214, Tryz.ntmps214
  go_wp2_with fail
  refine (newName_any hX' HS HW hs hle ov orows hol HO HN).mono ?_
  rintro e w1 ⟨hF1, ⟨v, rfl, hv⟩, hS1⟩
  have hrb : w1.heap[w.heap.size]? = some (.cells #[.string ⟨#[]⟩, .pointer none] 180 (0, 0)) := heap_alloc_same hF1 (fun e => by have e' : w.heap.size = pb := e; omega) rfl
  have HF1 := hide ((Fr.alloc _ _ _).trans hF1)
  have HFF := hide hF1
  have HS1 := hide hS1
  have HW1 := hide (HW.out.keep hF1 hn1)
  have HRB := hide hrb
  clear hF1 hS1 hrb
  rcases hk : nameOk s n with _ | _
  · have hR : Hid (pPart (pTyp s lines f) s (orows.map (·.1)) sign n bad = noRes (lettersTo s n 6) bad) := by simp [Hid, pPart, hk]
    rw [hk, if_neg (by simp)] at HS1
    clear hk hv
    have c0 : w1.cell? ⟨w.heap.size, 0, none⟩ = some (.string ⟨#[]⟩) := by rw [cell_of_heap HRB]; rfl
    have c1 : w1.cell? ⟨w.heap.size, 1, none⟩ = some (.pointer none) := by rw [cell_of_heap HRB]; rfl
    have f0 : w1.frozen? ⟨w.heap.size, 0, none⟩ = false := free_of_heap HRB
    have f1 : w1.frozen? ⟨w.heap.size, 1, none⟩ = false := free_of_heap HRB
    go_wp2_with fail
    have h2 := two_set (a := .string ⟨#[]⟩) (b := .pointer none) HRB.out
    have k0 := cell_of_heap (o := 0) h2
    have k1 := cell_of_heap (o := 1) h2
    refine bodyPost_ret (v := .tuple #[.agg #[.string ⟨#[]⟩, .pointer none], .bool false]) (by simp [results, Tryz.results214, go_sem, k0, k1]) rfl ?_
    rw [hR.out]
    have hF2 : Fr (One w.heap.size) w1 ((w1.setCell ⟨w.heap.size, 0, none⟩ (.string ⟨#[]⟩)).setCell ⟨w.heap.size, 1, none⟩ (.pointer none)) := Fr.two _ _ _ _
    exact ⟨(HF1.out.setNew (Nat.le_refl _) _).setNew (Nat.le_refl _) _, hML, ⟨bad, (PS.other HS1 HRB (.inr rfl) HLR hF2).avoid (fun b _ hb => .inl hb) HLX, fun h => by cases h⟩, ⟨#[]⟩, none, rfl, fun h => by cases h⟩
  · rw [hk, if_pos rfl] at HS1
    have hnm := hv hk
    subst hnm
    by_cases hc : byteAt s (lettersTo s n 6) = sign
    · have hR : Hid (pPart (pTyp s lines f) s (orows.map (·.1)) sign n bad = pTyp s lines f (lettersTo s n 6 + 1) (nameBad s (orows.map (·.1)) n bad)) := by simp [Hid, pPart, hk, hc]
      have hcI : Hid ((byteAt s (lettersTo s n 6) : Int) = sign) := by simp [Hid, hc]
      have hm1 : lettersTo s n 6 + 1 ≤ s.size := byteAt_in (by omega)
      clear hk hv hc
      generalize hnm : nameAt s n = nm at *
      have HNM := hide hnm
      clear hnm
      go_wp2_with fail
      refine (psAccept_yes hX' HS1 hs sign hcI (by omega)).mono ?_
      rintro e w2 ⟨rfl, hF2, hS2⟩
      have HS2 := hide hS2
      have HF2 := hide hF2
      clear hF2 hS2
      go_wp2_with fail
      refine (HT.out w2 (More X w.heap.size) pb _ lv _ deep HS2 (HW1.out.keep HF2 hn1) hX' (fun b hb => ?_) hm1 (by omega)).mono ?_
      · exact Nat.lt_of_lt_of_le (HX' b hb) (Nat.le_trans HFF.out.size HF2.out.size)
      generalize hr : pTyp s lines f (lettersTo s n 6 + 1) (nameBad s (orows.map (·.1)) n bad) = r at *
      rintro e w3 ⟨hF3, hn3, ⟨bad', hS3, hbad⟩, a, rfl, hok⟩
      have hrb3 : w3.heap[w.heap.size]? = some (.cells #[.string ⟨#[]⟩, .pointer none] 180 (0, 0)) :=
        hF3.keep (HF2.out.keep HRB (fun e => by have e' : w.heap.size = pb := e; omega)) (fun e => by have e' : w.heap.size = pb := e; omega)
      have c0 : w3.cell? ⟨w.heap.size, 0, none⟩ = some (.string ⟨#[]⟩) := by rw [cell_of_heap hrb3]; rfl
      have c1 : w3.cell? ⟨w.heap.size, 1, none⟩ = some (.pointer none) := by rw [cell_of_heap hrb3]; rfl
      have f0 : w3.frozen? ⟨w.heap.size, 0, none⟩ = false := free_of_heap hrb3
      have f1 : w3.frozen? ⟨w.heap.size, 1, none⟩ = false := free_of_heap hrb3
      have HRB3 := hide hrb3
      have HF3 := hide (HF1.out.trans (HF2.out.trans hF3))
      have HS3 := hide hS3
      have HOK := hide hok
      have HBAD := hide hbad
      have HRR := hide hr
      clear hrb3 hF3 hS3 hok hbad hr
      go_wp2_with fail
      have h2 := two_set (a := .string nm) (b := .pointer a) HRB3.out
      have k0 := cell_of_heap (o := 0) h2
      have k1 := cell_of_heap (o := 1) h2
      refine bodyPost_ret (v := .tuple #[.agg #[.string nm, .pointer a], .bool r.ok]) (by simp [results, Tryz.results214, go_sem, k0, k1]) rfl ?_
      rw [hR.out]
      have hF4 : Fr (One w.heap.size) w3 ((w3.setCell ⟨w.heap.size, 0, none⟩ (.string nm)).setCell ⟨w.heap.size, 1, none⟩ (.pointer a)) := Fr.two _ _ _ _
      exact ⟨(HF3.out.setNew (Nat.le_refl _) _).setNew (Nat.le_refl _) _, hn3, ⟨bad', (PS.other HS3 HRB3 (.inr rfl) HLR hF4).avoid (fun b _ hb => .inl hb) HLX, HBAD⟩, nm, a, rfl, fun h => ⟨HNM.out.symm, by
        obtain ⟨a', e, ht⟩ := HOK.out h
        exact ⟨a', e, (ht.keep (hF4.one (.inr rfl))).avoid (fun b _ hb => .inl hb)⟩⟩⟩
    · have hR : Hid (pPart (pTyp s lines f) s (orows.map (·.1)) sign n bad = noRes (lettersTo s n 6) (nameBad s (orows.map (·.1)) n bad)) := by simp [Hid, pPart, hk, hc]
      have hcI : Hid ((byteAt s (lettersTo s n 6) : Int) ≠ sign) := fun e => hc (by omega)
      clear hk hv hc
      generalize nameAt s n = nm at *
      go_wp2_with fail
      refine (psAccept_no hX' HS1 hs hML sign hcI).mono ?_
      rintro e w2 ⟨rfl, hF2, hS2⟩
      have hrb3 : w2.heap[w.heap.size]? = some (.cells #[.string ⟨#[]⟩, .pointer none] 180 (0, 0)) :=
        hF2.keep HRB (fun e => by have e' : w.heap.size = pb := e; omega)
      have c0 : w2.cell? ⟨w.heap.size, 0, none⟩ = some (.string ⟨#[]⟩) := by rw [cell_of_heap hrb3]; rfl
      have c1 : w2.cell? ⟨w.heap.size, 1, none⟩ = some (.pointer none) := by rw [cell_of_heap hrb3]; rfl
      have f0 : w2.frozen? ⟨w.heap.size, 0, none⟩ = false := free_of_heap hrb3
      have f1 : w2.frozen? ⟨w.heap.size, 1, none⟩ = false := free_of_heap hrb3
      have HS2 := hide hS2
      have HF2 := hide (HF1.out.trans hF2)
      have HRB3 := hide hrb3
      clear hF2 hS2 hrb3
      go_wp2_with fail
      have h2 := two_set (a := .string ⟨#[]⟩) (b := .pointer none) HRB3.out
      have k0 := cell_of_heap (o := 0) h2
      have k1 := cell_of_heap (o := 1) h2
      refine bodyPost_ret (v := .tuple #[.agg #[.string ⟨#[]⟩, .pointer none], .bool false]) (by simp [results, Tryz.results214, go_sem, k0, k1]) rfl ?_
      rw [hR.out]
      have hF4 : Fr (One w.heap.size) w2 ((w2.setCell ⟨w.heap.size, 0, none⟩ (.string ⟨#[]⟩)).setCell ⟨w.heap.size, 1, none⟩ (.pointer none)) := Fr.two _ _ _ _
      exact ⟨(HF2.out.setNew (Nat.le_refl _) _).setNew (Nat.le_refl _) _, hML, ⟨_, (PS.other HS2 HRB3 (.inr rfl) HLR hF4).avoid (fun b _ hb => .inl hb) HLX, fun h => by cases h⟩, ⟨#[]⟩, none, rfl, fun h => by cases h⟩

theorem part_at {w : World} {X : Nat → Prop} {pb : Nat} {s : ByteArray} {n f : Nat} {lv : Value} {lines : List (ByteArray × PT)} {bad deep : Option Nat} (hT : TypSaid s lines f) (hX : X pb) (h : PS w X pb s n lv lines bad deep) (hw : Words w) (hXlt : ∀ b, X b → b < w.heap.size) (hs : s.size ≤ maxLen)
    (hle : n ≤ s.size) (hf : s.size < n + f) (ov : Value) (orows : List (ByteArray × Addr)) (hol : orows.length ≤ 1000) (hO : w.ownsRow 0 180 2 ov orows.length (rowCells orows)) (hne : ∀ g, ov.ownBlock = some g → ¬ One pb g) (sg : Int) (sign : Nat) (hsg : sign < 256) (he : sg = (sign : Int)) :
    Calls Tryz.prog 214 #[.pointer (some ⟨pb, 0, none⟩), ov, .int .u8 sg] w fun e w' => PartPost w X pb s n lv lines deep (pPart (pTyp s lines f) s (orows.map (·.1)) sign n bad) e w' := by
  subst he
  exact part_any hT hX h hw hXlt hs hle hf ov orows hol hO hne sign hsg

end Go.Proofs.YtapblkmlhoalgaaGreatDoor
