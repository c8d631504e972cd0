/- What namedType, around and part do. -/
import Derived.Test.YtapblkmlhoalgaaGreatDoorCompound
namespace Go.Proofs.YtapblkmlhoalgaaGreatDoor
open Go.RowKit

theorem TR.leaf {w : World} {X : Nat → Prop} {b : Nat} {kind depth : Nat} (hb : w.heap[b]? = some (.cells #[.int .i64 kind, .slice none 0 0, .int .i64 depth] 196 (0, 0))) (hx : ¬ X b) : TR w X ⟨b, 0, none⟩ ⟨kind, depth, [], []⟩ :=
  ⟨1, b, .slice none 0 0, [], rfl, hb, hx, World.ownsRow_nil _ _ _ _, fun g hg => by simp [Value.ownBlock] at hg, rfl, rfl, fun j p u hp => by simp at hp⟩

theorem not_new {X : Nat → Prop} {w w' : World} {Y : Nat → Prop} (hX : ∀ b, X b → b < w.heap.size) (hf : Fr Y w w') {k : Nat} (hk : w'.heap.size ≤ k) : ¬ X k := fun h => by
  have := hX k h
  have := hf.size
  omega

set_option maxHeartbeats 2000000 in
theorem namedType_any {w : World} {X : Nat → Prop} {pb : Nat} {s : ByteArray} {n : Nat} {lv : Value} {lines : List (ByteArray × PT)} {bad deep : Option Nat} (hX : X pb) (h : PS w X pb s n lv lines bad deep) (hw : Words w) (hXlt : ∀ b, X b → b < w.heap.size) (hs : s.size ≤ maxLen) (hle : n ≤ s.size) (hll : lines.length ≤ 1000) :
    Calls Tryz.prog 258 #[.pointer (some ⟨pb, 0, none⟩)] w fun e w' => TypPost w X pb s lv lines deep (pNamed s lines n bad) e w' := by
  have h0 := h.at0
  have hn1 := hide (h.not1 hw)
  have HS := hide h
  have HW := hide hw
  have HX := hide hXlt
  have hE := hide (name_empty (s := s) hle)
  have hML := hide (lettersTo_le s 6 n hle)
  clear h hw hXlt
  go_enter Tryz.func258, Tryz.ntmps258
  go_wp2_with fail
  refine (at_any pb n _ h0).mono ?_
  rintro e w0 ⟨rfl, e0⟩
  obtain rfl := e0.symm
  clear h0
  go_wp2_with fail
  refine (psLetters hX HS hs hle).mono ?_
  rintro e w1 ⟨rfl, hF1, hS1⟩
  have HF1 := hide hF1
  have HS1 := hide hS1
  have HW1 := hide (HW.out.keep hF1 hn1)
  clear hF1 hS1
  by_cases hm : lettersTo s n 6 = n
  · have hR : Hid (pNamed s lines n bad = noRes n bad) := by simp [Hid, pNamed, hm]
    have hb := hE.out
    rw [decide_eq_true hm] at hb
    have HM := hide hm
    clear hm
    generalize nameAt s n = nm at *
    go_wp2_with fail
    go_ret2
    rw [hR.out]
    exact ⟨HF1, hle, ⟨bad, by rw [HM.out] at HS1; exact HS1, fun h => by cases h⟩, none, rfl, fun h => by cases h⟩
  · have hb := hE.out
    rw [decide_eq_false hm] at hb
    have HM := hide hm
    clear hm
    have hun : Hid (pNamed s lines n bad = match wordIdx (nameAt s n) with
        | some k => ⟨true, PT.word k, lettersTo s n 6, bad⟩
        | none => match lineOf (nameAt s n) lines with
          | some t => ⟨true, t, lettersTo s n 6, bad⟩
          | none => ⟨true, PT.dummy, lettersTo s n 6, orElse bad n⟩) := by simp only [Hid, pNamed]; rw [if_neg HM.out]; rfl
    generalize nameAt s n = nm at *
    go_wp2_with fail
    rcases hk : wordIdx nm with _ | k
    · refine (wordType_none nm _ HW1 (wordIdx_none hk)).mono ?_
      rintro e w2 ⟨rfl, e2⟩
      obtain rfl := e2.symm
      rw [hk] at hun
      clear hk
      obtain ⟨bn, td, rows, hP, hO, hlx, hL, hbn, htd⟩ := HS1.out
      have c2 := hP.at2
      have HL := hide hL
      have HO := hide hO
      have hrl : rows.length ≤ 1000 := by rw [hL.length]; exact hll
      clear hP hO hlx hL hbn htd
      go_wp2_with fail
      refine (find_any lv rows nm 0 _ hrl HO).mono ?_
      rintro e w3 ⟨rfl, hF3⟩
      have HF3 := hide (HF1.out.trans hF3.of0)
      have HS3 := hide (PS.keep0 hX HS1 hF3)
      have HL3 := hide (HL.out.keep hF3.of0)
      clear hF3 c2
      unfold foundV
      rcases HL3.out.find (nm := nm) with ⟨f1, f2⟩ | ⟨a, t, f1, f2, ht⟩
      · rw [f1]
        have hR : Hid (pNamed s lines n bad = ⟨true, PT.dummy, lettersTo s n 6, orElse bad n⟩) := by
          have := hun.out
          rw [f2] at this
          exact this
        clear f1 f2 hun
        go_wp2_with fail
        refine (psRefuseName hX HS3 n).mono ?_
        rintro e w4 ⟨rfl, hF4, hS4⟩
        have HF4 := hide (HF3.out.trans hF4)
        have HS4 := hide hS4
        clear hF4 hS4
        go_wp2_with fail
        go_ret2
        rw [hR.out]
        exact ⟨HF4.out.trans (Fr.alloc _ _ _), hML, ⟨_, PS.keep0 hX HS4 (Fr.alloc _ _ _), fun _ => rfl⟩, some ⟨w4.heap.size, 0, none⟩, rfl, fun _ => ⟨_, rfl, TR.leaf (heap_new_at rfl _) (not_new HX HF4.out (Nat.le_refl _))⟩⟩
      · rw [f1]
        have hR : Hid (pNamed s lines n bad = ⟨true, t, lettersTo s n 6, bad⟩) := by
          have := hun.out
          rw [f2] at this
          exact this
        have HT := hide ht
        clear f1 f2 hun ht
        go_wp2_with fail
        go_ret2
        rw [hR.out]
        exact ⟨HF3, hML, ⟨_, HS3, fun _ => rfl⟩, some a, rfl, fun _ => ⟨_, rfl, HT⟩⟩
    · obtain ⟨hk7, hke⟩ := wordIdx_some hk
      refine (wordType_is nm k hk7 hke _ HW1).mono ?_
      rintro e w2 ⟨rfl, rfl⟩
      have hR : Hid (pNamed s lines n bad = ⟨true, PT.word k, lettersTo s n 6, bad⟩) := by
        have := hun.out
        rw [hk] at this
        exact this
      clear hk hke hun
      go_wp2_with fail
      go_ret2
      rw [hR.out]
      exact ⟨HF1.out.trans (Fr.alloc _ _ _), hML, ⟨_, PS.keep0 hX HS1 (Fr.alloc _ _ _), fun _ => rfl⟩, some ⟨w1.heap.size, 0, none⟩, rfl, fun _ => ⟨_, rfl, TR.leaf (heap_new_at rfl _) (not_new HX HF1.out (Nat.le_refl _))⟩⟩

def aroundR (kind : Nat) (r : Res) : Res := if r.ok = false then noRes r.n r.bad else ⟨true, compoundT kind [(⟨#[]⟩, r.t)], r.n, r.bad⟩

theorem ownsRow_one (w : World) (nm : ByteArray) (a : Addr) : (w.alloc (.cells #[.string nm, .pointer (some a)] 180)).ownsRow 0 180 2 (.slice (some ⟨w.heap.size, 0, none⟩) 1 1) 1 (rowCells [(nm, a)]) :=
  ⟨rfl, .inr ⟨w.heap.size, 1, _, rfl, Nat.zero_le _, heap_new_at rfl _, Nat.le_refl _, by unfold maxLen; omega, rfl, rfl⟩⟩

set_option maxHeartbeats 2000000 in
theorem around_any {w : World} {X : Nat → Prop} {pb : Nat} {s : ByteArray} {n f : Nat} {lv : Value} {lines : List (ByteArray × PT)} {bad deep : Option Nat} (hT : TypSaid s lines f) (hX : X pb) (h : PS w X pb s n lv lines bad deep) (hw : Words w) (hXlt : ∀ b, X b → b < w.heap.size)
    (hle : n ≤ s.size) (hf : s.size < n + f) (kind : Nat) (hd : (pTyp s lines f n bad).t.depth ≤ 1000000) :
    Calls Tryz.prog 256 #[.pointer (some ⟨pb, 0, none⟩), .int .i64 kind] w fun e w' => TypPost w X pb s lv lines deep (aroundR kind (pTyp s lines f n bad)) e w' := by
  have HT := hide (hT w X pb n lv bad deep h hw hX hXlt hle hf)
  have HX := hide hXlt
  clear hT h hw hXlt hle hf
  generalize pTyp s lines f n bad = r at *
  go_enter Tryz.func256, Tryz.ntmps256
  go_wp2_with fail
  refine HT.out.mono ?_
  rintro e w1 ⟨hF, hn, ⟨bad', hS, hbad⟩, a, rfl, hok⟩
  have HF := hide hF
  have HS := hide hS
  clear hF hS
  rcases hr : r.ok with _ | _
  · have HR := hide hr
    clear hr hok hbad
    go_wp2_with fail
    go_ret2
    simp only [aroundR, HR.out, if_true]
    exact ⟨HF, hn, ⟨bad', HS, fun h => by cases h⟩, none, rfl, fun h => by cases h⟩
  · have HR := hide hr
    obtain ⟨a', rfl, ht⟩ := hok hr
    have HTR := hide ht
    have HB := hide (hbad hr)
    clear hr hok hbad ht
    go_wp2_with fail
    refine (compound_row kind w1.heap.size 1 0 [(⟨#[]⟩, a')] [(⟨#[]⟩, r.t)] X _ (by simp) (fun q hq => by simp at hq; subst hq; exact hd) ?_ (ownsRow_one w1 ⟨#[]⟩ a') (not_new HX HF.out (Nat.le_refl _)) (fun b hb => ?_)).mono ?_
    · refine ⟨rfl, fun j p q hp hq => ?_⟩
      cases j with
      | zero => simp at hp hq; subst hp hq; exact HTR.out.keep (Fr.alloc _ _ _)
      | succ j => simp at hp
    · have := HX b hb
      have := HF.out.size
      simp
      omega
    · rintro e w2 ⟨hF2, a2, rfl, ht2⟩
      have HF2 := hide (HF.out.trans ((Fr.alloc _ _ _).trans hF2.of0))
      have HS2 := hide (PS.keep0 hX HS ((Fr.alloc _ _ _).trans hF2))
      have HT2 := hide ht2
      clear hF2 ht2
      go_wp2_with fail
      go_ret2
      have e : aroundR kind r = ⟨true, compoundT kind [(⟨#[]⟩, r.t)], r.n, r.bad⟩ := by simp [aroundR, HR.out]
      rw [e]
      exact ⟨HF2, hn, ⟨bad', HS2, fun _ => HB⟩, some a2, rfl, fun _ => ⟨a2, rfl, HT2⟩⟩

end Go.Proofs.YtapblkmlhoalgaaGreatDoor
