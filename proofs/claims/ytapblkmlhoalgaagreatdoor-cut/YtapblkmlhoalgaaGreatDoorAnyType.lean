/- What anyType does, by how much text is left. -/
import Derived.Test.YtapblkmlhoalgaaGreatDoorParts
namespace Go.Proofs.YtapblkmlhoalgaaGreatDoor
open Go.RowKit

theorem around_at {w : World} {X : Nat → Prop} {pb : Nat} {s : ByteArray} {n f : Nat} {lv : Value} {lines : List (ByteArray × PT)} {bad deep : Option Nat} (hT : TypSaid s lines f) (hX : X pb) (h : PS w X pb s n lv lines bad deep) (hw : Words w) (hXlt : ∀ b, X b → b < w.heap.size)
    (hle : n ≤ s.size) (hf : s.size < n + f) (kI : Int) (kind : Nat) (he : kI = (kind : Int)) (hd : (pTyp s lines f n bad).t.depth ≤ 1000000) :
    Calls Tryz.prog 256 #[.pointer (some ⟨pb, 0, none⟩), .int .i64 kI] w fun e w' => TypPost w X pb s lv lines deep (aroundR kind (pTyp s lines f n bad)) e w' := by
  subst he
  exact around_any hT hX h hw hXlt hle hf kind hd

theorem parts_at {w : World} {X : Nat → Prop} {pb : Nat} {s : ByteArray} {n f : Nat} {lv : Value} {lines : List (ByteArray × PT)} {bad deep : Option Nat} (hT : TypSaid s lines f) (hX : X pb) (h : PS w X pb s n lv lines bad deep) (hw : Words w) (hXlt : ∀ b, X b → b < w.heap.size) (hs : s.size ≤ maxLen)
    (hle : n ≤ s.size) (hf : s.size < n + f) (kI bI cI : Int) (kind btw close : Nat) (hk : kI = (kind : Int)) (hb : bI = (btw : Int)) (hc : cI = (close : Int)) (hbt : btw < 256) (hcl : close < 256) (hd : ∀ n bad, (pTyp s lines f n bad).t.depth ≤ 1000000) :
    Calls Tryz.prog 257 #[.pointer (some ⟨pb, 0, none⟩), .int .i64 kI, .int .u8 bI, .int .u8 cI] w fun e w' => TypPost w X pb s lv lines deep (pParts (pTyp s lines f) s kind btw close 6 [] n bad) e w' := by
  subst hk hb hc
  exact parts_any hT hX h hw hXlt hs hle hf kind btw close hbt hcl hd

theorem TypPost.after {w w0 : World} {X : Nat → Prop} {pb : Nat} {s : ByteArray} {lv : Value} {lines : List (ByteArray × PT)} {deep : Option Nat} {r : Res} {e : Ending} {w' : World} (h : TypPost w0 X pb s lv lines deep r e w') (hf : Fr (One pb) w w0) : TypPost w X pb s lv lines deep r e w' :=
  ⟨hf.trans h.1, h.2⟩

set_option maxHeartbeats 8000000 in
theorem typ_step {s : ByteArray} {f : Nat} {lines : List (ByteArray × PT)} (hT : TypSaid s lines f) (hs : s.size ≤ maxLen) (hd : ∀ n bad, (pTyp s lines f n bad).t.depth ≤ 1000000) (hll : lines.length ≤ 1000) : TypSaid s lines (f + 1) := by
  intro w X pb n lv bad deep h hw hX hXlt hle hfu
  have hn1 := hide (h.not1 hw)
  have HS := hide h
  have HW := hide hw
  have HX := hide hXlt
  have HT := hide hT
  have HD := hide hd
  clear h hw hXlt hT hd
  by_cases c1 : byteAt s n = 91
  · have HR : Hid (pTyp s lines (f + 1) n bad = if (pTyp s lines f (n + 1) bad).ok = false then noRes (pTyp s lines f (n + 1) bad).n (pTyp s lines f (n + 1) bad).bad else
        if byteAt s (pTyp s lines f (n + 1) bad).n = 93 then ⟨true, compoundT 7 [(⟨#[]⟩, (pTyp s lines f (n + 1) bad).t)], (pTyp s lines f (n + 1) bad).n + 1, (pTyp s lines f (n + 1) bad).bad⟩ else noRes (pTyp s lines f (n + 1) bad).n (pTyp s lines f (n + 1) bad).bad) := by
      show pTyp s lines (f + 1) n bad = _
      simp only [pTyp]
      rw [if_pos c1]
    have h1 : Hid ((byteAt s n : Int) = 91) := by show (byteAt s n : Int) = 91; omega
    have hn : n + 1 ≤ s.size := byteAt_in (by omega)
    clear c1
    go_enter Tryz.func230, Tryz.ntmps230
    go_wp2_with fail
    refine (psAccept_yes hX HS hs 91 h1 (by omega)).mono ?_
    rintro e w1 ⟨rfl, hF1, hS1⟩
    have HF1 := hide hF1
    have HS1 := hide hS1
    have HW1 := hide (HW.out.keep hF1 hn1)
    clear hF1 hS1
    go_wp2_with fail
    refine (around_at HT hX HS1 HW1 (fun b hb => Nat.lt_of_lt_of_le (HX b hb) HF1.out.size) hn (by omega) 7 7 rfl (HD _ _)).mono ?_
    generalize pTyp s lines f (n + 1) bad = r at *
    rintro e w2 ⟨hF2, hrn, ⟨bad2, hS2, hb2⟩, a, rfl, hok⟩
    have HF2 := hide (HF1.out.trans hF2)
    have HS2 := hide hS2
    have HB2 := hide hb2
    have HOK := hide hok
    have HRN := hide hrn
    clear hF2 hS2 hb2 hok hrn
    rcases hr : r.ok with _ | _
    · have ea : aroundR 7 r = noRes r.n r.bad := by simp [aroundR, hr]
      rw [ea] at HS2 HRN
      rw [ea]
      have HR2 : Hid (pTyp s lines (f + 1) n bad = noRes r.n r.bad) := HR.out.trans (by rw [hr]; rfl)
      clear hr ea HB2 HOK HR
      go_wp2_with fail
      go_ret2
      rw [HR2.out]
      exact ⟨HF2, HRN, ⟨bad2, HS2, fun h => by cases h⟩, a, rfl, fun h => by cases h⟩
    · have ea : aroundR 7 r = ⟨true, compoundT 7 [(⟨#[]⟩, r.t)], r.n, r.bad⟩ := by simp [aroundR, hr]
      rw [ea] at HS2 HRN HB2 HOK
      rw [ea]
      have HR2 : Hid (pTyp s lines (f + 1) n bad = if byteAt s r.n = 93 then ⟨true, compoundT 7 [(⟨#[]⟩, r.t)], r.n + 1, r.bad⟩ else noRes r.n r.bad) := HR.out.trans (by rw [hr]; rfl)
      obtain ⟨a', rfl, ht⟩ := HOK.out rfl
      have hbb : bad2 = r.bad := HB2.out rfl
      subst hbb
      have HTR := hide ht
      clear hr ea HB2 HOK HR ht
      by_cases hc : byteAt s r.n = 93
      · have HR3 : Hid (pTyp s lines (f + 1) n bad = ⟨true, compoundT 7 [(⟨#[]⟩, r.t)], r.n + 1, r.bad⟩) := HR2.out.trans (by rw [if_pos hc])
        have h3 : Hid ((byteAt s r.n : Int) = 93) := by show (byteAt s r.n : Int) = 93; omega
        have hn3 : r.n + 1 ≤ s.size := byteAt_in (by omega)
        clear hc HR2
        go_wp2_with fail
        refine (psAccept_yes hX HS2 hs 93 h3 (by omega)).mono ?_
        rintro e w3 ⟨rfl, hF3, hS3⟩
        have HF3 := hide hF3
        have HS3 := hide hS3
        clear hF3 hS3
        go_wp2_with fail
        go_ret2
        rw [HR3.out]
        exact ⟨HF2.out.trans HF3.out, hn3, ⟨r.bad, HS3, fun _ => rfl⟩, some a', rfl, fun _ => ⟨a', rfl, HTR.out.keep (HF3.out.one hX)⟩⟩
      · have HR3 : Hid (pTyp s lines (f + 1) n bad = noRes r.n r.bad) := HR2.out.trans (by rw [if_neg hc])
        have h3 : Hid ((byteAt s r.n : Int) ≠ 93) := fun e => hc (by omega)
        clear hc HR2
        go_wp2_with fail
        refine (psAccept_no hX HS2 hs HRN 93 h3).mono ?_
        rintro e w3 ⟨rfl, hF3, hS3⟩
        have HF3 := hide hF3
        have HS3 := hide hS3
        clear hF3 hS3
        go_wp2_with fail
        go_ret2
        rw [HR3.out]
        exact ⟨HF2.out.trans HF3.out, HRN, ⟨r.bad, HS3, fun h => by cases h⟩, some a', rfl, fun h => by cases h⟩
  · have n1 : Hid ((byteAt s n : Int) ≠ 91) := fun e => c1 (by omega)
    by_cases c2 : byteAt s n = 63
    · have HR : Hid (pTyp s lines (f + 1) n bad = aroundR 8 (pTyp s lines f (n + 1) bad)) := by
        show pTyp s lines (f + 1) n bad = _
        simp only [pTyp, aroundR]
        rw [if_neg c1, if_pos c2]
      have h1 : Hid ((byteAt s n : Int) = 63) := by show (byteAt s n : Int) = 63; omega
      have hn : n + 1 ≤ s.size := byteAt_in (by omega)
      clear c1 c2
      go_enter Tryz.func230, Tryz.ntmps230
      go_wp2_with fail
      refine (psAccept_no hX HS hs hle 91 n1).mono ?_
      rintro e w1 ⟨rfl, hF1, hS1⟩
      have HF1 := hide hF1
      have HS1 := hide hS1
      clear hF1 hS1
      go_wp2_with fail
      refine (psAccept_yes hX HS1 hs 63 h1 (by omega)).mono ?_
      rintro e w2 ⟨rfl, hF2, hS2⟩
      have HF2 := hide (HF1.out.trans hF2)
      have HS2 := hide hS2
      have HW2 := hide (HW.out.keep HF2.out hn1)
      clear hF2 hS2
      go_wp2_with fail
      refine (around_at HT hX HS2 HW2 (fun b hb => Nat.lt_of_lt_of_le (HX b hb) HF2.out.size) hn (by omega) 8 8 rfl (HD _ _)).mono ?_
      generalize aroundR 8 (pTyp s lines f (n + 1) bad) = r at *
      intro e w3 hP
      obtain ⟨a, rfl, hok⟩ := hP.2.2.2
      have HPO := hide (hP.after HF2.out)
      clear hP hok
      go_wp2_with fail
      go_ret2
      rw [HR.out]
      exact HPO
    · have n2 : Hid ((byteAt s n : Int) ≠ 63) := fun e => c2 (by omega)
      by_cases c3 : byteAt s n = 123
      · have HR : Hid (pTyp s lines (f + 1) n bad = pParts (pTyp s lines f) s 9 44 125 6 [] (n + 1) bad) := by
          show pTyp s lines (f + 1) n bad = _
          simp only [pTyp]
          rw [if_neg c1, if_neg c2, if_pos c3]
        have h1 : Hid ((byteAt s n : Int) = 123) := by show (byteAt s n : Int) = 123; omega
        have hn : n + 1 ≤ s.size := byteAt_in (by omega)
        clear c1 c2 c3
        go_enter Tryz.func230, Tryz.ntmps230
        go_wp2_with fail
        refine (psAccept_no hX HS hs hle 91 n1).mono ?_
        rintro e w1 ⟨rfl, hF1, hS1⟩
        have HF1 := hide hF1
        have HS1 := hide hS1
        clear hF1 hS1
        go_wp2_with fail
        refine (psAccept_no hX HS1 hs hle 63 n2).mono ?_
        rintro e w2 ⟨rfl, hF2, hS2⟩
        have HF2 := hide (HF1.out.trans hF2)
        have HS2 := hide hS2
        clear hF2 hS2
        go_wp2_with fail
        refine (psAccept_yes hX HS2 hs 123 h1 (by omega)).mono ?_
        rintro e w3 ⟨rfl, hF3, hS3⟩
        have HF3 := hide (HF2.out.trans hF3)
        have HS3 := hide hS3
        have HW3 := hide (HW.out.keep HF3.out hn1)
        clear hF3 hS3
        go_wp2_with fail
        refine (parts_at HT hX HS3 HW3 (fun b hb => Nat.lt_of_lt_of_le (HX b hb) HF3.out.size) hs hn (by omega) 9 44 125 9 44 125 rfl rfl rfl (by omega) (by omega) HD).mono ?_
        generalize pParts (pTyp s lines f) s 9 44 125 6 [] (n + 1) bad = r at *
        intro e w4 hP
        obtain ⟨a, rfl, hok⟩ := hP.2.2.2
        have HPO := hide (hP.after HF3.out)
        clear hP hok
        go_wp2_with fail
        go_ret2
        rw [HR.out]
        exact HPO
      · have n3 : Hid ((byteAt s n : Int) ≠ 123) := fun e => c3 (by omega)
        by_cases c4 : byteAt s n = 60
        · have HR : Hid (pTyp s lines (f + 1) n bad = pParts (pTyp s lines f) s 10 124 62 6 [] (n + 1) bad) := by
            show pTyp s lines (f + 1) n bad = _
            simp only [pTyp]
            rw [if_neg c1, if_neg c2, if_neg c3, if_pos c4]
          have h1 : Hid ((byteAt s n : Int) = 60) := by show (byteAt s n : Int) = 60; omega
          have hn : n + 1 ≤ s.size := byteAt_in (by omega)
          clear c1 c2 c3 c4
          go_enter Tryz.func230, Tryz.ntmps230
          go_wp2_with fail
          refine (psAccept_no hX HS hs hle 91 n1).mono ?_
          rintro e w1 ⟨rfl, hF1, hS1⟩
          have HF1 := hide hF1
          have HS1 := hide hS1
          clear hF1 hS1
          go_wp2_with fail
          refine (psAccept_no hX HS1 hs hle 63 n2).mono ?_
          rintro e w2 ⟨rfl, hF2, hS2⟩
          have HF2 := hide (HF1.out.trans hF2)
          have HS2 := hide hS2
          clear hF2 hS2
          go_wp2_with fail
          refine (psAccept_no hX HS2 hs hle 123 n3).mono ?_
          rintro e w3 ⟨rfl, hF3, hS3⟩
          have HF3 := hide (HF2.out.trans hF3)
          have HS3 := hide hS3
          clear hF3 hS3
          go_wp2_with fail
          refine (psAccept_yes hX HS3 hs 60 h1 (by omega)).mono ?_
          rintro e w5 ⟨rfl, hF5, hS5⟩
          have HF5 := hide (HF3.out.trans hF5)
          have HS5 := hide hS5
          have HW5 := hide (HW.out.keep HF5.out hn1)
          clear hF5 hS5
          go_wp2_with fail
          refine (parts_at HT hX HS5 HW5 (fun b hb => Nat.lt_of_lt_of_le (HX b hb) HF5.out.size) hs hn (by omega) 10 124 62 10 124 62 rfl rfl rfl (by omega) (by omega) HD).mono ?_
          generalize pParts (pTyp s lines f) s 10 124 62 6 [] (n + 1) bad = r at *
          intro e w4 hP
          obtain ⟨a, rfl, hok⟩ := hP.2.2.2
          have HPO := hide (hP.after HF5.out)
          clear hP hok
          go_wp2_with fail
          go_ret2
          rw [HR.out]
          exact HPO
        · have n4 : Hid ((byteAt s n : Int) ≠ 60) := fun e => c4 (by omega)
          have HR : Hid (pTyp s lines (f + 1) n bad = pNamed s lines n bad) := by
            show pTyp s lines (f + 1) n bad = _
            simp only [pTyp]
            rw [if_neg c1, if_neg c2, if_neg c3, if_neg c4]
          clear c1 c2 c3 c4
          go_enter Tryz.func230, Tryz.ntmps230
          go_wp2_with fail
          refine (psAccept_no hX HS hs hle 91 n1).mono ?_
          rintro e w1 ⟨rfl, hF1, hS1⟩
          have HF1 := hide hF1
          have HS1 := hide hS1
          clear hF1 hS1
          go_wp2_with fail
          refine (psAccept_no hX HS1 hs hle 63 n2).mono ?_
          rintro e w2 ⟨rfl, hF2, hS2⟩
          have HF2 := hide (HF1.out.trans hF2)
          have HS2 := hide hS2
          clear hF2 hS2
          go_wp2_with fail
          refine (psAccept_no hX HS2 hs hle 123 n3).mono ?_
          rintro e w3 ⟨rfl, hF3, hS3⟩
          have HF3 := hide (HF2.out.trans hF3)
          have HS3 := hide hS3
          clear hF3 hS3
          go_wp2_with fail
          refine (psAccept_no hX HS3 hs hle 60 n4).mono ?_
          rintro e w5 ⟨rfl, hF5, hS5⟩
          have HF5 := hide (HF3.out.trans hF5)
          have HS5 := hide hS5
          have HW5 := hide (HW.out.keep HF5.out hn1)
          clear hF5 hS5
          go_wp2_with fail
          refine (namedType_any hX HS5 HW5 (fun b hb => Nat.lt_of_lt_of_le (HX b hb) HF5.out.size) hs hle hll).mono ?_
          generalize pNamed s lines n bad = r at *
          intro e w4 hP
          obtain ⟨a, rfl, hok⟩ := hP.2.2.2
          have HPO := hide (hP.after HF5.out)
          clear hP hok
          go_wp2_with fail
          go_ret2
          rw [HR.out]
          exact HPO

theorem pParts_depth (rd : Nat → Option Nat → Res) (D : Nat) (hrd : ∀ n bad, (rd n bad).t.depth ≤ D) (s : ByteArray) (kind btw close : Nat) : ∀ (k : Nat) (acc : List (ByteArray × PT)) (n : Nat) (bad : Option Nat), (∀ q ∈ acc, q.2.depth ≤ D) → (pParts rd s kind btw close k acc n bad).t.depth ≤ D + 1 := by
  intro k
  induction k with
  | zero => intro acc n bad _; exact Nat.zero_le _
  | succ k ih =>
    intro acc n bad hacc
    have hp : (pPart rd s (acc.map (·.1)) 58 n bad).t.depth ≤ D := by
      unfold pPart
      split
      · exact Nat.zero_le _
      · split
        · exact hrd _ _
        · exact Nat.zero_le _
    have hacc2 : ∀ q ∈ acc ++ [(nameAt s n, (pPart rd s (acc.map (·.1)) 58 n bad).t)], q.2.depth ≤ D := by
      intro q hq
      rcases List.mem_append.1 hq with h | h
      · exact hacc q h
      · simp at h; subst h; exact hp
    simp only [pParts]
    split
    · exact Nat.zero_le _
    · split
      · show maxDepth _ + 1 ≤ D + 1
        have := maxDepth_le _ D hacc2
        omega
      · split
        · exact Nat.zero_le _
        · exact ih _ _ _ hacc2

theorem lineOf_mem {nm : ByteArray} {t : PT} : ∀ {lines : List (ByteArray × PT)}, lineOf nm lines = some t → ∃ q ∈ lines, q.2 = t := by
  intro lines
  induction lines with
  | nil => intro h; cases h
  | cons p r ih =>
    intro h
    rw [lineOf] at h
    split at h
    · exact ⟨p, by simp, by simpa using h⟩
    · obtain ⟨q, hq, e⟩ := ih h
      exact ⟨q, by simp [hq], e⟩

theorem pTyp_depth (s : ByteArray) (lines : List (ByteArray × PT)) (D : Nat) (hD : ∀ q ∈ lines, q.2.depth ≤ D) : ∀ (f n : Nat) (bad : Option Nat), (pTyp s lines f n bad).t.depth ≤ D + 1 + f := by
  intro f
  induction f with
  | zero => intro n bad; exact Nat.zero_le _
  | succ f ih =>
    intro n bad
    have h1 := ih (n + 1) bad
    simp only [pTyp]
    split
    · split
      · exact Nat.zero_le _
      · split
        · show maxDepth _ + 1 ≤ _
          have := maxDepth_le [((⟨#[]⟩ : ByteArray), (pTyp s lines f (n + 1) bad).t)] (D + 1 + f) (fun q hq => by simp at hq; subst hq; exact h1)
          omega
        · exact Nat.zero_le _
    · split
      · split
        · exact Nat.zero_le _
        · show maxDepth _ + 1 ≤ _
          have := maxDepth_le [((⟨#[]⟩ : ByteArray), (pTyp s lines f (n + 1) bad).t)] (D + 1 + f) (fun q hq => by simp at hq; subst hq; exact h1)
          omega
      · split
        · have := pParts_depth (pTyp s lines f) (D + 1 + f) ih s 9 44 125 6 [] (n + 1) bad (fun q hq => by simp at hq); omega
        · split
          · have := pParts_depth (pTyp s lines f) (D + 1 + f) ih s 10 124 62 6 [] (n + 1) bad (fun q hq => by simp at hq); omega
          · unfold pNamed
            split
            · exact Nat.zero_le _
            · split
              · show 1 ≤ _; omega
              · split
                · rename_i t ht
                  obtain ⟨q, hq, e⟩ := lineOf_mem ht
                  have := hD q hq
                  rw [e] at this
                  show t.depth ≤ _
                  omega
                · exact Nat.zero_le _

theorem typ_all {s : ByteArray} {lines : List (ByteArray × PT)} (hs : s.size ≤ maxLen) (hD : ∀ q ∈ lines, q.2.depth ≤ 500000) (hll : lines.length ≤ 1000) : ∀ f, f ≤ 1000 → TypSaid s lines f := by
  intro f
  induction f with
  | zero =>
    intro _ w X pb n lv bad deep h hw hX hXlt hle hfu
    omega
  | succ f ih =>
    intro hf
    exact typ_step (ih (by omega)) hs (fun n bad => by have := pTyp_depth s lines 500000 hD f n bad; omega) hll

end Go.Proofs.YtapblkmlhoalgaaGreatDoor
