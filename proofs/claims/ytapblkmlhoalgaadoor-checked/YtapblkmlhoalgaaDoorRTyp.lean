/- The other reader's typ. -/
import Derived.Test.YtapblkmlhoalgaaDoorRParts
namespace Go.Proofs.YtapblkmlhoalgaaDoor
open Go.RowKit

theorem rIs_true {s : ByteArray} {n c : Nat} (h : byteAt s n = c) : rIs s n false c = true := by simp [rIs, h]
theorem rIs_false {s : ByteArray} {n c : Nat} (h : ¬ byteAt s n = c) : rIs s n false c = false := by simp [rIs, h]

theorem DS.drew {w w' : World} {X : Nat → Prop} {db : Nat} {s : ByteArray} {n : Nat} {bad : Bool} {tv lv av rv : Value} {tab : List RT} (h : DS w X db s n bad tv lv av rv tab) (hw : ∃ k, w' = w.drewN k) : DS w' X db s n bad tv lv av rv tab ∧ Fr Zero w w' := by
  obtain ⟨k, rfl⟩ := hw
  exact ⟨h.keep0 (Fr.drewN _ _ _), Fr.drewN _ _ _⟩

/-- The four looks that typ begins with. -/
theorem RTypPost.after {w w0 : World} {X : Nat → Prop} {db : Nat} {s : ByteArray} {tv lv av rv : Value} {r : RS × Nat} {e : Ending} {w' : World} (h : RTypPost w0 X db s tv lv av rv r e w') (hf : Fr Zero w w0) : RTypPost w X db s tv lv av rv r e w' := by
  obtain ⟨h1, h2, h3, tv', h4, h5⟩ := h
  exact ⟨h1, hf.of0.trans h2, h3, tv', h4, fun g hg => by
    rcases h5 g hg with h | h
    · exact .inl h
    · have := hf.size; exact .inr (by omega)⟩

theorem SL.one {w : World} {X : Nat → Prop} (e : TypeId) (x : Value) (hx : ¬ X w.heap.size) : SL (w.alloc (.cells #[x] e)) X e (.slice (some ⟨w.heap.size, 0, none⟩) 1 1) [x] :=
  ⟨⟨rfl, .inr ⟨w.heap.size, 1, _, rfl, Nat.zero_le _, heap_new_at rfl _, Nat.le_refl _, by unfold maxLen; omega, rfl, rfl⟩⟩, fun g hg => by simp [Value.ownBlock] at hg; subst hg; exact hx⟩

theorem SL.oneAt {w : World} {X : Nat → Prop} {k : Nat} (hk : w.heap.size = k) (e : TypeId) (x : Value) (hx : ¬ X k) : SL (w.alloc (.cells #[x] e)) X e (.slice (some ⟨k, 0, none⟩) 1 1) [x] := by
  subst hk
  exact SL.one e x hx

theorem rtyp_bad {w : World} {X : Nat → Prop} {db : Nat} {s : ByteArray} {n : Nat} {tv lv av rv : Value} {tab : List RT} (h : DS w X db s n true tv lv av rv tab) (hle : n ≤ s.size) :
    Calls Tryd.prog 17 #[.pointer (some ⟨db, 0, none⟩)] w fun e w' => RTypPost w X db s tv lv av rv (⟨n, true, tab⟩, 0) e w' := by
  have HS := hide h
  have c6 := h.1.at6
  clear h
  go_enter Tryd.func17, Tryd.ntmps17
  go_wp2_with fail
  go_ret
  exact ⟨rfl, Fr.refl _ _, hle, tv, HS, fun g hg => .inl hg⟩

set_option maxRecDepth 100000 in
set_option maxHeartbeats 16000000 in
theorem rtyp_step {s : ByteArray} {f : Nat} (hT : RTypSaid s f) (hs : s.size ≤ 400) : RTypSaid s (f + 1) := by
  intro w X db n bad tv lv av rv tab h hX hXlt hle hfu hl
  have hsm : s.size ≤ maxLen := by unfold maxLen; omega
  have HS := hide h
  have HX := hide hXlt
  have HT := hide hT
  have c6 := h.1.at6
  clear hT hXlt h
  cases bad with
  | true =>
    go_enter Tryd.func17, Tryd.ntmps17
    go_wp2_with fail
    go_ret
    exact ⟨rfl, Fr.refl _ _, hle, tv, HS, fun g hg => .inl hg⟩
  | false =>
    have hfu' : s.size < n + 1 + f := by rcases hfu with h | h; cases h; omega
    clear hfu
    by_cases c1 : byteAt s n = 91
    · have y1 : Hid (rIs s n false 91 = true) := rIs_true c1
      have y2 : Hid (rIs s n false 63 = false) := rIs_false (by omega)
      have y3 : Hid (rIs s n false 123 = false) := rIs_false (by omega)
      have y4 : Hid (rIs s n false 60 = false) := rIs_false (by omega)
      have hn1 : n + 1 ≤ s.size := byteAt_in (by omega)
      have HR : Hid (rTyp s (f + 1) ⟨n, false, tab⟩ = rAdd (rMust s 93 (rTyp s f ⟨n + 1, false, tab⟩).1) ⟨7, [(rTyp s f ⟨n + 1, false, tab⟩).2], [], []⟩) := by
        show _ = _
        simp only [rTyp]
        rw [if_neg (by simp), if_pos c1]
      clear c1
      go_enter Tryd.func17, Tryd.ntmps17
      go_wp2_with fail
      refine (is_any HS.out.1 hsm hle 91 91 rfl (by omega)).mono ?_
      rintro e w1 ⟨rfl, hw1⟩
      obtain ⟨hS1, hZ1⟩ := HS.out.drew hw1
      have HS1 := hide hS1
      have HZ1 : Hid (Fr Zero w w1) := (Fr.refl Zero w).trans hZ1
      rw [y1.out]
      clear hw1 hS1 hZ1
      go_wp2_with fail
      refine (is_any HS1.out.1 hsm hle 63 63 rfl (by omega)).mono ?_
      rintro e w2 ⟨rfl, hw2⟩
      obtain ⟨hS2, hZ2⟩ := HS1.out.drew hw2
      have HS2 := hide hS2
      have HZ2 : Hid (Fr Zero w w2) := HZ1.out.trans hZ2
      rw [y2.out]
      clear hw2 hS2 hZ2
      go_wp2_with fail
      refine (is_any HS2.out.1 hsm hle 123 123 rfl (by omega)).mono ?_
      rintro e w3 ⟨rfl, hw3⟩
      obtain ⟨hS3, hZ3⟩ := HS2.out.drew hw3
      have HS3 := hide hS3
      have HZ3 : Hid (Fr Zero w w3) := HZ2.out.trans hZ3
      rw [y3.out]
      clear hw3 hS3 hZ3
      go_wp2_with fail
      refine (is_any HS3.out.1 hsm hle 60 60 rfl (by omega)).mono ?_
      rintro e w4 ⟨rfl, hw4⟩
      obtain ⟨hS4, hZ4⟩ := HS3.out.drew hw4
      have HS4 := hide hS4
      have HZ4 : Hid (Fr Zero w w4) := HZ3.out.trans hZ4
      rw [y4.out]
      clear hw4 hS4 hZ4
      have k1 := HS4.out.1.at1
      have f1 := HS4.out.1.free 1
      have hn64 : (n : Int) < 1000 := by omega
      go_wp2_with fail
      have hFq : Fr (One db) w4 (w4.setCell ⟨db, 1, none⟩ (.int .i64 ((n : Int) + 1))) := Fr.setCell _ _ _ _ rfl
      have HSq := hide (HS4.out.self hX hFq (HS4.out.1.set1 (n + 1)))
      have HFq := hide ((HZ4.out.of0 (X := Ch db tv)).trans (hFq.mono (fun k _ e => .inl e)))
      generalize w4.setCell ⟨db, 1, none⟩ (.int .i64 ((n : Int) + 1)) = wq at *
      clear hFq k1 f1
      refine (HT.out wq X db (n + 1) false tv lv av rv tab HSq hX (fun b hb => Nat.lt_of_lt_of_le (HX b hb) HFq.out.size) hn1 (.inr (by omega)) (by omega)).mono ?_
      have hgr := rTyp_grows s f ⟨n + 1, false, tab⟩
      simp only at hgr
      generalize rTyp s f ⟨n + 1, false, tab⟩ = r at *
      rintro e w5 ⟨rfl, hF5, hn5, tv5, hD5, htv5⟩
      have HS5 := hide hD5
      have HTV5 := hide htv5
      have HF5 := hide (HFq.out.trans hF5)
      clear hF5 hD5 htv5
      go_wp2_with fail
      refine (must_any HS5.out.1 hsm hn5 93 93 rfl (by omega)).mono ?_
      rintro e w6 ⟨rfl, hF6, hD6, hn6⟩
      have HS6 := hide (HS5.out.self hX hF6 hD6)
      have HF6 := hide (HF5.out.trans (hF6.mono (fun k _ e => .inl e)))
      clear hF6 hD6
      go_wp2_with fail
      have HLT : Hid (∀ b, X b → b < w6.heap.size) := fun b hb => Nat.lt_of_lt_of_le (HX b hb) HF6.out.size
      have HAV : Hid (¬ XO X tv5 w6.heap.size) := fun h => by
        rcases h with h | h
        · have := HLT.out _ h; omega
        · have := HS6.out.lt _ h; omega
      refine (add_any (HS6.out.keep0 (Fr.alloc _ _ _)) hX (by omega) 7 ⟨7, .slice (some ⟨w6.heap.size, 0, none⟩) 1 1, .slice none 0 0, .slice none 0 0⟩ ⟨7, [r.2], [], []⟩ rfl ⟨rfl, SL.one _ _ HAV, SL.nil _ _ _, SL.nil _ _ _⟩).mono ?_
      rintro e w7 ⟨rfl, hF7, tv7, hD7, htv7⟩
      have HS7 := hide hD7
      have HTV7 := hide htv7
      have HF7 := hide hF7
      clear hF7 hD7 htv7
      go_wp2_with fail
      go_ret
      rw [HR.out]
      refine ⟨rfl, ?_, hn6, tv7, HS7, fun g hg => ?_⟩
      · refine HF6.out.trans2 ((Fr.alloc _ _ _).trans HF7.out) (fun i hi hc => ?_)
        rcases hc with h | h
        · exact .inl h
        · rcases HTV5.out i h with h' | h'
          · exact .inr h'
          · have := HFq.out.size; omega
      · rcases HTV7.out g hg with h | h
        · rcases HTV5.out g h with h' | h'
          · exact .inl h'
          · have := HFq.out.size; exact .inr (by omega)
        · have := HF6.out.size; simp at h; exact .inr (by omega)
    · by_cases c2 : byteAt s n = 63
      · have y1 : Hid (rIs s n false 91 = false) := rIs_false c1
        have y2 : Hid (rIs s n false 63 = true) := rIs_true c2
        have y3 : Hid (rIs s n false 123 = false) := rIs_false (by omega)
        have y4 : Hid (rIs s n false 60 = false) := rIs_false (by omega)
        have hn1 : n + 1 ≤ s.size := byteAt_in (by omega)
        have HR : Hid (rTyp s (f + 1) ⟨n, false, tab⟩ = rAdd (rTyp s f ⟨n + 1, false, tab⟩).1 ⟨8, [(rTyp s f ⟨n + 1, false, tab⟩).2], [], []⟩) := by
          show _ = _
          simp only [rTyp]
          rw [if_neg (by simp), if_neg c1, if_pos c2]
        clear c1 c2
        go_enter Tryd.func17, Tryd.ntmps17
        go_wp2_with fail
        refine (is_any HS.out.1 hsm hle 91 91 rfl (by omega)).mono ?_
        rintro e w1 ⟨rfl, hw1⟩
        obtain ⟨hS1, hZ1⟩ := HS.out.drew hw1
        have HS1 := hide hS1
        have HZ1 : Hid (Fr Zero w w1) := (Fr.refl Zero w).trans hZ1
        rw [y1.out]
        clear hw1 hS1 hZ1
        go_wp2_with fail
        refine (is_any HS1.out.1 hsm hle 63 63 rfl (by omega)).mono ?_
        rintro e w2 ⟨rfl, hw2⟩
        obtain ⟨hS2, hZ2⟩ := HS1.out.drew hw2
        have HS2 := hide hS2
        have HZ2 : Hid (Fr Zero w w2) := HZ1.out.trans hZ2
        rw [y2.out]
        clear hw2 hS2 hZ2
        go_wp2_with fail
        refine (is_any HS2.out.1 hsm hle 123 123 rfl (by omega)).mono ?_
        rintro e w3 ⟨rfl, hw3⟩
        obtain ⟨hS3, hZ3⟩ := HS2.out.drew hw3
        have HS3 := hide hS3
        have HZ3 : Hid (Fr Zero w w3) := HZ2.out.trans hZ3
        rw [y3.out]
        clear hw3 hS3 hZ3
        go_wp2_with fail
        refine (is_any HS3.out.1 hsm hle 60 60 rfl (by omega)).mono ?_
        rintro e w4 ⟨rfl, hw4⟩
        obtain ⟨hS4, hZ4⟩ := HS3.out.drew hw4
        have HS4 := hide hS4
        have HZ4 : Hid (Fr Zero w w4) := HZ3.out.trans hZ4
        rw [y4.out]
        clear hw4 hS4 hZ4
        have k1 := HS4.out.1.at1
        have f1 := HS4.out.1.free 1
        have hn64 : (n : Int) < 1000 := by omega
        go_wp2_with fail
        have hFq : Fr (One db) w4 (w4.setCell ⟨db, 1, none⟩ (.int .i64 ((n : Int) + 1))) := Fr.setCell _ _ _ _ rfl
        have HSq := hide (HS4.out.self hX hFq (HS4.out.1.set1 (n + 1)))
        have HFq := hide ((HZ4.out.of0 (X := Ch db tv)).trans (hFq.mono (fun k _ e => .inl e)))
        generalize w4.setCell ⟨db, 1, none⟩ (.int .i64 ((n : Int) + 1)) = wq at *
        clear hFq k1 f1
        refine (HT.out wq X db (n + 1) false tv lv av rv tab HSq hX (fun b hb => Nat.lt_of_lt_of_le (HX b hb) HFq.out.size) hn1 (.inr (by omega)) (by omega)).mono ?_
        have hgr := rTyp_grows s f ⟨n + 1, false, tab⟩
        simp only at hgr
        generalize rTyp s f ⟨n + 1, false, tab⟩ = r at *
        rintro e w5 ⟨rfl, hF5, hn5, tv5, hD5, htv5⟩
        have HS5 := hide hD5
        have HTV5 := hide htv5
        have HF5 := hide (HFq.out.trans hF5)
        clear hF5 hD5 htv5
        go_wp2_with fail
        have HS6 := HS5
        have HF6 := HF5
        have hn6 := hn5
        have HLT : Hid (∀ b, X b → b < w5.heap.size) := fun b hb => Nat.lt_of_lt_of_le (HX b hb) HF6.out.size
        have HAV : Hid (¬ XO X tv5 w5.heap.size) := fun h => by
          rcases h with h | h
          · have := HLT.out _ h; omega
          · have := HS6.out.lt _ h; omega
        refine (add_any (HS6.out.keep0 (Fr.alloc _ _ _)) hX (by omega) 8 ⟨8, .slice (some ⟨w5.heap.size, 0, none⟩) 1 1, .slice none 0 0, .slice none 0 0⟩ ⟨8, [r.2], [], []⟩ rfl ⟨rfl, SL.one _ _ HAV, SL.nil _ _ _, SL.nil _ _ _⟩).mono ?_
        rintro e w7 ⟨rfl, hF7, tv7, hD7, htv7⟩
        have HS7 := hide hD7
        have HTV7 := hide htv7
        have HF7 := hide hF7
        clear hF7 hD7 htv7
        go_wp2_with fail
        go_ret
        rw [HR.out]
        refine ⟨rfl, ?_, hn6, tv7, HS7, fun g hg => ?_⟩
        · refine HF6.out.trans2 ((Fr.alloc _ _ _).trans HF7.out) (fun i hi hc => ?_)
          rcases hc with h | h
          · exact .inl h
          · rcases HTV5.out i h with h' | h'
            · exact .inr h'
            · have := HFq.out.size; omega
        · rcases HTV7.out g hg with h | h
          · rcases HTV5.out g h with h' | h'
            · exact .inl h'
            · have := HFq.out.size; exact .inr (by omega)
          · have := HF6.out.size; simp at h; exact .inr (by omega)
      · by_cases c3 : byteAt s n = 123
        · have y1 : Hid (rIs s n false 91 = false) := rIs_false c1
          have y2 : Hid (rIs s n false 63 = false) := rIs_false c2
          have y3 : Hid (rIs s n false 123 = true) := rIs_true c3
          have y4 : Hid (rIs s n false 60 = false) := rIs_false (by omega)
          have hn1 : n + 1 ≤ s.size := byteAt_in (by omega)
          have HR : Hid (rTyp s (f + 1) ⟨n, false, tab⟩ = rParts (rTyp s f) s 9 44 125 ⟨n, false, tab⟩) := by
            show _ = _
            simp only [rTyp]
            rw [if_neg (by simp), if_neg c1, if_neg c2, if_pos c3]
          clear c1 c2 c3
          go_enter Tryd.func17, Tryd.ntmps17
          go_wp2_with fail
          refine (is_any HS.out.1 hsm hle 91 91 rfl (by omega)).mono ?_
          rintro e w1 ⟨rfl, hw1⟩
          obtain ⟨hS1, hZ1⟩ := HS.out.drew hw1
          have HS1 := hide hS1
          have HZ1 : Hid (Fr Zero w w1) := (Fr.refl Zero w).trans hZ1
          rw [y1.out]
          clear hw1 hS1 hZ1
          go_wp2_with fail
          refine (is_any HS1.out.1 hsm hle 63 63 rfl (by omega)).mono ?_
          rintro e w2 ⟨rfl, hw2⟩
          obtain ⟨hS2, hZ2⟩ := HS1.out.drew hw2
          have HS2 := hide hS2
          have HZ2 : Hid (Fr Zero w w2) := HZ1.out.trans hZ2
          rw [y2.out]
          clear hw2 hS2 hZ2
          go_wp2_with fail
          refine (is_any HS2.out.1 hsm hle 123 123 rfl (by omega)).mono ?_
          rintro e w3 ⟨rfl, hw3⟩
          obtain ⟨hS3, hZ3⟩ := HS2.out.drew hw3
          have HS3 := hide hS3
          have HZ3 : Hid (Fr Zero w w3) := HZ2.out.trans hZ3
          rw [y3.out]
          clear hw3 hS3 hZ3
          go_wp2_with fail
          refine (is_any HS3.out.1 hsm hle 60 60 rfl (by omega)).mono ?_
          rintro e w4 ⟨rfl, hw4⟩
          obtain ⟨hS4, hZ4⟩ := HS3.out.drew hw4
          have HS4 := hide hS4
          have HZ4 : Hid (Fr Zero w w4) := HZ3.out.trans hZ4
          rw [y4.out]
          clear hw4 hS4 hZ4
          have k1 := HS4.out.1.at1
          have f1 := HS4.out.1.free 1
          have hn64 : (n : Int) < 1000 := by omega
          go_wp2_with fail
          refine (rparts_any HT HS4 hX (fun b hb => Nat.lt_of_lt_of_le (HX b hb) HZ4.out.size) hs hn1 hfu' hl 9 44 125 9 44 125 rfl rfl rfl (by omega) (by omega)).mono ?_
          generalize rParts (rTyp s f) s 9 44 125 ⟨n, false, tab⟩ = r at *
          intro e w5 hP
          obtain rfl := hP.1
          have HPO := hide (hP.after HZ4.out)
          clear hP k1 f1
          go_wp2_with fail
          go_ret
          rw [HR.out]
          exact HPO
        · by_cases c4 : byteAt s n = 60
          · have y1 : Hid (rIs s n false 91 = false) := rIs_false c1
            have y2 : Hid (rIs s n false 63 = false) := rIs_false c2
            have y3 : Hid (rIs s n false 123 = false) := rIs_false c3
            have y4 : Hid (rIs s n false 60 = true) := rIs_true c4
            have hn1 : n + 1 ≤ s.size := byteAt_in (by omega)
            have HR : Hid (rTyp s (f + 1) ⟨n, false, tab⟩ = rParts (rTyp s f) s 10 124 62 ⟨n, false, tab⟩) := by
              show _ = _
              simp only [rTyp]
              rw [if_neg (by simp), if_neg c1, if_neg c2, if_neg c3, if_pos c4]
            clear c1 c2 c3 c4
            go_enter Tryd.func17, Tryd.ntmps17
            go_wp2_with fail
            refine (is_any HS.out.1 hsm hle 91 91 rfl (by omega)).mono ?_
            rintro e w1 ⟨rfl, hw1⟩
            obtain ⟨hS1, hZ1⟩ := HS.out.drew hw1
            have HS1 := hide hS1
            have HZ1 : Hid (Fr Zero w w1) := (Fr.refl Zero w).trans hZ1
            rw [y1.out]
            clear hw1 hS1 hZ1
            go_wp2_with fail
            refine (is_any HS1.out.1 hsm hle 63 63 rfl (by omega)).mono ?_
            rintro e w2 ⟨rfl, hw2⟩
            obtain ⟨hS2, hZ2⟩ := HS1.out.drew hw2
            have HS2 := hide hS2
            have HZ2 : Hid (Fr Zero w w2) := HZ1.out.trans hZ2
            rw [y2.out]
            clear hw2 hS2 hZ2
            go_wp2_with fail
            refine (is_any HS2.out.1 hsm hle 123 123 rfl (by omega)).mono ?_
            rintro e w3 ⟨rfl, hw3⟩
            obtain ⟨hS3, hZ3⟩ := HS2.out.drew hw3
            have HS3 := hide hS3
            have HZ3 : Hid (Fr Zero w w3) := HZ2.out.trans hZ3
            rw [y3.out]
            clear hw3 hS3 hZ3
            go_wp2_with fail
            refine (is_any HS3.out.1 hsm hle 60 60 rfl (by omega)).mono ?_
            rintro e w4 ⟨rfl, hw4⟩
            obtain ⟨hS4, hZ4⟩ := HS3.out.drew hw4
            have HS4 := hide hS4
            have HZ4 : Hid (Fr Zero w w4) := HZ3.out.trans hZ4
            rw [y4.out]
            clear hw4 hS4 hZ4
            have k1 := HS4.out.1.at1
            have f1 := HS4.out.1.free 1
            have hn64 : (n : Int) < 1000 := by omega
            go_wp2_with fail
            refine (rparts_any HT HS4 hX (fun b hb => Nat.lt_of_lt_of_le (HX b hb) HZ4.out.size) hs hn1 hfu' hl 10 124 62 10 124 62 rfl rfl rfl (by omega) (by omega)).mono ?_
            generalize rParts (rTyp s f) s 10 124 62 ⟨n, false, tab⟩ = r at *
            intro e w5 hP
            obtain rfl := hP.1
            have HPO := hide (hP.after HZ4.out)
            clear hP k1 f1
            go_wp2_with fail
            go_ret
            rw [HR.out]
            exact HPO
          · have y1 : Hid (rIs s n false 91 = false) := rIs_false c1
            have y2 : Hid (rIs s n false 63 = false) := rIs_false c2
            have y3 : Hid (rIs s n false 123 = false) := rIs_false c3
            have y4 : Hid (rIs s n false 60 = false) := rIs_false c4
            have HR : Hid (rTyp s (f + 1) ⟨n, false, tab⟩ = match wordIdx (wordS s n false) with
                | some k => rAdd ⟨wordN s n false, wordB s n false, tab⟩ ⟨k, [], [], []⟩
                | none => rAdd ⟨wordN s n false, wordB s n false, tab⟩ ⟨11, [], [wordS s n false], [n]⟩) := by
              show _ = _
              simp only [rTyp]
              rw [if_neg (by simp), if_neg c1, if_neg c2, if_neg c3, if_neg c4]
              rfl
            clear c1 c2 c3 c4
            go_enter Tryd.func17, Tryd.ntmps17
            go_wp2_with fail
            refine (is_any HS.out.1 hsm hle 91 91 rfl (by omega)).mono ?_
            rintro e w1 ⟨rfl, hw1⟩
            obtain ⟨hS1, hZ1⟩ := HS.out.drew hw1
            have HS1 := hide hS1
            have HZ1 : Hid (Fr Zero w w1) := (Fr.refl Zero w).trans hZ1
            rw [y1.out]
            clear hw1 hS1 hZ1
            go_wp2_with fail
            refine (is_any HS1.out.1 hsm hle 63 63 rfl (by omega)).mono ?_
            rintro e w2 ⟨rfl, hw2⟩
            obtain ⟨hS2, hZ2⟩ := HS1.out.drew hw2
            have HS2 := hide hS2
            have HZ2 : Hid (Fr Zero w w2) := HZ1.out.trans hZ2
            rw [y2.out]
            clear hw2 hS2 hZ2
            go_wp2_with fail
            refine (is_any HS2.out.1 hsm hle 123 123 rfl (by omega)).mono ?_
            rintro e w3 ⟨rfl, hw3⟩
            obtain ⟨hS3, hZ3⟩ := HS2.out.drew hw3
            have HS3 := hide hS3
            have HZ3 : Hid (Fr Zero w w3) := HZ2.out.trans hZ3
            rw [y3.out]
            clear hw3 hS3 hZ3
            go_wp2_with fail
            refine (is_any HS3.out.1 hsm hle 60 60 rfl (by omega)).mono ?_
            rintro e w4 ⟨rfl, hw4⟩
            obtain ⟨hS4, hZ4⟩ := HS3.out.drew hw4
            have HS4 := hide hS4
            have HZ4 : Hid (Fr Zero w w4) := HZ3.out.trans hZ4
            rw [y4.out]
            clear hw4 hS4 hZ4
            have k1 := HS4.out.1.at1
            have f1 := HS4.out.1.free 1
            have hn64 : (n : Int) < 1000 := by omega
            go_wp2_with fail
            clear k1 f1
            refine (word_any HS4.out.1 hsm hle).mono ?_
            rintro e w5 ⟨rfl, hF5, hD5, hn5⟩
            have HS5 := hide (HS4.out.self hX hF5 hD5)
            have HF5 := hide ((HZ4.out.of0 (X := Ch db tv)).trans (hF5.mono (fun k _ e => .inl e)))
            clear hF5 hD5
            generalize wordS s n false = nm at *
            go_wp2_with fail
            refine (wordKind_any nm _).mono ?_
            rintro e w6 ⟨rfl, hF6⟩
            have HS6 := hide (HS5.out.keep0 hF6)
            have HF6 := hide (HF5.out.trans hF6.of0)
            clear hF6
            have HLT : Hid (∀ b, X b → b < w6.heap.size) := fun b hb => Nat.lt_of_lt_of_le (HX b hb) HF6.out.size
            have HAV : Hid (∀ k, w6.heap.size ≤ k → ¬ XO X tv k) := fun k hk h => by
              rcases h with h | h
              · have := HLT.out _ h; omega
              · have := HS6.out.lt _ h; omega
            unfold kindOf
            rcases hk : wordIdx nm with _ | k
            · have HR2 : Hid (rTyp s (f + 1) ⟨n, false, tab⟩ = rAdd ⟨wordN s n false, wordB s n false, tab⟩ ⟨11, [], [nm], [n]⟩) := HR.out.trans (by rw [hk])
              clear hk HR
              go_wp2_with fail
              refine (add_any ((HS6.out.keep0 (Fr.alloc _ _ _)).keep0 (Fr.alloc _ _ _)) hX (by omega) 11 ⟨11, .slice none 0 0, .slice (some ⟨w6.heap.size, 0, none⟩) 1 1, .slice (some ⟨w6.heap.size + 1, 0, none⟩) 1 1⟩ ⟨11, [], [nm], [n]⟩ rfl ⟨rfl, SL.nil _ _ _, (SL.one _ _ (HAV _ (Nat.le_refl _))).keep (Fr.alloc _ _ _), SL.oneAt (by simp) _ _ (HAV _ (by omega))⟩).mono ?_
              rintro e w7 ⟨rfl, hF7, tv7, hD7, htv7⟩
              have HS7 := hide hD7
              have HTV7 := hide htv7
              have HF7 := hide hF7
              clear hF7 hD7 htv7
              go_wp2_with fail
              go_ret
              rw [HR2.out]
              refine ⟨rfl, HF6.out.trans ((Fr.alloc _ _ _).trans ((Fr.alloc _ _ _).trans HF7.out)), hn5, tv7, HS7, fun g hg => ?_⟩
              rcases HTV7.out g hg with h | h
              · exact .inl h
              · have := HF6.out.size; simp at h; exact .inr (by omega)
            · have hk7 := (wordIdx_some hk).1
              have HR2 : Hid (rTyp s (f + 1) ⟨n, false, tab⟩ = rAdd ⟨wordN s n false, wordB s n false, tab⟩ ⟨k, [], [], []⟩) := HR.out.trans (by rw [hk])
              have hk0 : (0 : Int) ≤ (k : Int) := by omega
              clear hk HR
              go_wp2_with fail
              refine (add_any HS6.out hX (by omega) k ⟨k, .slice none 0 0, .slice none 0 0, .slice none 0 0⟩ ⟨k, [], [], []⟩ rfl ⟨rfl, SL.nil _ _ _, SL.nil _ _ _, SL.nil _ _ _⟩).mono ?_
              rintro e w7 ⟨rfl, hF7, tv7, hD7, htv7⟩
              have HS7 := hide hD7
              have HTV7 := hide htv7
              have HF7 := hide hF7
              clear hF7 hD7 htv7
              go_wp2_with fail
              go_ret
              rw [HR2.out]
              refine ⟨rfl, HF6.out.trans HF7.out, hn5, tv7, HS7, fun g hg => ?_⟩
              rcases HTV7.out g hg with h | h
              · exact .inl h
              · have := HF6.out.size; exact .inr (by omega)

theorem rtyp_all {s : ByteArray} (hs : s.size ≤ 400) : ∀ f, RTypSaid s (f + 1) := by
  intro f
  induction f with
  | zero =>
    refine rtyp_step ?_ hs
    intro w X db n bad tv lv av rv tab h hX hXlt hle hfu hl
    rcases hfu with h' | h'
    · subst h'
      exact rtyp_bad h hle
    · omega
  | succ f ih => exact rtyp_step ih hs

end Go.Proofs.YtapblkmlhoalgaaDoor
