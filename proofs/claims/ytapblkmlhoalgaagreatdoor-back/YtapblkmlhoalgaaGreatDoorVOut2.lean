/- How texts and bytes are written as text. -/
import Derived.Test.YtapblkmlhoalgaaGreatDoorVOut
import Derived.Test.YtapblkmlhoalgaaGreatDoorVWrite
namespace Go.Proofs.YtapblkmlhoalgaaGreatDoor
open Go.RowKit

/-- What a writer of text leaves. -/
def OutPost (w : World) (B : Nat) (l : Bs) (e : Ending) (w' : World) : Prop := Fr (From B) w w' ∧ ∃ sv, e = .returned sv ∧ BO w' B sv l

def quo1 (b : UInt8) : Bs := if b.toNat = 34 ∨ b.toNat = 92 then [92, b] else [b]
theorem wQuo_snoc (a : Bs) (b : UInt8) : wQuo (a ++ [b]) = wQuo a ++ quo1 b := by
  induction a with
  | nil => simp only [List.nil_append, wQuo, quo1]
  | cons c a ih => simp only [List.cons_append, wQuo]; split <;> simp [ih]
theorem quo1_le (b : UInt8) : (quo1 b).length ≤ 2 := by unfold quo1; split <;> simp
theorem wQuo_length (a : Bs) : (wQuo a).length ≤ 2 * a.length := by
  induction a with
  | nil => simp [wQuo]
  | cons c a ih => simp only [wQuo]; split <;> simp <;> omega

set_option maxHeartbeats 4000000 in
set_option maxRecDepth 100000 in
theorem appendQuoted_any (w : World) (B : Nat) (sv : Value) (acc text : Bs) (h : BO w B sv acc) (hB : B ≤ w.heap.size) (hl : acc.length + 2 * text.length + 2 ≤ 140737488355328) :
    Calls Tryz.prog 120 #[sv, .string (ba text)] w fun e w' => OutPost w B (acc ++ 34 :: (wQuo text ++ [34])) e w' := by
  have HB := hide h
  have hsz := ba_size text
  clear h
  go_enter Tryz.func120, Tryz.ntmps120
  go_wp2_with (at_builtin; refine wpList_out rfl _ _ 32 rfl [34] rfl rfl (HB.out.alloc _) (src_one rfl) ?hb1 ?hl1 ?_)
  case hb1 => simp; omega
  case hl1 => simp; omega
  intro v1 w1 hB1 hF1 _
  have HB1 := hide hB1
  have HF1 := hide ((Fr.alloc (From B) w _).trans hF1)
  have hsz1 := HF1.out.size
  clear hB1 hF1
  go_wp2_with fail
  go_loopw [0, 11] (fun ov i wr => ∃ k : Nat, k ≤ text.length ∧ i = .int .i64 k ∧ Hid (BO wr B ov (acc ++ [34] ++ wQuo (text.take k))) ∧ Hid (Fr (From B) w wr)) (fun _ i _ => text.length - (intOf i).toNat)
  case atStart => exact ⟨0, by omega, rfl, by simpa [wQuo] using HB1, HF1⟩
  case round =>
    obtain ⟨k, hk, rfl, HBk, HFk⟩ := hrel
    have hszk := HFk.out.size
    have hlk := wQuo_length (text.take k)
    rw [List.length_take] at hlk
    by_cases hlt : k < text.length
    · obtain ⟨b, hb⟩ : ∃ b, text[k]? = some b := ⟨text[k], by simp [hlt]⟩
      obtain ⟨hj, hg⟩ := ba_get hb
      have hI : (k : Int) < (text.length : Int) := by omega
      have HE : Hid (wQuo (text.take (k + 1)) = wQuo (text.take k) ++ quo1 b) := by
        show _ = _
        obtain ⟨_, he⟩ := List.getElem?_eq_some_iff.1 hb
        rw [List.take_succ_eq_append_getElem hlt, he, wQuo_snoc]
      clear hb
      by_cases hq : b.toNat = 34 ∨ b.toNat = 92
      · have HQ : Hid (quo1 b = [92] ++ [b]) := if_pos hq
        have q : (((b.toNat : Int) == 34) = true) ∨ (((b.toNat : Int) == 34) = false ∧ ((b.toNat : Int) == 92) = true) := by
          rcases hq with hq | hq
          · exact .inl (beq_iff_eq.2 (by omega))
          · exact .inr ⟨beq_eq_false_iff_ne.2 (by omega), beq_iff_eq.2 (by omega)⟩
        clear hq
        rcases q with q1 | ⟨q1, q2⟩
        all_goals
          go_wp2_with (at_builtin; refine wpList_out rfl (.tmp 24) (.tmp 25) 32 rfl [92] rfl rfl (HBk.out.alloc _) (src_one rfl) ?hb3 ?hl3 ?_)
          case hb3 => simp; omega
          case hl3 => simp; omega
          intro v3 w3 hB3 hF3 _
          have HB3 := hide hB3
          have HF3 := hide ((HFk.out.trans (Fr.alloc (From B) _ _)).trans hF3)
          have hsz3 := HF3.out.size
          clear hB3 hF3
          go_wp2_with (at_builtin; refine wpList_out rfl (.tmp 27) (.tmp 31) 32 rfl [b] rfl rfl (HB3.out.alloc _) (src_one rfl) ?hb2 ?hl2 ?_)
          case hb2 => simp; omega
          case hl2 => simp; omega
          intro v2 w2 hB2 hF2 _
          have HB2 := hide hB2
          have HF2 := hide ((HF3.out.trans (Fr.alloc (From B) _ _)).trans hF2)
          clear hB2 hF2
          go_wp2_with fail
          refine ⟨⟨k + 1, by omega, by go_num, ?_, HF2⟩, by simp [intOf]; omega⟩
          rw [HE.out, HQ.out]
          exact hide (by simpa using HB2.out)
      · have HQ : Hid (quo1 b = [b]) := if_neg hq
        have q1 : ((b.toNat : Int) == 34) = false := beq_eq_false_iff_ne.2 (by omega)
        have q2 : ((b.toNat : Int) == 92) = false := beq_eq_false_iff_ne.2 (by omega)
        clear hq
        go_wp2_with (at_builtin; refine wpList_out rfl _ _ 32 rfl [b] rfl rfl (HBk.out.alloc _) (src_one rfl) ?hb2 ?hl2 ?_)
        case hb2 => simp; omega
        case hl2 => simp; omega
        intro v2 w2 hB2 hF2 _
        have HB2 := hide hB2
        have HF2 := hide ((HFk.out.trans (Fr.alloc (From B) _ _)).trans hF2)
        clear hB2 hF2
        go_wp2_with fail
        refine ⟨⟨k + 1, by omega, by go_num, ?_, HF2⟩, by simp [intOf]; omega⟩
        rw [HE.out, HQ.out]
        exact hide (by simpa using HB2.out)
    · have hkl : k = text.length := by omega
      subst hkl
      rw [List.take_length] at HBk hlk
      go_wp2_with (at_builtin; refine wpList_out rfl (.tmp 34) (.tmp 35) 32 rfl [34] rfl rfl (HBk.out.alloc _) (src_one rfl) ?hb4 ?hl4 ?_)
      case hb4 => simp; omega
      case hl4 => simp; omega
      intro v4 w4 hB4 hF4 _
      have HB4 := hide hB4
      have HF4 := hide ((HFk.out.trans (Fr.alloc (From B) _ _)).trans hF4)
      clear hB4 hF4
      go_wp2_with fail
      go_ret
      exact ⟨HF4, v4, rfl, by simpa using HB4.out⟩

theorem wHex_snoc (a : Bs) (b : UInt8) : wHex (a ++ [b]) = wHex a ++ [hexC (b.toNat / 16), hexC (b.toNat % 16)] := by
  induction a with
  | nil => rfl
  | cons c a ih => simp only [List.cons_append, wHex, ih]
theorem wHex_length (a : Bs) : (wHex a).length = 2 * a.length := by
  induction a with
  | nil => rfl
  | cons c a ih => simp only [wHex, List.length_cons, ih]; omega
def hexS : ByteArray := ⟨#[48, 49, 50, 51, 52, 53, 54, 55, 56, 57, 97, 98, 99, 100, 101, 102]⟩
theorem hexS_at (n : Nat) (h : n < 16) : ∀ h' : n < hexS.size, hexS[n]'h' = hexC n := by
  intro h'
  have : ∀ m : Fin 16, hexS[m.val]'m.isLt = hexC m.val := by decide +kernel
  exact this ⟨n, h⟩
theorem hex_and : ∀ n, n < 256 → bits BinOp.and IntKind.u8 (n : Nat) 15 = ((n % 16 : Nat) : Int) := by decide +kernel

set_option maxHeartbeats 4000000 in
set_option maxRecDepth 100000 in
theorem appendHexadecimal_any (w : World) (B : Nat) (sv : Value) (acc text : Bs) (h : BO w B sv acc) (hB : B ≤ w.heap.size) (hl : acc.length + 2 * text.length + 2 ≤ 140737488355328) :
    Calls Tryz.prog 121 #[sv, .string (ba text)] w fun e w' => OutPost w B (acc ++ 120 :: wHex text) e w' := by
  have HB := hide h
  have hsz := ba_size text
  clear h
  go_enter Tryz.func121, Tryz.ntmps121
  go_wp2_with (at_builtin; refine wpList_out rfl (.tmp 6) (.tmp 7) 32 rfl [120] rfl rfl (HB.out.alloc _) (src_one rfl) ?hb1 ?hl1 ?_)
  case hb1 => simp; omega
  case hl1 => simp; omega
  intro v1 w1 hB1 hF1 _
  have HB1 := hide hB1
  have HF1 := hide ((Fr.alloc (From B) w _).trans hF1)
  have hsz1 := HF1.out.size
  clear hB1 hF1
  go_wp2_with fail
  go_loopw [0, 11] (fun ov i wr => ∃ k : Nat, k ≤ text.length ∧ i = .int .i64 k ∧ Hid (BO wr B ov (acc ++ [120] ++ wHex (text.take k))) ∧ Hid (Fr (From B) w wr)) (fun _ i _ => text.length - (intOf i).toNat)
  case atStart => exact ⟨0, by omega, rfl, by simpa [wHex] using HB1, HF1⟩
  case round =>
    obtain ⟨k, hk, rfl, HBk, HFk⟩ := hrel
    have hszk := HFk.out.size
    have hlk := wHex_length (text.take k)
    rw [List.length_take] at hlk
    by_cases hlt : k < text.length
    · obtain ⟨b, hb⟩ : ∃ b, text[k]? = some b := ⟨text[k], by simp [hlt]⟩
      obtain ⟨hj, hg⟩ := ba_get hb
      have hI : (k : Int) < (text.length : Int) := by omega
      have HE : Hid (wHex (text.take (k + 1)) = wHex (text.take k) ++ [hexC (b.toNat / 16), hexC (b.toNat % 16)]) := by
        show _ = _
        obtain ⟨_, he⟩ := List.getElem?_eq_some_iff.1 hb
        rw [List.take_succ_eq_append_getElem hlt, he, wHex_snoc]
      clear hb
      have hb256 := b.toNat_lt
      obtain ⟨x, hx⟩ : ∃ x, x = b.toNat / 16 := ⟨_, rfl⟩
      obtain ⟨y, hy⟩ : ∃ y, y = b.toNat % 16 := ⟨_, rfl⟩
      have hand : bits BinOp.and IntKind.u8 (b.toNat : Int) 15 = (y : Int) := by rw [hex_and b.toNat (by omega), hy]
      have hdiv : (b.toNat : Int) / 16 = (x : Int) := by omega
      have hx16 : x < 16 := by omega
      have hy16 : y < 16 := by omega
      have hxI : (x : Int) < 16 := by omega
      have hyI : (y : Int) < 16 := by omega
      obtain ⟨c1, hc1⟩ : ∃ c1, c1 = hexC x := ⟨_, rfl⟩
      obtain ⟨c2, hc2⟩ : ∃ c2, c2 = hexC y := ⟨_, rfl⟩
      have g1 : ∀ h', ({ data := #[48, 49, 50, 51, 52, 53, 54, 55, 56, 57, 97, 98, 99, 100, 101, 102] } : ByteArray)[x]'h' = c1 := fun h' => (hexS_at x hx16 h').trans hc1.symm
      have g2 : ∀ h', ({ data := #[48, 49, 50, 51, 52, 53, 54, 55, 56, 57, 97, 98, 99, 100, 101, 102] } : ByteArray)[y]'h' = c2 := fun h' => (hexS_at y hy16 h').trans hc2.symm
      rw [← hx, ← hy, ← hc1, ← hc2] at HE
      clear hx hy hc1 hc2
      have m1 : Hid (B ≤ (wr.drew.alloc (.cells #[.int .u8 c1.toNat, .int .u8 c2.toNat] 5)).heap.size) := by show _ ≤ _; simp; omega
      have m2 : Hid ((acc ++ [120] ++ wHex (text.take k)).length + [c1, c2].length ≤ 140737488355328) := by show _ ≤ _; simp; omega
      go_wp2_with fail
      go_region_law (refine step_out (sv := u0) (xv := .slice (some ⟨wr.heap.size, 0, none⟩) 2 2) rfl (.tmp 14) (.tmp 25) 32 rfl [c1, c2] (by simp [Act.eval]) (by simp [Act.eval]) (by exact (HBk.out.keep (Fr.dr Zero wr) (fun _ _ h => h)).alloc _) (by exact src_two (w := wr.drew) rfl) m1.out m2.out ?_; intro v2 w2 hB2 hF2 _)
      all_goals
        have HB2 := hide hB2
        have HF2 := hide (((HFk.out.trans (Fr.dr (From B) _)).trans (Fr.alloc (From B) _ _)).trans hF2)
        clear hB2 hF2
        go_wp2_with fail
        refine ⟨⟨k + 1, by omega, by go_num, ?_, HF2⟩, by simp [intOf]; omega⟩
        rw [HE.out]
        exact hide (by simpa using HB2.out)
    · have hkl : k = text.length := by omega
      subst hkl
      rw [List.take_length] at HBk
      go_wp2_with fail
      go_ret
      exact ⟨HFk, u0, rfl, by simpa using HBk.out⟩

end Go.Proofs.YtapblkmlhoalgaaGreatDoor
