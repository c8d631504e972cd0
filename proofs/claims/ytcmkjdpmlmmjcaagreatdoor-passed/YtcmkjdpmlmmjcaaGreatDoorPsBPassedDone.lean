/- Passed (P10, P11), the whole claim: whatever the description, the values' texts and the bytes, what goes through a bus one by one comes out as the document says: the bus tells the errors that Check, Encode and Decode tell, a value read back is the value that went in, a part that is not there and a frame that was released are told as such, and an empty bus has all its room. For all strings and rows of strings within the form's reach; no other condition. The listed package variables hold what the program's text lays (the card's tie, over the pruned copy of the project). -/
import Derived.Carry
import Derived.SliceStrings
import Derived.Test.YtcmkjdpmlmmjcaaGreatDoorTie
import Derived.Test.YtcmkjdpmlmmjcaaGreatDoorCards
import Derived.SevenTiedAt
import Derived.Test.YtcmkjdpmlmmjcaaGreatDoorPsPLay
import Derived.Test.YtcmkjdpmlmmjcaaGreatDoorPsBPass
section
namespace Go.Proofs.YtcmkjdpmlmmjcaaGreatDoor.Q
open Go.RowKit

/-- A row of strings in memory, none of them greater than what a row can hold. -/
def StrsAt (w : World) (o : Option Addr) (len : Nat) : Prop := ∀ i, i < len → ∃ (b off : Nat) (x : ByteArray), o = some ⟨b, off, none⟩ ∧ w.cell? ⟨b, off + i, none⟩ = some (.string x) ∧ x.size ≤ 140737488355328

set_option maxHeartbeats 16000000 in
set_option maxRecDepth 100000 in
theorem passed_any (s : ByteArray) (w : World) (hw : Words w) (het : ErrT w) (hpt : PowT w) (hs : s.size ≤ maxLen) (o1 o2 : Option Addr) (len1 cap1 len2 cap2 : Nat) (h1 : StrsAt w o1 len1) (h2 : StrsAt w o2 len2) (hl1 : len1 ≤ 140737488355328) (hl2 : len2 ≤ 140737488355328) :
    Calls Tryz.prog 3 #[.string s, .slice o1 len1 cap1, .slice o2 len2 cap2] w fun e w' => e = .returned (.bool true) ∧ Fr Zero w w' := by
  have HW := hide hw
  have HE := hide het
  have HP := hide hpt
  have HS1 := hide h1
  have HS2 := hide h2
  clear hw het hpt h1 h2
  go_enter Tryz.func3, Tryz.ntmps3
  go_wp2_with fail
  refine (awake_any _ HW.out HE.out HP.out).mono ?_
  rintro e w1 ⟨hF1, rfl⟩
  have HF1 := hide hF1
  have HW1 := hide (HW.out.keep hF1 (fun h => h))
  have HE1 := hide (HE.out.keep hF1 (fun h => h))
  clear hF1
  go_wp2_with fail
  refine (check_any s _ HW1.out HE1.out hs).mono ?_
  rintro e w2 ⟨hF2, rfl⟩
  have HF2 := hide (HF1.out.trans hF2)
  have HW2 := hide (HW1.out.keep hF2 (fun h => h))
  have HE2 := hide (HE1.out.keep hF2 (fun h => h))
  clear hF2
  go_wp2_with fail
  refine (newbus_any s 64 (by omega) (by omega) _ HW2.out HE2.out hs).mono ?_
  rintro e w3 ⟨hF3, hcs⟩
  have HF3 := hide (HF2.out.trans hF3)
  have HW3 := hide (HW2.out.keep hF3 (fun h => h))
  have HE3 := hide (HE2.out.keep hF3 (fun h => h))
  have HP3 := hide (HP.out.keep HF3.out (fun h => h))
  have hsz2 := HF2.out.size
  clear hF3
  rcases hcs with ⟨hne, rfl⟩ | ⟨hc, B, bb, rb, yb, a, rfl, hB, hbb, hM⟩
  · have hz : (checkP s).1 ≠ 0 := fun e => hne (checkP_ok e)
    generalize checkP s = c at *
    have hzI : ((c.1 : Nat) : Int) ≠ 0 := by omega
    have hzb : (((c.1 : Nat) : Int) == 0) = false := beq_eq_false_iff_ne.2 hzI
    have q1 : (((c.1 : Nat) : Int) == (c.1 : Int)) = true := by simp
    have q2 : (((c.2 : Nat) : Int) == (c.2 : Int)) = true := by simp
    clear hz hne
    go_wp2_with fail
    go_ret
    exact ⟨rfl, HF3⟩
  · have HC := hide hc
    have HB0 : Hid (w.heap.size ≤ B) := by show _ ≤ _; omega
    have HEB : Hid (EB w3 B bb rb yb a (typeP s) (newR 64) 1) := ⟨hM, Emp.new, HW3.out, HE3.out, HP3.out, by have := HW.out.one; omega, by have := HP.out.lt; omega⟩
    rw [hc]
    clear hc hM
    go_wp2_with fail
    go_loopw [13] (fun iv wr => ∃ (i : Nat) (R : PR) (m : Nat), i ≤ 60 ∧ iv = .int .i64 i ∧ m ≤ 1 + 2 * i ∧ 1 ≤ m ∧ Hid (EB wr B bb rb yb a (typeP s) R m) ∧ Hid (Fr Zero w wr)) (fun iv _ => 60 - (intOf iv).toNat)
    case atStart => exact ⟨0, _, 1, by omega, rfl, by omega, by omega, HEB, HF3⟩
    case round =>
      clear HEB HF3
      obtain ⟨i, R, m, hi, rfl, hm, hm1, HEB, HF⟩ := hrel
      by_cases hgo : i < len1 + len2
      · have hgI : (i : Int) < (len1 : Int) + (len2 : Int) := by omega
        by_cases h60 : i < 60
        · have h60I : (i : Int) < 60 := by omega
          by_cases ha : i < len1
          · obtain ⟨b, off, x, ho, hc1, hx⟩ := HS1.out i ha
            subst ho
            have haI : (i : Int) < (len1 : Int) := by omega
            have d1 : wr.cell? ⟨b, off + i, none⟩ = some (.string x) := (HF.out.cell (a := ⟨b, off + i, none⟩) (World.block_lt_of_cell? w _ hc1) (fun h => h)).trans hc1
            clear hc1
            go_wp2_with fail
            refine (passes_any s x HC.out HEB.out hm1 (by omega) hs hx).mono ?_
            rintro e w5 ⟨rfl, hR5, R5, m5, hm5, hE5⟩
            have HE5 := hide hE5
            have HF5 := hide (HF.out.past ((HEB.out.bm.from hR5).mono (fun k _ e => Nat.le_trans HB0.out e)))
            have hm15 : 1 ≤ m5 := hE5.emp.first ▸ hE5.emp.fit.first
            clear hR5 hE5
            by_cases hb2 : i < len2
            · obtain ⟨b, off, x, ho, hc2, hx⟩ := HS2.out i hb2
              subst ho
              have hbI : (i : Int) < (len2 : Int) := by omega
              have d2 : w5.cell? ⟨b, off + i, none⟩ = some (.string x) := (HF5.out.cell (a := ⟨b, off + i, none⟩) (World.block_lt_of_cell? w _ hc2) (fun h => h)).trans hc2
              clear hc2
              go_wp2_with fail
              refine (crosses_any s x HC.out HE5.out hm15 (by omega) hs hx).mono ?_
              rintro e w9 ⟨rfl, hR9, R9, m9, hm9, hE9⟩
              have HE9 := hide hE9
              have HF9 := hide (HF5.out.past ((HE5.out.bm.from hR9).mono (fun k _ e => Nat.le_trans HB0.out e)))
              have hm19 : 1 ≤ m9 := hE9.emp.first ▸ hE9.emp.fit.first
              clear hR9 hE9
              go_wp2_with fail
              exact ⟨⟨i + 1, R9, m9, by omega, by simp, by omega, hm19, HE9, HF9⟩, by simp [intOf]; omega⟩
            · have hbI : ¬ (i : Int) < (len2 : Int) := by omega
              go_wp2_with fail
              exact ⟨⟨i + 1, R5, m5, by omega, by simp, by omega, hm15, HE5, HF5⟩, by simp [intOf]; omega⟩
          · have haI : ¬ (i : Int) < (len1 : Int) := by omega
            by_cases hb2 : i < len2
            · obtain ⟨b, off, x, ho, hc2, hx⟩ := HS2.out i hb2
              subst ho
              have hbI : (i : Int) < (len2 : Int) := by omega
              have d2 : wr.cell? ⟨b, off + i, none⟩ = some (.string x) := (HF.out.cell (a := ⟨b, off + i, none⟩) (World.block_lt_of_cell? w _ hc2) (fun h => h)).trans hc2
              clear hc2
              go_wp2_with fail
              refine (crosses_any s x HC.out HEB.out hm1 (by omega) hs hx).mono ?_
              rintro e w9 ⟨rfl, hR9, R9, m9, hm9, hE9⟩
              have HE9 := hide hE9
              have HF9 := hide (HF.out.past ((HEB.out.bm.from hR9).mono (fun k _ e => Nat.le_trans HB0.out e)))
              have hm19 : 1 ≤ m9 := hE9.emp.first ▸ hE9.emp.fit.first
              clear hR9 hE9
              go_wp2_with fail
              exact ⟨⟨i + 1, R9, m9, by omega, by simp, by omega, hm19, HE9, HF9⟩, by simp [intOf]; omega⟩
            · have hbI : ¬ (i : Int) < (len2 : Int) := by omega
              go_wp2_with fail
              exact ⟨⟨i + 1, R, m, by omega, by simp, by omega, hm1, HEB, HF⟩, by simp [intOf]; omega⟩
        · have h60I : ¬ (i : Int) < 60 := by omega
          go_wp2_with fail
          refine (broom_any HEB.out.bm HEB.out.emp.small.2 HEB.out.emp.small.1).mono ?_
          rintro e w7 ⟨rfl, hF7⟩
          rw [room_emp HEB.out.emp]
          have HF7 := hide (HF.out.trans hF7)
          clear hF7
          go_wp2_with fail
          go_ret
          exact ⟨rfl, HF7.out.trans (Fr.alloc _ _ _)⟩
      · have hgI : ¬ (i : Int) < (len1 : Int) + (len2 : Int) := by omega
        go_wp2_with fail
        refine (broom_any HEB.out.bm HEB.out.emp.small.2 HEB.out.emp.small.1).mono ?_
        rintro e w7 ⟨rfl, hF7⟩
        rw [room_emp HEB.out.emp]
        have HF7 := hide (HF.out.trans hF7)
        clear hF7
        go_wp2_with fail
        go_ret
        exact ⟨rfl, HF7.out.trans (Fr.alloc _ _ _)⟩

end Go.Proofs.YtcmkjdpmlmmjcaaGreatDoor.Q
end
section
namespace Go.Proofs.YtcmkjdpmlmmjcaaGreatDoor
open Go.ChangeShapes Go.WideShapes Go.ChangeAt Go.WideMaps Go.WideElems Go.RowKit
open Go.ChangeMaps (open_string shut_string)
open Q (StrsAt passed_any)

theorem sBytesStr : Tryz.prog.bytesOf 9 = 16 := by kernel_rfl

theorem weightsAll_mem {H : Type} {P : Program} {e : TypeId} {n : Nat} : ∀ {l : List (DataW H)} {d : DataW H}, d ∈ l → n ∈ d.weights P e → n ∈ DataW.weightsAll P e l
  | [], _, hd, _ => by simp at hd
  | x :: r, d, hd, hn => by
    simp only [DataW.weightsAll, List.mem_append]
    rcases List.mem_cons.1 hd with rfl | h
    · exact Or.inl hn
    · exact Or.inr (weightsAll_mem h hn)

set_option maxRecDepth 100000 in
/-- A row of strings that came in. -/
theorem strs_of {H : Type} {enc : TypeId × Value → H} {W : World} {fuel : Nat} {o : Option Addr} {len cap : Nat} {d : DataW H} {ps : List MemPlace}
    (h : DataW.trod enc Tryz.prog W 0 (fun _ => true) true fuel 22 [.slice o len cap] = some (d, ps)) (hw : ∀ n ∈ d.weights Tryz.prog 22, n ≤ reachBytes) : StrsAt W o len ∧ len ≤ 140737488355328 := by
  rcases open_strings Tryz.underlying22 Tryz.underlying9 lC9 h with ⟨hcs, _⟩ | ⟨a, len', cap', ss, hcs, _, hl, hm, hz, hx, hcell, hsz⟩
  · simp at hcs
    obtain ⟨_, rfl, _⟩ := hcs
    exact ⟨fun i hi => by omega, by omega⟩
  · simp at hcs
    obtain ⟨rfl, rfl, rfl⟩ := hcs
    simp only [Prod.mk.injEq] at hx
    obtain ⟨rfl, _⟩ := hx
    simp only [if_true] at hz
    have hr : reachBytes ≤ 140737488355328 := by decide
    unfold DataW.weights at hw
    rw [Tryz.underlying22] at hw
    simp only [List.mem_cons, List.mem_append] at hw
    have h1 := hw _ (Or.inl rfl)
    rw [sBytesStr] at h1
    have hl1 : (strs (H := H) (ss.take len)).length = len := by simp [strs]; omega
    rw [hl1] at h1
    refine ⟨fun i hi => ?_, by omega⟩
    have hi' : i < ss.length := by omega
    have hc := hcell i hi'
    have hg : ss.getD i ByteArray.empty ∈ ss.take len := by
      rw [List.getD_eq_getElem?_getD, List.getElem?_eq_getElem hi', Option.getD_some]
      exact List.mem_take_iff_getElem.2 ⟨i, by omega, rfl⟩
    have hs := hw (ss.getD i ByteArray.empty).data.toList.length (Or.inr (Or.inl (weightsAll_mem (d := .lit (.string (ss.getD i ByteArray.empty).data.toList)) (List.mem_map.2 ⟨_, hg, rfl⟩) (by simp [DataW.weights]))))
    rw [Array.length_toList] at hs
    obtain ⟨b, off, spot⟩ := a
    have hspot : spot = none := by simpa [Addr.add] using World.cell?_spot (hcell 0 (by omega))
    subst hspot
    rw [add_plain] at hc
    exact ⟨b, off, _, rfl, hc, Nat.le_trans hs hr⟩

set_option maxRecDepth 100000 in
theorem passed_lifted (os : Os) (started : os.Started) (H : Type) (enc : TypeId × Value → H) :
    ReturnsInHanded {} Tryz.checked os 3 .any (fun w args => (Rows.passedSpec.pre enc Tryz.prog Tryz.f3 [] false w args ∧ laidMetH Tryz.prog Rows.passedRow.laid w) ∧ sizedMet enc Tryz.prog Tryz.f3 (OpenSpec.ofChange Rows.passedSpec) false w args)
      (Rows.passedSpec.post enc Tryz.prog Tryz.f3 false true false false) := by
  rw [show Rows.passedRow.laid = laidL from rfl]
  refine returnsInHanded_of_change_and (C := Tryz.checked) (X := fun w _ => laidMetH Tryz.prog laidL w) (fun _ _ _ hh h => h.of_heap hh) lOwn started (by kernel_rfl) Tryz.func3
    (ChangeSpec.witness_shaped (enc := enc) (C := Tryz.checked) (os := os) (X := fun w _ => laidMetH Tryz.prog laidL w) false (witW os) #[.string ⟨#[]⟩, .slice none 0 0, .slice none 0 0] 8 (World.layVars_os _ _ _) (World.shaped_of_ZipB (by kernel_rfl) (by kernel_rfl)) (by kernel_rfl) (by kernel_rfl) (by kernel_rfl) (wit_met os _)) ?_
  intro W base args ds gs before hval0 hW _ hsz hL _
  have hval : ∀ (j : Nat) t v, Tryz.f3.params[j]? = some t → args[j]? = some v → Value.okWide Tryz.prog W .any base t v := hval0
  have hW' := hW
  obtain ⟨p, q, hA0, hV, rfl, hfz, hnd⟩ := hW
  have hAA : DataW.TrodAll enc Tryz.prog W 0 (fun _ => true) true Tryz.f3.params.toList args.toList ds p := hA0
  rw [Tryz.params3] at hAA hval hsz
  obtain ⟨v0, v1, v2, d0, d1, d2, p0, p1, p2, rfl, rfl, rfl, h0, h1, h2⟩ := trodAll_three hAA
  obtain ⟨rfl, rfl⟩ := trodVars_none hV
  obtain ⟨s, rfl, rfl, rfl, hs⟩ := open_string Tryz.underlying9 (hval 0 9 v0 rfl rfl) h0
  obtain ⟨o1, len1, cap1, rfl⟩ := okWide_slice Tryz.underlying22 (hval 1 22 v1 rfl rfl)
  obtain ⟨o2, len2, cap2, rfl⟩ := okWide_slice Tryz.underlying22 (hval 2 22 v2 rfl rfl)
  obtain ⟨g1, g2, g3⟩ := laid_all hL
  have hall := List.all_eq_true.1 hsz
  have w1 : ∀ n ∈ d1.weights Tryz.prog 22, n ≤ reachBytes := fun n hn => of_decide_eq_true (hall n (DataW.weights_mem_each (j := 1) rfl rfl n hn))
  have w2 : ∀ n ∈ d2.weights Tryz.prog 22, n ≤ reachBytes := fun n hn => of_decide_eq_true (hall n (DataW.weights_mem_each (j := 2) rfl rfl n hn))
  have h1k := h1
  have h2k := h2
  obtain ⟨fuel1, hf1⟩ := h1
  obtain ⟨fuel2, hf2⟩ := h2
  have hc1 : DataW.trod enc Tryz.prog W 0 (fun _ => true) true fuel1 22 [.slice o1 len1 cap1] = some (d1, p1) := hf1
  have hc2 : DataW.trod enc Tryz.prog W 0 (fun _ => true) true fuel2 22 [.slice o2 len2 cap2] = some (d2, p2) := hf2
  obtain ⟨hS1, hn1⟩ := strs_of hc1 w1
  obtain ⟨hS2, hn2⟩ := strs_of hc2 w2
  clear hA0 hval0
  simp only [List.append_nil, List.nil_append] at hW'
  have hlt1 : ∀ x ∈ p1, x.block < W.heap.size := fun x hx => by simpa using hW'.lt x (by simp [hx])
  have hlt2 : ∀ x ∈ p2, x.block < W.heap.size := fun x hx => by simpa using hW'.lt x (by simp [hx])
  refine (passed_any s W g1 g2 g3 hs o1 o2 len1 cap1 len2 cap2 hS1 hS2 hn1 hn2).mono fun e W' ⟨he, hw⟩ => ?_
  subst he
  have hbelow : Below W.heap.size W W' := hw.below (Nat.le_refl _) (fun _ h => h.elim)
  have e1 : Rows.passedSpec.fn H ([.lit (.string s.data.toList), d1, d2] ++ []) = { results := [.lit (.bool true)], args := [.lit (.string s.data.toList), d1, d2] } := rfl
  refine ⟨_, rfl, _, _, _, [], p1 ++ p2, [], hW', ?_, ?_, ?_, hbelow.frame _, fun h => by cases h⟩
  · rw [e1]; exact trodAll_mk1 (shut_bool Tryz.underlying4 true)
  · rw [e1]; exact trodAll_mk3 (shut_string Tryz.underlying9 hs) (Below.trod pLaidOut (by kernel_rfl) (of_decide_eq_true (by kernel_rfl)) h1k hbelow hlt1) (Below.trod pLaidOut (by kernel_rfl) (of_decide_eq_true (by kernel_rfl)) h2k hbelow hlt2)
  · rw [e1]; rfl

set_option maxHeartbeats 16000000 in
theorem passed_facts : joinedFacts Tryz.checked.prog 3 Tryz.f3 Rows.passedSpec Rows.passedRow = true := by
  unfold joinedFacts
  iterate 31 (refine and_t ?_ (by first | with_reducible exact pLaidOut | with_reducible exact pMapsRowed | with_reducible exact pStopsHeard | with_reducible exact pMayEnter | as_aux_lemma => kernel_rfl))
  as_aux_lemma => kernel_rfl

theorem passed_row : Rows.PassedSaid :=
  OpenClaim.holds_of_wide 3 Tryz.f3 rfl rfl rfl rfl rfl rfl rfl ⟨rfl, rfl, rfl, rfl, rfl⟩ rfl rfl rfl rfl rfl (by kernel_rfl) Tryz.func3 passed_facts
    (of_decide_eq_true (by kernel_rfl)) (by unfold Func.isWrapper; rw [if_neg (of_decide_eq_false (by kernel_rfl))]; exact ⟨rfl, rfl⟩)
    (fun os started H enc _ => passed_lifted os started H enc)

end Go.Proofs.YtcmkjdpmlmmjcaaGreatDoor
end
section
namespace Go.Proofs.YtcmkjdpmlmmjcaaGreatDoor
open Go

theorem passed_holds : Rows.PassedCardSaid :=
  Claim7.holds_tied_plain_at .later [] [.data, .data, .data, .data, .handle, .data, .pinned] true (true, "ddb4821307747d70996b95e6b378b33380a5ccc354f30ea2e5b390913c9e31a0") true
    passed_row (fun _ h => by cases h) (by kernel_rfl) (fun _ h => by cases h) passed_row_tie rfl ⟨rfl, rfl⟩ (by kernel_rfl) rfl
    (fun f fn hf hfn => by
      obtain rfl : f = 3 := Option.some.inj ((show Tryz.prog.funcNamed Rows.passedRow.func = some 3 by kernel_rfl).symm.trans hf) |>.symm
      obtain rfl : fn = Tryz.f3 := (Option.some.inj (Tryz.func3.symm.trans hfn)).symm
      exact ⟨by kernel_rfl, fun j t ht => by
        rw [Tryz.params3] at ht
        have h9 : t = 9 ∨ t = 22 := by
          rcases j with _ | _ | _ | j
          · left; simpa using ht.symm
          · right; simpa using ht.symm
          · right; simpa using ht.symm
          · simp at ht
        rcases h9 with rfl | rfl
        · exact (show Tryz.prog.wantsStandIn 9 = false by kernel_rfl)
        · exact (show Tryz.prog.wantsStandIn 22 = false by kernel_rfl)⟩)
    (by kernel_rfl)

end Go.Proofs.YtcmkjdpmlmmjcaaGreatDoor
end
