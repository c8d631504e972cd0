/- Made (P3 to P6), the whole claim: whatever the list of raw numbers, of the description, the value's text and the bytes that are made of it side by side: it is a description; Encode and Decode go from the one to the other; Get of each part's path is this part, and of what stands behind a part that is none is told as such. For all lists within the form's reach; no other condition. The listed package variables hold what the program's text lays (the card's tie, over the pruned copy of the project). -/
import Derived.Carry
import Derived.Deep.Slices
import Derived.Test.YtdcjogpkogidaaaGreatDoorTie
import Derived.Test.YtdcjogpkogidaaaGreatDoorCards
import Derived.SevenTiedAt
import Derived.Test.YtdcjogpkogidaaaGreatDoorMdDPure
import Derived.Test.YtdcjogpkogidaaaGreatDoorMdPAny
section
namespace Go.Proofs.YtdcjogpkogidaaaGreatDoor.Q
open Go.RowKit

theorem tText_pos {k : Nat} {t : PT} (h : MadeT (k + 1) t) : 1 ≤ (tText (k + 1) t).length := by
  rw [tText_succ]
  rcases h with ⟨h7, e⟩ | ⟨h78, u, hu, e⟩ | ⟨h90, l, _, _, _, e⟩
  · rw [if_pos h7]
    have := (wd_fine t.kind h7).2.1
    have h2 : (wd t.kind).data.toList.length = (wd t.kind).size := by rw [Array.length_toList]; rfl
    omega
  · rw [if_neg (by omega)]
    split
    · simp
    · rw [if_pos (by omega)]; simp
  · rw [if_neg (by omega), if_neg (by omega), if_neg (by omega)]
    split <;> simp

theorem step_len {k : Nat} {t : PT} (hW : WFT (k + 1) t) (n : Int) (i : Nat) : (stepOf t n i).length ≤ 400 := by
  have hn : ∀ i, (t.name i).length ≤ 400 := fun i => by
    unfold PT.name
    rcases h : t.names[i]? with _ | x
    · simp
    · have := hW.2.2.2.2.2.1.2 x (List.mem_of_getElem? h)
      have e : x.data.toList.length = x.size := by rw [Array.length_toList]; rfl
      rw [Option.getD_some]
      omega
  unfold stepOf
  split
  · have := decN_len 20 i; omega
  · split
    · simp
    · split
      · exact hn i
      · exact hn _
theorem ways_len : ∀ (k : Nat) (t : PT) (v : PV) (p : Bs), WFT k t → Valid k t v → ∀ a ∈ waysOf k p v, a.1.length ≤ p.length + 401 * k := by
  intro k
  induction k with
  | zero => intro t v p _ h; exact h.elim
  | succ k ih =>
    intro t v p hW hV a ha
    unfold waysOf at ha
    rcases List.mem_cons.1 ha with rfl | ha
    · simp
    · obtain ⟨j, x, _, _, hx, hax⟩ := kids_mem _ _ ha
      obtain ⟨t', ht', hV'⟩ := step_sub hW hV x (List.mem_of_getElem? hx)
      have h1 := ih t' x _ (hW.2.2.1 t' ht') hV' a hax
      have h2 := under_size p (stepOf v.of v.num j)
      have h3 := step_len hW v.num j
      rw [hV.1] at h1 h2
      omega

/-- What is written of a value that is made is read as it. -/
theorem made_codes {t : PT} {v : PV} (ht : MadeT 4 t) (hv : Valid 4 t v) (h4 : 2 + (tText 4 t).length ≤ 400) (h1 : (wMsg 4 v).length ≤ 1000) :
    checkP (ba (109 :: 61 :: tText 4 t)) = (0, 0) ∧ decP (ba (109 :: 61 :: tText 4 t)) (ba (wMsg 4 v)) = (ba (wText 4 v), 0, 0) ∧ encP (ba (109 :: 61 :: tText 4 t)) (ba (wText 4 v)) = (ba (wMsg 4 v), 0, 0) ∧
      ∀ a ∈ waysOf 4 [] v, getP (ba (109 :: 61 :: tText 4 t)) (ba (wMsg 4 v)) (ba a.1) = (ba a.2, 0, 0) ∧ (getP (ba (109 :: 61 :: tText 4 t)) (ba (wMsg 4 v)) (ba (a.1 ++ 47 :: zz))).2.1 = 7 ∧ a.1.length ≤ 10000 := by
  have hp : 1 ≤ (tText 4 t).length := tText_pos ht
  have hz : (ba (109 :: 61 :: tText 4 t)).size = 2 + (tText 4 t).length := by rw [ba_size]; simp only [List.length_cons]; omega
  obtain ⟨hc, hT⟩ := made_check ht (by omega) (s := ba (109 :: 61 :: tText 4 t)) (ba_list _) (by omega) (by omega)
  obtain ⟨f1, f2, f3, f4⟩ := fuel_up 8 4 t v hv
  have hW := typeP_good hc
  have f1' : Valid 12 (typeP (ba (109 :: 61 :: tText 4 t))) v := by rw [hT]; exact f1
  have f2' : wText 12 v = wText 4 v := f2
  have f3' : wMsg 12 v = wMsg 4 v := f3
  have f4' : waysOf 12 [] v = waysOf 4 [] v := f4 []
  have hm := rMsg_whole 12 _ v [] hW f1'
  rw [List.append_nil, f3'] at hm
  have hd : decP (ba (109 :: 61 :: tText 4 t)) (ba (wMsg 4 v)) = (ba (wText 4 v), 0, 0) := by
    unfold decP
    rw [if_pos (by rw [hc]), if_pos (by rw [ba_size]; exact h1), ba_list, hm]
    simp only [decR]
    rw [f2']
  refine ⟨hc, hd, ?_, ?_⟩
  · have := (dec_back hc (data := ba (wMsg 4 v)) (by rw [hd])).1
    rw [hd] at this
    exact this
  · rw [← f4']
    intro a ha
    obtain ⟨g1, g2⟩ := made_get_all hc (by rw [hT]; exact made_n2 12 4 t ht) f1' (by rw [ba_list, f3']) (by rw [ba_size]; exact h1) a ha
    have g3 := ways_len 12 _ v [] hW f1' a ha
    exact ⟨g1, g2, by simp at g3; omega⟩

/-- The newborn maker. -/
theorem MK.born (w : World) (tv : Value) : MK (w.alloc (.cells #[tv, .int .i64 0, .slice none 0 0, .slice none 0 0, .slice none 0 0, .int .i64 0] 36)) w.heap.size tv 0 (.slice none 0 0) (.slice none 0 0) (.slice none 0 0) 0 := heap_new_at rfl _
theorem MZ.none {w : World} {B2 mb n sz : Nat} {tv : Value} (h : MK w mb tv n (.slice none 0 0) (.slice none 0 0) (.slice none 0 0) sz) : MZ w B2 mb tv n [] [] sz :=
  ⟨_, _, _, h, PRow.nil _ _ _, PRow.nil _ _ _, PRow.nil _ _ _, fun g hg => by simp [blockOf] at hg, fun g hg => by simp [blockOf] at hg, fun g hg => by simp [blockOf] at hg, fun g hg => by simp [blockOf] at hg⟩

set_option maxHeartbeats 16000000 in
set_option maxRecDepth 100000 in
theorem made_any (w : World) (tv : Value) (hT : TapeAt w w.heap.size tv) (hw : Words w) (het : ErrT w) (hpt : PowT w) :
    Calls Tryz.prog 5 #[tv] w fun e w' => e = .returned (.bool true) ∧ Fr Zero w w' := by
  have HW := hide hw
  have HE := hide het
  have HP := hide hpt
  have HT := hide hT
  have HA : Hid (Fr Zero w (w.alloc (.cells #[tv, .int .i64 0, .slice none 0 0, .slice none 0 0, .slice none 0 0, .int .i64 0] 36))) := Fr.alloc _ _ _
  have HM0 := hide (MK.born w tv)
  have hs0 : (w.alloc (.cells #[tv, .int .i64 0, .slice none 0 0, .slice none 0 0, .slice none 0 0, .int .i64 0] 36)).heap.size = w.heap.size + 1 := by simp
  obtain ⟨to_, tl, tc, htv, _⟩ := hT
  subst htv
  clear hw het hpt
  go_enter Tryz.func5, Tryz.ntmps5
  go_wp2_with fail
  generalize w.alloc (.cells #[.slice to_ tl tc, .int .i64 0, .slice none 0 0, .slice none 0 0, .slice none 0 0, .int .i64 0] 36) = w0 at *
  refine (shape_all 3 (by omega) w0 w.heap.size w.heap.size 0 0 _ _ _ _ HM0.out (HT.out.keep HA.out (fun _ _ e => e)) (Nat.le_refl _) (by decide)).mono ?_
  rintro e w1 ⟨a, t, n1, rfl, hF1, hM1, hn1, hmt, hS1⟩
  have HF1 := hide hF1
  have HM1 := hide hM1
  have HMT := hide hmt
  have HS1 := hide hS1
  have hl := tText_len 4 t hmt
  clear hF1 hM1 hmt hS1 HM0
  go_wp2_with fail
  refine (text_all 4 (by omega) w1 _ a t HS1.out HMT.out).mono ?_
  rintro e w2 ⟨rfl, hF2⟩
  have HF2 := hide hF2
  have hs01 := HF1.out.size
  have hs12 := hF2.size
  have HV : Hid (VIn w2 w.heap.size w2.heap.size w.heap.size (.slice to_ tl tc) n1 [] [] 0 4 a t) := by
    refine ⟨MZ.none (hF2.keep HM1.out (fun e => e)), ((HT.out.keep HA.out (fun _ _ e => e)).keep HF1.out (fun k hk e => ?_)).keep hF2 (fun _ _ e => e), ?_, HMT.out, Nat.le_refl _, by omega, Nat.le_refl _⟩
    · have e' : k = w.heap.size := e
      omega
    · refine SRep.avoid (fun b hb e => ?_) _ _ _ (SRep.keep hF2.of0 _ _ _ HS1.out)
      show b < w0.heap.size
      rcases e with e | e <;> omega
  have HROOM : Hid (VRoom 0 n1 [] [] 0 4 [] []) := by
    have hc1 : costS 3 = 625 := by decide
    have hc2 : CM 4 = 10240 := by decide
    refine ⟨by omega, by simp; omega, by simp; omega, by omega, by simp, by simp⟩
  have z1 : (ba (tText 4 t)).size = (tText 4 t).length := ba_size _
  have a1 : ⟨#[109, 61]⟩ ++ ba (tText 4 t) = ba (109 :: 61 :: tText 4 t) := ba_append [109, 61] _
  have n1' : ¬ 9223372036854775807 < 2 + (tText 4 t).length := by omega
  clear hF2 HS1
  go_wp2_with fail
  refine (value_all 4 w2 w.heap.size w2.heap.size w.heap.size _ n1 [] [] 0 a t [] [] HV.out HROOM.out).mono ?_
  rintro e w3 ⟨v, n3, sz3, rfl, ho⟩
  have HF3 : Hid (Fr Zero w w3) := HA.out.past ((HF1.out.mono (fun k _ e => by have e' : k = w.heap.size := e; show _ ≤ _; omega)).trans (HF2.out.of0.trans (ho.fr.mono (fun k _ e => by show _ ≤ _; rcases e with e | e <;> omega))))
  have HW3 := hide (HW.out.keep HF3.out (fun h => h))
  have HE3 := hide (HE.out.keep HF3.out (fun h => h))
  have HP3 := hide (HP.out.keep HF3.out (fun h => h))
  obtain ⟨pv, qv, nv, hM3⟩ := ho.mz
  rw [List.nil_append] at hM3
  have HM3 := hide hM3
  have HVA := hide ho.va
  have zt : (wText 4 v).length ≤ 10240 := ho.ct
  have zm : (wMsg 4 v).length ≤ 10240 := ho.cm
  have zw : (waysOf 4 [] v).length ≤ 10240 := ho.ck
  have zT : (ba (wText 4 v)).size = (wText 4 v).length := ba_size _
  have zM : (ba (wMsg 4 v)).size = (wMsg 4 v).length := ba_size _
  have zD : (ba (109 :: 61 :: tText 4 t)).size = (tText 4 t).length + 2 := ba_size _
  clear ho hM3 HV HROOM HM1 HA HF1 HF2 a1 n1' z1 hs01 hs12 hs0 HT
  go_wp2_with fail
  refine (awake_any _ HW3.out HE3.out HP3.out).mono ?_
  rintro e w4 ⟨hF4, rfl⟩
  have HF4 := hide (HF3.out.trans hF4)
  have HW4 := hide (HW3.out.keep hF4 (fun h => h))
  have HE4 := hide (HE3.out.keep hF4 (fun h => h))
  have HP4 := hide (HP3.out.keep hF4 (fun h => h))
  have HM4 := hide (HM3.out.quiet hF4)
  clear hF4 HF3 HW3 HE3 HP3 HM3
  by_cases h4 : 2 + (tText 4 t).length ≤ 400
  · by_cases h1 : (wMsg 4 v).length ≤ 1000
    · have h4I : ¬ (400 : Int) < ((tText 4 t).length : Int) + 2 := by omega
      have h1I : ¬ (1000 : Int) < ((wMsg 4 v).length : Int) := by omega
      have HCO := hide (made_codes HMT.out HVA.out h4 h1)
      have hsz1 : (ba (109 :: 61 :: tText 4 t)).size ≤ maxLen := by unfold maxLen; omega
      have hsz2 : (ba (wText 4 v)).size ≤ 140737488355328 := by omega
      have hsz3 : (ba (wMsg 4 v)).size ≤ maxLen := by unfold maxLen; omega
      generalize ba (109 :: 61 :: tText 4 t) = D at *
      generalize hWS : waysOf 4 [] v = WS at *
      generalize ba (wText 4 v) = X at *
      generalize ba (wMsg 4 v) = M at *
      clear hWS
      have hX := sameB X
      have hMM := sameB M
      go_wp2_with fail
      refine (check_any D _ HW4.out HE4.out hsz1).mono ?_
      rintro e w5 ⟨hF5, rfl⟩
      rw [HCO.out.1]
      have HF5 := hide (HF4.out.trans hF5)
      have HW5 := hide (HW4.out.keep hF5 (fun h => h))
      have HE5 := hide (HE4.out.keep hF5 (fun h => h))
      have HP5 := hide (HP4.out.keep hF5 (fun h => h))
      have HM5 := hide (HM4.out.quiet hF5)
      clear hF5 HF4 HW4 HE4 HP4 HM4
      go_wp2_with fail
      refine (encode_any D X _ HW5.out HE5.out hsz1 hsz2).mono ?_
      rw [HCO.out.2.2.1]
      rintro e w6 ⟨hF6, rfl⟩
      have HF6 := hide (HF5.out.trans hF6)
      have HW6 := hide (HW5.out.keep hF6 (fun h => h))
      have HE6 := hide (HE5.out.keep hF6 (fun h => h))
      have HP6 := hide (HP5.out.keep hF6 (fun h => h))
      have HM6 := hide (HM5.out.quiet hF6)
      clear hF6 HF5 HW5 HE5 HP5 HM5
      go_wp2_with fail
      refine (decode_any D M _ HW6.out HE6.out HP6.out hsz1 hsz3).mono ?_
      rw [HCO.out.2.1]
      rintro e w7 ⟨hF7, rfl⟩
      have HF7 := hide (HF6.out.trans hF7)
      have HW7 := hide (HW6.out.keep hF7 (fun h => h))
      have HE7 := hide (HE6.out.keep hF7 (fun h => h))
      have HP7 := hide (HP6.out.keep hF7 (fun h => h))
      have HM7 := hide (HM6.out.quiet hF7)
      clear hF7 HF6 HW6 HE6 HP6 HM6
      go_wp2_with fail
      go_loopw [17, 18, 19, 20, 21, 22, 23] (fun iv _ _ _ _ _ _ wr => ∃ i : Nat, i ≤ WS.length ∧ iv = .int .i64 i ∧ Hid (Fr Zero w7 wr)) (fun iv _ _ _ _ _ _ _ => WS.length - (intOf iv).toNat)
      case atStart => exact ⟨0, by omega, rfl, Fr.refl _ _⟩
      case round =>
        obtain ⟨i, hi, rfl, HF⟩ := hrel
        have hMr := HM7.out.quiet HF.out
        have k2 := hMr.bk.at2
        have k3 := hMr.bk.at3
        obtain ⟨pa, pc, hpv⟩ := hMr.rp.len
        obtain ⟨qa, qc, hqv⟩ := hMr.rq.len
        rw [List.length_map] at hpv hqv
        subst hpv hqv
        by_cases hil : i < WS.length
        · have hilI : (i : Int) < (WS.length : Int) := by omega
          obtain ⟨a, ha⟩ : ∃ a, WS[i]? = some a := ⟨_, List.getElem?_eq_getElem hil⟩
          obtain ⟨g1, g2, g3⟩ := HCO.out.2.2.2 a (List.mem_of_getElem? ha)
          obtain ⟨pb, po, pc', e1, p1⟩ := hMr.rp.at_ (j := i) (u := .string (ba a.1)) (by simp [strs, ha])
          obtain ⟨qb, qo, qc', e2, q1⟩ := hMr.rq.at_ (j := i) (u := .string (ba a.2)) (by simp [strs, ha])
          simp at e1 e2
          obtain ⟨rfl, rfl⟩ := e1
          obtain ⟨rfl, rfl⟩ := e2
          have HM8 := hide hMr
          have G1 := hide g1
          have G2 := hide g2
          have HWr := hide (HW7.out.keep HF.out (fun h => h))
          have HEr := hide (HE7.out.keep HF.out (fun h => h))
          have HPr := hide (HP7.out.keep HF.out (fun h => h))
          have s1 := ba_size a.1
          have a47 : ba a.1 ++ ⟨#[47, 122, 122]⟩ = ba (a.1 ++ 47 :: zz) := ba_append a.1 [47, 122, 122]
          have n47 : ¬ 9223372036854775807 < a.1.length + 3 := by omega
          have s2 : (ba (a.1 ++ 47 :: zz)).size = a.1.length + 3 := by rw [ba_size]; simp [zz]
          have m1 : (ba a.1).size ≤ maxLen := by unfold maxLen; omega
          have m2 : (ba (a.1 ++ 47 :: zz)).size ≤ maxLen := by unfold maxLen; omega
          have hx2 := sameB (ba a.2)
          clear hMr g1 g2 ha
          go_wp2_with fail
          refine (get_any D M (ba a.1) _ HWr.out HEr.out HPr.out hsz1 hsz3 m1).mono ?_
          rw [G1.out]
          rintro e w8 ⟨hF8, rfl⟩
          have k2' := (hF8.cell (a := ⟨w.heap.size, 2, none⟩) (World.block_lt_of_cell? _ _ k2) (fun h => h)).trans k2
          have k3' := (hF8.cell (a := ⟨w.heap.size, 3, none⟩) (World.block_lt_of_cell? _ _ k3) (fun h => h)).trans k3
          have p1' := (hF8.cell (a := ⟨pb, po + i, none⟩) (World.block_lt_of_cell? _ _ p1) (fun h => h)).trans p1
          have q1' := (hF8.cell (a := ⟨qb, qo + i, none⟩) (World.block_lt_of_cell? _ _ q1) (fun h => h)).trans q1
          have HF8 := hide (HF.out.trans hF8)
          have HW8 := hide (HWr.out.keep hF8 (fun h => h))
          have HE8 := hide (HEr.out.keep hF8 (fun h => h))
          have HP8 := hide (HPr.out.keep hF8 (fun h => h))
          clear hF8 k2 k3 p1 q1 HWr HEr HPr
          go_wp2_with fail
          refine (get_any D M (ba (a.1 ++ 47 :: zz)) _ HW8.out HE8.out HP8.out hsz1 hsz3 m2).mono ?_
          rintro e w9 ⟨hF9, rfl⟩
          have k3'' := (hF9.cell (a := ⟨w.heap.size, 3, none⟩) (World.block_lt_of_cell? _ _ k3') (fun h => h)).trans k3'
          have q1'' := (hF9.cell (a := ⟨qb, qo + i, none⟩) (World.block_lt_of_cell? _ _ q1') (fun h => h)).trans q1'
          have HF9 := hide (HF8.out.trans hF9)
          rw [G2.out]
          clear hF9 k2' k3' p1' q1' HW8 HE8 HP8
          go_wp2_with fail
          exact ⟨⟨i + 1, by omega, by go_num, HF9⟩, by simp [intOf]; omega⟩
        · have hilI : ¬ (i : Int) < (WS.length : Int) := by omega
          clear hMr
          go_wp2_with fail
          go_ret
          exact ⟨rfl, HF7.out.trans HF.out⟩
    · have h4I : ¬ (400 : Int) < ((tText 4 t).length : Int) + 2 := by omega
      have h1I : (1000 : Int) < ((wMsg 4 v).length : Int) := by omega
      go_wp2_with fail
      go_ret
      exact ⟨rfl, HF4.out⟩
  · have h4I : (400 : Int) < ((tText 4 t).length : Int) + 2 := by omega
    go_wp2_with fail
    go_ret
    exact ⟨rfl, HF4.out⟩

end Go.Proofs.YtdcjogpkogidaaaGreatDoor.Q
end
section
namespace Go.Proofs.YtdcjogpkogidaaaGreatDoor
open Go.ChangeShapes Go.WideShapes Go.ChangeAt Go.WideMaps Go.WideElems Go.RowKit
open Q (made_any)

theorem mCellsInt : Tryz.prog.cellsOf 3 = 1 := by kernel_rfl
theorem mcell_int {H : Type} {enc : TypeId × Value → H} {P : Program} {w : World} {base : Nat} {spare : Nat → Bool} {held : Bool} {n : Nat} {t : TypeId} {v : Value} {x : DataW H × List MemPlace} (ht : P.underlying t = some (.int .i64)) (h : DataW.trod enc P w base spare held n t [v] = some x) : ∃ z, v = .int .i64 z ∧ -9223372036854775808 ≤ z ∧ z ≤ 9223372036854775807 := by
  obtain ⟨z, h1, _, hw⟩ := DataW.trod_int ht h
  simp at h1
  subst h1
  have e1 : IntKind.i64.min = -9223372036854775808 := rfl
  have e2 : IntKind.i64.max = 9223372036854775807 := rfl
  simp [Lit.wf, e1, e2] at hw
  exact ⟨z, rfl, hw.1, hw.2⟩

set_option maxRecDepth 100000 in
/-- Raw numbers that came in. -/
theorem tape_in {H : Type} {enc : TypeId × Value → H} {W : World} {spare : Nat → Bool} {fuel : Nat} {o : Option Addr} {len cap : Nat} {d : DataW H} {ps : List MemPlace} (h : DataW.trod enc Tryz.prog W 0 spare true fuel 31 [.slice o len cap] = some (d, ps)) : TapeAt W W.heap.size (.slice o len cap) := by
  rcases Go.Deep.open_slice Tryz.underlying31 h with ⟨hcs, _⟩ | ⟨a, len', cap', m, n, D, Pl, hcs, _, hl, hm, hmm, _, hc⟩
  · simp at hcs
    obtain ⟨_, rfl, _⟩ := hcs
    exact ⟨o, 0, cap, rfl, by omega, fun i hi => by omega⟩
  · simp at hcs
    obtain ⟨rfl, rfl, rfl⟩ := hcs
    have hlm : len ≤ m := by rw [hmm]; split <;> omega
    have one : ∀ i, i < len → ∃ z, W.cell? (a.add i) = some (.int .i64 z) ∧ -9223372036854775808 ≤ z ∧ z ≤ 9223372036854775807 := fun i hi => by
      obtain ⟨cs', h1, h2⟩ := hc i (by omega)
      rw [mCellsInt, Nat.mul_one] at h1
      obtain ⟨_, hcl, hcell⟩ := World.cells?_some h1
      obtain ⟨v, rfl⟩ := List.length_eq_one_iff.1 hcl
      obtain ⟨z, rfl, z1, z2⟩ := mcell_int Tryz.underlying3 h2
      refine ⟨z, ?_, z1, z2⟩
      have := hcell 0 (by omega)
      simpa [Addr.add] using this
    obtain ⟨b, off, spot⟩ := a
    refine ⟨_, len, cap, rfl, by unfold maxLen at hm; omega, fun i hi => ?_⟩
    obtain ⟨z, hz, z1, z2⟩ := one i hi
    have hspot : spot = none := by
      obtain ⟨z0, hz0, _⟩ := one 0 (by omega)
      simpa [Addr.add] using World.cell?_spot hz0
    subst hspot
    have hz' : W.cell? ⟨b, off + i, none⟩ = some (.int .i64 z) := by rw [add_plain] at hz; exact hz
    exact ⟨b, off, z, rfl, World.block_lt_of_cell? _ _ hz', hz', z1, z2⟩

set_option maxRecDepth 100000 in
theorem made_lifted (os : Os) (started : os.Started) (H : Type) (enc : TypeId × Value → H) :
    ReturnsInHanded {} Tryz.checked os 5 .any (fun w args => (Rows.madeSpec.pre enc Tryz.prog Tryz.f5 [] false w args ∧ laidMetH Tryz.prog Rows.madeRow.laid w) ∧ sizedMet enc Tryz.prog Tryz.f5 (OpenSpec.ofChange Rows.madeSpec) false w args)
      (Rows.madeSpec.post enc Tryz.prog Tryz.f5 false true false false) := by
  rw [show Rows.madeRow.laid = laidL from rfl]
  refine returnsInHanded_of_change_and (C := Tryz.checked) (X := fun w _ => laidMetH Tryz.prog laidL w) (fun _ _ _ hh h => h.of_heap hh) lOwn started (by kernel_rfl) Tryz.func5
    (ChangeSpec.witness_shaped (enc := enc) (C := Tryz.checked) (os := os) (X := fun w _ => laidMetH Tryz.prog laidL w) false (witW os) #[.slice none 0 0] 8 (World.layVars_os _ _ _) (World.shaped_of_ZipB (by kernel_rfl) (by kernel_rfl)) (by kernel_rfl) (by kernel_rfl) (by kernel_rfl) (wit_met os _)) ?_
  intro W base args ds gs before hval0 hW _ hsz hL _
  have hval : ∀ (j : Nat) t v, Tryz.f5.params[j]? = some t → args[j]? = some v → Value.okWide Tryz.prog W .any base t v := hval0
  have hW' := hW
  obtain ⟨p, q, hA0, hV, rfl, hfz, hnd⟩ := hW
  have hA : DataW.TrodAll enc Tryz.prog W 0 (fun _ => true) true Tryz.f5.params.toList args.toList ds p := hA0
  rw [Tryz.params5] at hA hval hsz
  obtain ⟨v0, d0, rfl, rfl, h0⟩ := trodAll_one hA
  obtain ⟨rfl, rfl⟩ := trodVars_none hV
  obtain ⟨o, len, cap, rfl⟩ := okWide_slice Tryz.underlying31 (hval 0 31 v0 rfl rfl)
  obtain ⟨g1, g2, g3⟩ := laid_all hL
  have h0k := h0
  obtain ⟨fuel, hf⟩ := h0
  have hcells : DataW.trod enc Tryz.prog W 0 (fun _ => true) true fuel 31 [.slice o len cap] = some (d0, p) := hf
  have hS := tape_in hcells
  clear hA0 hval0
  simp only [List.append_nil] at hW'
  have hlt : ∀ x ∈ p, x.block < W.heap.size := fun x hx => by simpa using hW'.lt x hx
  refine (made_any W _ hS g1 g2 g3).mono fun e W' ⟨he, hw⟩ => ?_
  subst he
  have hbelow : Below W.heap.size W W' := hw.below (Nat.le_refl _) (fun _ h => h.elim)
  have e1 : Rows.madeSpec.fn H ([d0] ++ []) = { results := [.lit (.bool true)], args := [d0] } := rfl
  refine ⟨_, rfl, _, _, _, [], p, [], hW', ?_, ?_, ?_, hbelow.frame _, fun h => by cases h⟩
  · rw [e1]; exact trodAll_mk1 (shut_bool Tryz.underlying4 true)
  · rw [e1]; exact trodAll_mk1 (Below.trod pLaidOut (by kernel_rfl) (of_decide_eq_true (by kernel_rfl)) h0k hbelow hlt)
  · rw [e1]; rfl

set_option maxHeartbeats 16000000 in
theorem made_facts : joinedFacts Tryz.checked.prog 5 Tryz.f5 Rows.madeSpec Rows.madeRow = true := by
  unfold joinedFacts
  iterate 31 (refine and_t ?_ (by first | with_reducible exact pLaidOut | with_reducible exact pMapsRowed | with_reducible exact pStopsHeard | with_reducible exact pMayEnter | as_aux_lemma => kernel_rfl))
  as_aux_lemma => kernel_rfl

theorem made_row : Rows.MadeSaid :=
  OpenClaim.holds_of_wide 5 Tryz.f5 rfl rfl rfl rfl rfl rfl rfl ⟨rfl, rfl, rfl, rfl, rfl⟩ rfl rfl rfl rfl rfl (by kernel_rfl) Tryz.func5 made_facts
    (of_decide_eq_true (by kernel_rfl)) (by unfold Func.isWrapper; rw [if_neg (of_decide_eq_false (by kernel_rfl))]; exact ⟨rfl, rfl⟩)
    (fun os started H enc _ => made_lifted os started H enc)

end Go.Proofs.YtdcjogpkogidaaaGreatDoor
end
section
namespace Go.Proofs.YtdcjogpkogidaaaGreatDoor
open Go

theorem made_holds : Rows.MadeCardSaid :=
  Claim7.holds_tied_plain_at .later [] [.data, .data, .data, .data, .handle, .data, .pinned] true (true, "bf7d89ea7e02612453c696c52fe34ca8808e1b779e8ac2197ca94086e1350160") true
    made_row (fun _ h => by cases h) (by kernel_rfl) (fun _ h => by cases h) made_row_tie rfl ⟨rfl, rfl⟩ (by kernel_rfl) rfl
    (fun f fn hf hfn => by
      obtain rfl : f = 5 := Option.some.inj ((show Tryz.prog.funcNamed Rows.madeRow.func = some 5 by kernel_rfl).symm.trans hf) |>.symm
      obtain rfl : fn = Tryz.f5 := (Option.some.inj (Tryz.func5.symm.trans hfn)).symm
      exact ⟨by kernel_rfl, fun j t ht => by
        rw [Tryz.params5] at ht
        have h9 : t = 31 := by
          rcases j with _ | j
          · simpa using ht.symm
          · simp at ht
        subst h9
        exact (show Tryz.prog.wantsStandIn 31 = false by kernel_rfl)⟩)
    (by kernel_rfl)

end Go.Proofs.YtdcjogpkogidaaaGreatDoor
end
