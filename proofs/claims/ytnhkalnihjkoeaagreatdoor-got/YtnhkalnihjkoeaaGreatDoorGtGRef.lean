/- What the reference tells at a path. -/
import Derived.Test.YtnhkalnihjkoeaaGreatDoorGtVDec
import Derived.Test.YtnhkalnihjkoeaaGreatDoorGtGPure
import Derived.Test.YtnhkalnihjkoeaaGreatDoorGtPure
import Derived.Test.YtnhkalnihjkoeaaGreatDoorGtDAll
namespace Go.Proofs.YtnhkalnihjkoeaaGreatDoor
open Go.RowKit

theorem wayCells_get : ∀ (l : List (Bs × Bs)) (i : Nat) (q : Bs × Bs), l[i]? = some q → (wayCells l)[i * 2]? = some (.string (ba q.1)) ∧ (wayCells l)[i * 2 + 1]? = some (.string (ba q.2)) := by
  intro l
  induction l with
  | nil => intro i q h; simp at h
  | cons p l ih =>
    intro i q h
    have e : wayCells (p :: l) = .string (ba p.1) :: .string (ba p.2) :: wayCells l := rfl
    rw [e]
    cases i with
    | zero => simp at h; subst h; exact ⟨rfl, rfl⟩
    | succ i =>
      rw [List.getElem?_cons_succ] at h
      obtain ⟨h1, h2⟩ := ih i q h
      rw [show (i + 1) * 2 = i * 2 + 1 + 1 by omega]
      exact ⟨h1, h2⟩
theorem KS.told {w : World} {B tb db : Nat} {s : ByteArray} {l : Bs} {bad : Bool} {nums : List (Bs × Int)} {ways : List (Bs × Bs)} (h : KS w B tb db s l bad nums ways) (hn : ways ≠ []) :
    ∃ g cap, w.cell? ⟨tb, 5, none⟩ = some (.slice (some ⟨g, 0, none⟩) ways.length cap) ∧ tb < w.heap.size ∧ g < w.heap.size ∧ ∀ (i : Nat) (q : Bs × Bs), ways[i]? = some q → w.cell? ⟨g, i * 2, none⟩ = some (.string (ba q.1)) ∧ w.cell? ⟨g, i * 2 + 1, none⟩ = some (.string (ba q.2)) := by
  obtain ⟨nv, wv, h1, h2, h3, h4⟩ := h
  rcases h4.2 with ⟨q, h0⟩ | ⟨g, cap, cur, rfl, q1, q2, _⟩
  · exact absurd (List.length_eq_zero_iff.1 h0) hn
  · refine ⟨g, cap, h1.at5, h1.lt, (h4.lt g rfl).2, fun i q hq => ?_⟩
    have hi := (List.getElem?_eq_some_iff.1 hq).1
    have hl := wayCells_length ways
    obtain ⟨e1, e2⟩ := wayCells_get ways i q hq
    exact ⟨(h4.cellAt (i * 2) (by omega)).trans e1, (h4.cellAt (i * 2 + 1) (by omega)).trans e2⟩

def wayE (r : Option Bs) : Ending :=
  match r with
  | none => .returned (.tuple #[.string ⟨#[]⟩, .bool false])
  | some x => .returned (.tuple #[.string (ba x), .bool true])
set_option maxHeartbeats 8000000 in
set_option maxRecDepth 100000 in
theorem way_any {w : World} {B tb db : Nat} {s : ByteArray} {l : Bs} {bad : Bool} {nums : List (Bs × Int)} {ways : List (Bs × Bs)} (h : KS w B tb db s l bad nums ways) (hn : ways ≠ []) (hl : ways.length ≤ 1000000000) (path : ByteArray) :
    Calls Tryz.prog 120 #[.pointer (some ⟨tb, 0, none⟩), .string path] w fun e w' => Fr Zero w w' ∧ e = wayE (findW (ways.drop 1) path.data.toList) := by
  obtain ⟨g, cap, c5, htb, hg, hc⟩ := h.told hn
  have HC := hide hc
  have h0 : 0 < ways.length := by cases ways; exact absurd rfl hn; simp
  clear h hc hn
  go_enter Tryz.func120, Tryz.ntmps120
  go_wp2_with fail
  go_loopw [6] (fun iv wr => ∃ i : Nat, 1 ≤ i ∧ i ≤ ways.length ∧ iv = .int .i64 i ∧ Hid (Fr Zero w wr) ∧ Hid (findW (ways.drop 1) path.data.toList = findW (ways.drop i) path.data.toList)) (fun iv _ => ways.length - (intOf iv).toNat)
  case atStart => exact ⟨1, by omega, by omega, rfl, Fr.refl _ _, rfl⟩
  case round =>
    obtain ⟨i, hi1, hi, rfl, HF, HE⟩ := hrel
    have d5 : wr.cell? ⟨tb, 5, none⟩ = some (.slice (some ⟨g, 0, none⟩) ways.length cap) := (HF.out.cell (a := ⟨tb, 5, none⟩) htb (fun h => h)).trans c5
    by_cases hlt : i < ways.length
    · have hI : (i : Int) < (ways.length : Int) := by omega
      obtain ⟨⟨qp, qx⟩, hq⟩ : ∃ q, ways[i]? = some q := ⟨ways[i], by simp⟩
      obtain ⟨e1, e2⟩ := HC.out i _ hq
      have HD : Hid (ways.drop i = (qp, qx) :: ways.drop (i + 1)) := by
        obtain ⟨h1, h2⟩ := List.getElem?_eq_some_iff.1 hq
        show _ = _
        rw [List.drop_eq_getElem_cons h1, h2]
      have d0 : wr.cell? ⟨g, i * 2, none⟩ = some (.string (ba qp)) := (HF.out.cell (a := ⟨g, i * 2, none⟩) hg (fun h => h)).trans e1
      have d1 : wr.cell? ⟨g, i * 2 + 1, none⟩ = some (.string (ba qx)) := (HF.out.cell (a := ⟨g, i * 2 + 1, none⟩) hg (fun h => h)).trans e2
      clear hq e1 e2
      by_cases hp : qp = path.data.toList
      · have hs : ((ba qp).toList == path.toList) = true := by rw [strEq]; exact decide_eq_true (by rw [hp, ba_data])
        have HU : Hid (findW (ways.drop 1) path.data.toList = some qx) := by
          show _ = _
          rw [HE.out, HD.out, findW_cons, if_pos hp]
        clear hp
        go_wp2_with fail
        go_ret2
        refine ⟨HF, ?_⟩
        rw [List.drop_one] at HU
        first | rw [HU.out]; rfl | (rw [List.drop_one, HU.out]; rfl)
      · have hs : ((ba qp).toList == path.toList) = false := by rw [strEq]; exact decide_eq_false (fun e => hp (by rw [← e, ba_list]))
        have HE2 : Hid (findW (ways.drop 1) path.data.toList = findW (ways.drop (i + 1)) path.data.toList) := by
          show _ = _
          rw [HE.out, HD.out, findW_cons, if_neg hp]
        clear hp
        go_wp2_with fail
        exact ⟨⟨i + 1, by omega, by omega, by simp, HF, HE2⟩, by simp [intOf]; omega⟩
    · have hI : ¬ (i : Int) < (ways.length : Int) := by omega
      have HU : Hid (findW (ways.drop 1) path.data.toList = none) := by
        show _ = _
        rw [HE.out, List.drop_eq_nil_of_le (by omega), findW_nil]
      go_wp2_with fail
      go_ret2
      refine ⟨HF, ?_⟩
      rw [List.drop_one] at HU
      first | rw [HU.out]; rfl | (rw [List.drop_one, HU.out]; rfl)

theorem step_len {k : Nat} {t : PT} {v : PV} (hW : WFT (k + 1) t) (hV : Valid (k + 1) t v) (i : Nat) : (stepOf v.of v.num i).length ≤ 400 := by
  have hn : ∀ j, (t.name j).length ≤ 400 := fun j => by
    unfold PT.name
    rcases h : t.names[j]? with _ | n
    · simp
    · have h1 := hW.2.2.2.2.2.1.2 n (List.mem_of_getElem? h)
      rw [Option.getD_some, Array.length_toList]
      exact h1
  unfold stepOf
  rw [hV.1]
  split
  · have := decN_len 20 i; omega
  split
  · simp
  split
  · exact hn _
  · exact hn _
theorem ways_len : ∀ (k : Nat) (t : PT) (v : PV) (p : Bs), WFT k t → NE k t → Valid k t v → ∀ a ∈ waysOf k p v, a.1.length ≤ p.length + k * 401 := by
  intro k
  induction k with
  | zero => intro t v p h; exact h.elim
  | succ k ih =>
    intro t v p hW hN hV a ha
    simp only [waysOf] at ha
    rcases List.mem_cons.1 ha with rfl | ha
    · show p.length ≤ _; omega
    · obtain ⟨j, x, _, _, h3, h4⟩ := kids_mem _ _ ha
      obtain ⟨t', a1, a2, a3⟩ := (step_all hW hN hV).2.2 x (List.mem_iff_getElem?.2 ⟨_, h3⟩)
      have h5 := ih t' x _ a1 a2 a3 a h4
      have h6 := under_size p (stepOf v.of v.num j)
      have h7 := step_len hW hV j
      omega
theorem findW_mem {l : List (Bs × Bs)} {p x : Bs} (h : findW l p = some x) : (p, x) ∈ l := by
  induction l with
  | nil => simp [findW] at h
  | cons q l ih =>
    rw [findW_cons] at h
    split at h
    · rename_i e
      simp at h
      rw [← e, ← h]
      simp
    · exact List.mem_cons_of_mem _ (ih h)
theorem take_str (s : ByteArray) (i : Nat) : (s.extract 0 i).data.toList = s.data.toList.take i := by
  simp [ByteArray.data_extract]

set_option maxHeartbeats 16000000 in
set_option maxRecDepth 100000 in
theorem dget_any {w : World} {db : Nat} {tab : List RT} {roots : List Nat} (hD : DF w w.heap.size db tab roots) (hp : 0 < roots.length) (hl : roots.length ≤ 1000) (htl : tab.length ≤ 1000000) (t : PT) (hI : Is tab (numAt roots (roots.length - 1)) t) (hW : WFT 12 t) (hN : NE 12 t) (data path : ByteArray) (hd : data.size ≤ maxLen) (hpl : path.size ≤ 9223372036854775807) :
    Calls Tryz.prog 58 #[.pointer (some ⟨db, 0, none⟩), .string data, .string path] w fun e w' => TriPost w (getT t data path) e w' := by
  have HD := hide hD
  have HI := hide hI
  have HW := hide hW
  have HN := hide hN
  clear hD hI hW hN
  go_enter Tryz.func58, Tryz.ntmps58
  by_cases hsz : data.size ≤ 1000
  · have HU2 : Hid (getT t data path = getR data path (rMsg 12 t data.data.toList)) := by show _ = _; unfold getT; rw [if_pos hsz]
    go_wp2_with fail
    refine (decodeR_short HD.out hp hl htl t HI.out HW.out data hsz).mono ?_
    rcases hq : rMsg 12 t data.data.toList with ⟨q, r⟩
    have HQ := hide hq
    rw [hq] at HU2
    clear hq
    rintro e w2 ⟨hF2, h2⟩
    have HF2 := hide hF2
    rcases h2 with ⟨v, tb, hr, rfl, hK⟩ | ⟨hno, rfl⟩
    · simp only [Prod.mk.injEq] at hr
      obtain ⟨rfl, rfl⟩ := hr
      obtain ⟨hval, htx⟩ := rMsg_sound 12 t _ _ _ HW.out HQ.out
      have HK := hide hK
      have HVal := hide hval
      have HM : Hid (getT t data path = getV v path) := HU2
      obtain ⟨g, cap, c5, htb, hg, hc⟩ := hK.told (by simp [waysOf])
      have hwl : (waysOf 12 [] v).length ≤ 1000000000 := by
        have h1 := (told_room HW.out HQ.out).2.2 []
        have h2 : data.data.toList.length ≤ 1000 := by rw [Array.length_toList]; exact hsz
        omega
      have c1 := (hc 0 ([], wText 12 v) rfl).2
      simp only [Nat.zero_mul, Nat.zero_add] at c1
      have hpos : (0 : Int) < (((waysOf 12 [] v).length : Nat) : Int) := by simp [waysOf]
      have HWL := hide hwl
      clear hF2 hval htx hK HQ HU2 hc
      by_cases hpe : path = ⟨#[]⟩
      · subst hpe
        have HG : Hid (getV v ⟨#[]⟩ = (ba (wText 12 v), 0, 0)) := by show _ = _; unfold getV; rw [if_pos rfl]
        generalize (waysOf 12 [] v).length = wl at *
        go_wp2_with fail
        go_ret3
        rw [HM.out, HG.out]
        exact ⟨HF2, rfl⟩
      · have hpe2 : (path.toList.isEmpty) = false := by rw [isEmpty_bytes]; exact decide_eq_false hpe
        have HR : Hid (refG ((waysOf 12 [] v).drop 1) path.data.toList (path.data.toList.length + 1) 0 0 [] = getV v path) := refG_getV HW.out HN.out HVal.out path hpe
        have HPL : Hid (path.data.toList.length = path.size) := by show _ = _; rw [Array.length_toList]; rfl
        have HWL2 : Hid (∀ a ∈ waysOf 12 [] v, a.1.length ≤ 4812) := fun a ha => by have := ways_len 12 t v [] HW.out HN.out HVal.out a ha; simpa using this
        have HWN : Hid (waysOf 12 [] v ≠ []) := by show _ ≠ _; simp [waysOf]
        clear hpe c1 hpos c5 htb hg
        generalize hVW : waysOf 12 [] v = ways at *
        clear hVW
        go_wp2_with fail
        go_loopw [12, 13, 14] (fun sv tv iv wr => ∃ (i step : Nat) (text : Bs), i ≤ path.size + 1 ∧ step ≤ i ∧ i ≤ 9223372036854775807 ∧ iv = .int .i64 i ∧ sv = .int .i64 step ∧ tv = .string (ba text) ∧ Hid (Fr Zero w2 wr) ∧ Hid (refG (ways.drop 1) path.data.toList (path.data.toList.length + 1 - i) i step text = getV v path)) (fun _ _ iv _ => path.size + 1 - (intOf iv).toNat)
        case atStart => exact ⟨0, 0, [], by omega, by omega, by omega, rfl, rfl, rfl, Fr.refl _ _, HR⟩
        case round =>
          clear HR
          obtain ⟨i, step, text, hi, hst, h63, rfl, rfl, rfl, HF, HE⟩ := hrel
          have HFW := hide (HF2.out.trans HF.out)
          by_cases hle : i ≤ path.size
          · have hI : (i : Int) ≤ (path.size : Int) := by omega
            have HFU : Hid (path.data.toList.length + 1 - i = (path.data.toList.length - i) + 1 ∧ path.data.toList.length + 1 - (i + 1) = path.data.toList.length - i) := by have := HPL.out; exact ⟨by omega, by omega⟩
            by_cases hlt : i < path.size
            · have hLt : (i : Int) < (path.size : Int) := by omega
              have hat : path.data.toList[i]? = some path[i] := by
                rw [List.getElem?_eq_getElem (by rw [Array.length_toList]; exact hlt)]
                rfl
              by_cases hb : path[i] = 47
              · have HG : Hid (¬ (i < path.data.toList.length ∧ path.data.toList[i]? ≠ some 47)) := fun h => h.2 (by rw [hat, hb])
                have hbI : ((path[i].toNat : Nat) : Int) = 47 := by rw [hb]; rfl
                clear hat hb
                go_wp2_with fail
                refine (way_any (HK.out.quiet HF.out) HWN.out HWL.out (path.extract 0 i)).mono ?_
                rintro e w3 ⟨hF3, he⟩
                rw [take_str] at he
                have HF3 := hide (HF.out.trans hF3)
                clear hF3
                rcases hfd : findW (ways.drop 1) (path.data.toList.take i) with _ | x
                · rw [hfd] at he
                  have HU : Hid (getV v path = (⟨#[]⟩, 7, step)) := by
                    show _ = _
                    rw [← HE.out, HFU.out.1, refG, if_neg HG.out, hfd]
                  simp only [wayE] at he
                  subst he
                  clear hfd
                  go_wp2_with fail
                  go_ret3
                  rw [HM.out, HU.out]
                  exact ⟨HF2.out.trans HF3.out, rfl⟩
                · rw [hfd] at he
                  simp only [wayE] at he
                  subst he
                  by_cases hz : i = 0
                  · have HU : Hid (getV v path = (⟨#[]⟩, 7, step)) := by
                      show _ = _
                      rw [← HE.out, HFU.out.1, refG, if_neg HG.out, hfd]
                      simp only [hz, if_true]
                    have hzI : (i : Int) = 0 := by omega
                    clear hfd hz
                    go_wp2_with fail
                    go_ret3
                    rw [HM.out, HU.out]
                    exact ⟨HF2.out.trans HF3.out, rfl⟩
                  · have HU : Hid (refG (ways.drop 1) path.data.toList (path.data.toList.length + 1 - (i + 1)) (i + 1) (step + 1) x = getV v path) := by
                      show _ = _
                      rw [← HE.out, HFU.out.1, HFU.out.2]
                      conv => rhs; rw [refG, if_neg HG.out, hfd]
                      simp only [if_neg hz]
                    have hshort : i ≤ 4812 := by
                      have h1 := HWL2.out _ (List.mem_of_mem_drop (findW_mem hfd))
                      simp only [List.length_take] at h1
                      have := HPL.out
                      omega
                    have hzI : (i : Int) ≠ 0 := by omega
                    have hzb : ((i : Int) == 0) = false := beq_eq_false_iff_ne.2 hzI
                    clear hfd hz
                    go_wp2_with fail
                    exact ⟨⟨i + 1, step + 1, x, by omega, by omega, by omega, by simp, by simp, rfl, HF3, HU⟩, by simp [intOf]; omega⟩
              · have HG : Hid (i < path.data.toList.length ∧ path.data.toList[i]? ≠ some 47) := ⟨by have := HPL.out; omega, by rw [hat]; simpa using hb⟩
                have hbI : ((path[i].toNat : Nat) : Int) ≠ 47 := fun e => hb (UInt8.toNat_inj.1 (by show path[i].toNat = 47; omega))
                clear hat hb
                have HU : Hid (refG (ways.drop 1) path.data.toList (path.data.toList.length + 1 - (i + 1)) (i + 1) step text = getV v path) := by
                  show _ = _
                  rw [← HE.out, HFU.out.1, HFU.out.2]
                  conv => rhs; rw [refG, if_pos HG.out]
                go_wp2_with fail
                exact ⟨⟨i + 1, step, text, by omega, by omega, by omega, by simp, rfl, rfl, HF, HU⟩, by simp [intOf]; omega⟩
            · have hLt : ¬ (i : Int) < (path.size : Int) := by omega
              have HG : Hid (¬ (i < path.data.toList.length ∧ path.data.toList[i]? ≠ some 47)) := fun h => by have := HPL.out; omega
              go_wp2_with fail
              refine (way_any (HK.out.quiet HF.out) HWN.out HWL.out (path.extract 0 i)).mono ?_
              rintro e w3 ⟨hF3, he⟩
              rw [take_str] at he
              have HF3 := hide (HF.out.trans hF3)
              clear hF3
              rcases hfd : findW (ways.drop 1) (path.data.toList.take i) with _ | x
              · rw [hfd] at he
                have HU : Hid (getV v path = (⟨#[]⟩, 7, step)) := by
                  show _ = _
                  rw [← HE.out, HFU.out.1, refG, if_neg HG.out, hfd]
                simp only [wayE] at he
                subst he
                clear hfd
                go_wp2_with fail
                go_ret3
                rw [HM.out, HU.out]
                exact ⟨HF2.out.trans HF3.out, rfl⟩
              · rw [hfd] at he
                simp only [wayE] at he
                subst he
                by_cases hz : i = 0
                · have HU : Hid (getV v path = (⟨#[]⟩, 7, step)) := by
                    show _ = _
                    rw [← HE.out, HFU.out.1, refG, if_neg HG.out, hfd]
                    simp only [hz, if_true]
                  have hzI : (i : Int) = 0 := by omega
                  clear hfd hz
                  go_wp2_with fail
                  go_ret3
                  rw [HM.out, HU.out]
                  exact ⟨HF2.out.trans HF3.out, rfl⟩
                · have HU : Hid (refG (ways.drop 1) path.data.toList (path.data.toList.length + 1 - (i + 1)) (i + 1) (step + 1) x = getV v path) := by
                    show _ = _
                    rw [← HE.out, HFU.out.1, HFU.out.2]
                    conv => rhs; rw [refG, if_neg HG.out, hfd]
                    simp only [if_neg hz]
                  have hshort : i ≤ 4812 := by
                    have h1 := HWL2.out _ (List.mem_of_mem_drop (findW_mem hfd))
                    simp only [List.length_take] at h1
                    have := HPL.out
                    omega
                  have hzI : (i : Int) ≠ 0 := by omega
                  have hzb : ((i : Int) == 0) = false := beq_eq_false_iff_ne.2 hzI
                  clear hfd hz
                  go_wp2_with fail
                  exact ⟨⟨i + 1, step + 1, x, by omega, by omega, by omega, by simp, by simp, rfl, HF3, HU⟩, by simp [intOf]; omega⟩
          · have hI : ¬ (i : Int) ≤ (path.size : Int) := by omega
            have HU : Hid (getV v path = (ba text, 0, 0)) := by
              show _ = _
              rw [← HE.out, show path.data.toList.length + 1 - i = 0 by have := HPL.out; omega, refG]
            go_wp2_with fail
            go_ret3
            rw [HM.out, HU.out]
            exact ⟨HFW, rfl⟩
    · have HNo := hide (getR_no (data := data) (path := path) hno)
      clear hF2 hno
      go_wp2_with fail
      go_ret3
      rw [HU2.out, HNo.out]
      exact ⟨HF2, rfl⟩
  · have HU2 : Hid (getT t data path = (⟨#[]⟩, 1, 0)) := by show _ = _; unfold getT; rw [if_neg hsz]
    have hlo : 1000 < data.size := by omega
    clear hsz
    go_wp2_with fail
    refine (decodeR_long _ data hd hlo).mono ?_
    rintro e w2 ⟨hF2, rfl⟩
    have HF2 := hide hF2
    clear hF2
    go_wp2_with fail
    go_ret3
    rw [HU2.out]
    exact ⟨HF2, rfl⟩

end Go.Proofs.YtnhkalnihjkoeaaGreatDoor
