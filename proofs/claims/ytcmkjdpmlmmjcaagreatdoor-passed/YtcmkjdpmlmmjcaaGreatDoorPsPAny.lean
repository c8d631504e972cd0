/- Get of the program, whatever the path. -/
import Derived.Test.YtcmkjdpmlmmjcaaGreatDoorPsPPart
section
namespace Go.Proofs.YtcmkjdpmlmmjcaaGreatDoor
open Go.RowKit

theorem behindI_mem {v u : PV} {st : Bs} : ∀ (l : List PV) (i : Nat), behindI v st i l = some u → u ∈ l := by
  intro l
  induction l with
  | nil => intro i h; simp [behindI] at h
  | cons x l ih =>
    intro i h
    unfold behindI at h
    split at h
    · simp at h; simp [h]
    · exact List.mem_cons_of_mem _ (ih _ h)
theorem flat_len {f : PV → Bs} {u : PV} : ∀ {l : List PV}, u ∈ l → (f u).length ≤ (l.flatMap f).length := by
  intro l
  induction l with
  | nil => intro h; simp at h
  | cons x l ih =>
    intro h
    rw [List.flatMap_cons, List.length_append]
    rcases List.mem_cons.1 h with rfl | h
    · omega
    · have := ih h; omega
theorem msg_part {k : Nat} {t : PT} {v u : PV} (hV : Valid (k + 1) t v) (hu : u ∈ v.parts) : (wMsg k u).length ≤ (wMsg (k + 1) v).length := by
  have hp : v.parts ≠ [] := fun e => by rw [e] at hu; simp at hu
  obtain ⟨hof, h⟩ := hV
  have hf := flat_len (f := wMsg k) hu
  simp only [wMsg]
  rw [hof]
  split at h
  · exact absurd h.2.1 hp
  split at h
  · exact absurd h.2.1 hp
  split at h
  · exact absurd h.2.1 hp
  split at h
  · exact absurd h.2.1 hp
  split at h
  · exact absurd h.2.1 hp
  rw [if_neg (by assumption), if_neg (by assumption), if_neg (by assumption), if_neg (by omega)]
  split
  · rw [List.length_append]; omega
  split
  · exact hf
  · rw [List.length_cons]; omega
theorem gone_valid : ∀ (l : List Bs) (k : Nat) (t : PT) (v u : PV), WFT k t → Valid k t v → goneP v l = some u → l.length < k ∧ ∃ t', WFT (k - l.length) t' ∧ Valid (k - l.length) t' u ∧ (wMsg (k - l.length) u).length ≤ (wMsg k v).length := by
  intro l
  induction l with
  | nil =>
    intro k t v u hW hV h
    simp [goneP] at h
    subst h
    rcases k with _ | k
    · exact hW.elim
    · exact ⟨by simp, t, hW, hV, Nat.le_refl _⟩
  | cons st l ih =>
    intro k t v u hW hV h
    simp only [goneP] at h
    rcases hb : behindP v st with _ | x
    · rw [hb] at h; simp at h
    · rw [hb] at h
      simp only [Option.bind_some] at h
      rcases k with _ | k
      · exact hW.elim
      have hm : x ∈ v.parts := behindI_mem _ _ hb
      obtain ⟨t', hw', hv'⟩ := (hV.stepOk hW).2.2 x hm
      simp only [Nat.add_sub_cancel] at hw' hv'
      obtain ⟨h1, t2, h2, h3, h4⟩ := ih k t' x u hw' hv' h
      have := msg_part hV hm
      rw [List.length_cons, show k + 1 - (l.length + 1) = k - l.length by omega]
      exact ⟨by omega, t2, h2, h3, by omega⟩
theorem partP_some : ∀ (l : List Bs) (v u : PV) (n m : Nat), partP v l n = (some u, m) → goneP v l = some u := by
  intro l
  induction l with
  | nil => intro v u n m h; simp [partP] at h; simp [goneP, h.1]
  | cons st l ih =>
    intro v u n m h
    simp only [partP] at h
    simp only [goneP]
    rcases hb : behindP v st with _ | x
    · rw [hb] at h; simp at h
    · rw [hb] at h
      simp only [Option.bind_some]
      exact ih x u (n + 1) m h

/-- What a message of a type tells at a path: the part's text, the error, the place. -/
def getV (v : PV) (path : ByteArray) : ByteArray × Nat × Nat :=
  if path = ⟨#[]⟩ then (ba (wText 12 v), 0, 0) else match partP v (splitP path.data.toList) 0 with
    | (some u, _) => (ba (wText (12 - (splitP path.data.toList).length) u), 0, 0)
    | (none, n) => (⟨#[]⟩, 7, n)
def getR (data path : ByteArray) (r : Option PV × Bs) : ByteArray × Nat × Nat :=
  match r with
  | (some v, []) => getV v path
  | (_, r') => (⟨#[]⟩, 6, pos data r')
def getT (t : PT) (data path : ByteArray) : ByteArray × Nat × Nat := if data.size ≤ 1000 then getR data path (rMsg 12 t data.data.toList) else (⟨#[]⟩, 1, 0)
theorem getR_no {data path : ByteArray} {r : Option PV × Bs} (h : ¬ ∃ v, r = (some v, [])) : getR data path r = (⟨#[]⟩, 6, pos data r.2) := by
  unfold getR
  rcases r with ⟨_ | v, _ | ⟨b, l⟩⟩
  · rfl
  · rfl
  · exact absurd ⟨v, rfl⟩ h
  · rfl

set_option maxHeartbeats 8000000 in
set_option maxRecDepth 100000 in
theorem gett_path (w : World) (a : Addr) (t : PT) (data path : ByteArray) (hne : path ≠ ⟨#[]⟩) (hpt : PowT w) (ht : TR w Zero a t) (hW : WFT 12 t) (hd : data.size ≤ maxLen) (hpl : path.size ≤ 9223372036854775807) :
    Calls Tryz.prog 28 #[.pointer (some a), .string data, .string path] w fun e w' => TriPost w (getT t data path) e w' := by
  have HP := hide hpt
  have HTR := hide ht
  have HWF := hide hW
  have HNE := hide hne
  clear hpt ht hW hne
  go_enter Tryz.func28, Tryz.ntmps28
  by_cases hsz : data.size ≤ 1000
  · have HU2 : Hid (getT t data path = getR data path (rMsg 12 t data.data.toList)) := by show _ = _; unfold getT; rw [if_pos hsz]
    have HSZ := hide hsz
    clear hsz
    go_wp2_with fail
    refine (fromMessage_short _ a t data HTR HWF HSZ).mono ?_
    rcases hq : rMsg 12 t data.data.toList with ⟨q, r⟩
    have HQ := hide hq
    rw [hq] at HU2
    clear hq
    rintro e w2 ⟨hF2, h2⟩
    have HF2 := hide hF2
    rcases h2 with ⟨v, ⟨ca, cn, cb, csv⟩, hr, ⟨o, n, k, hsv⟩, rfl, hvr⟩ | ⟨hno, rfl⟩
    · simp only at hsv
      subst hsv
      simp only [Prod.mk.injEq] at hr
      obtain ⟨rfl, rfl⟩ := hr
      obtain ⟨hval, htx⟩ := rMsg_sound 12 t _ _ _ HWF.out HQ.out
      have hl2 : (wMsg 12 v).length = data.size := by
        have := congrArg List.length htx
        rw [Array.length_toList, List.length_append] at this
        simp at this
        exact this.symm
      have HL2 := hide hl2
      have HV := hide hvr
      have HVal := hide hval
      have HM : Hid (getT t data path = getV v path) := HU2
      clear hF2 hvr hval htx hl2 HQ HU2
      simp only [VC.val]
      go_wp2_with fail
      refine (path_any _ ⟨ca, cn, cb, .slice o n k⟩ v 12 t (HV.out.keep (Fr.alloc _ _ _)) ⟨_, _, _, rfl⟩ HWF.out HVal.out (HP.out.drawn (HF2.out.trans (Fr.alloc _ _ _))) (by omega) path HNE.out hpl).mono ?_
      rintro e w3 ⟨hF3, hcs⟩
      have HF3 := hide (HF2.out.trans ((Fr.alloc _ _ _).trans hF3))
      rcases hcs with ⟨u, ⟨ea, en, eb, esv⟩, k', t', hr, rfl, hvr, ⟨eo, ej, ek, hes⟩, _, _⟩ | ⟨m, hr, rfl⟩
      · simp only at hes
        subst hes
        obtain ⟨hlt, t2, hw2, hv2, hml⟩ := gone_valid _ 12 t v u HWF.out HVal.out (partP_some _ _ _ _ _ hr)
        have hlen := (text_len _ t2 u hw2 hv2).2
        have HG : Hid (getV v path = (ba (wText (12 - (splitP path.data.toList).length) u), 0, 0)) := by show _ = _; unfold getV; rw [if_neg HNE.out, hr]
        have HV3 := hide (hvr.keep hF3)
        have HLn : Hid ((wText (12 - (splitP path.data.toList).length) u).length + 1000 ≤ 140737488355328) := by
          show _ ≤ _
          have h1 := HSZ.out
          have h2 := HL2.out
          have h3 : 500 * (12 - (splitP path.data.toList).length) * (wMsg (12 - (splitP path.data.toList).length) u).length ≤ 6000 * 1000 := Nat.mul_le_mul (by omega) (by omega)
          omega
        have HW2 := hide hw2
        have HV2 := hide hv2
        clear hF3 hvr hr hw2 hv2 hml hlen hlt
        simp only [VC.val]
        go_wp2_with fail
        refine (text_any (k := 12 - (splitP path.data.toList).length) (t := t2) _ ⟨ea, en, eb, .slice eo ej ek⟩ u (HP.out.drawn (HF3.out.trans (Fr.alloc _ _ _))) (HV3.out.keep (Fr.alloc _ _ _)) HW2 HV2 HLn ⟨_, _, _, rfl⟩).mono ?_
        rintro e w4 ⟨hF4, rfl⟩
        have HF4 := hide (HF3.out.trans ((Fr.alloc _ _ _).trans hF4))
        clear hF4
        go_wp2_with fail
        go_ret3
        rw [HM.out, HG.out]
        exact ⟨HF4, rfl⟩
      · have HG : Hid (getV v path = (⟨#[]⟩, 7, m)) := by show _ = _; unfold getV; rw [if_neg HNE.out, hr]
        clear hF3 hr
        unfold zeroV
        go_wp2_with fail
        go_ret3
        rw [HM.out, HG.out]
        exact ⟨HF3.out.trans (Fr.alloc _ _ _), rfl⟩
    · have HN := hide (getR_no (data := data) (path := path) hno)
      clear hF2 hno
      go_wp2_with fail
      go_ret3
      rw [HU2.out, HN.out]
      exact ⟨HF2.out.trans (Fr.alloc _ _ _), rfl⟩
  · have HU2 : Hid (getT t data path = (⟨#[]⟩, 1, 0)) := by show _ = _; unfold getT; rw [if_neg hsz]
    have HSZ : Hid (1000 < data.size) := by show _ < _; omega
    clear hsz
    go_wp2_with fail
    refine (fromMessage_long _ a data hd HSZ).mono ?_
    rintro e w2 ⟨hF2, rfl⟩
    have HF2 := hide hF2
    clear hF2
    go_wp2_with fail
    go_ret3
    rw [HU2.out]
    exact ⟨HF2.out.trans (Fr.alloc _ _ _), rfl⟩

end Go.Proofs.YtcmkjdpmlmmjcaaGreatDoor
end
section
namespace Go.Proofs.YtcmkjdpmlmmjcaaGreatDoor
open Go.RowKit

theorem getT_empty (t : PT) (data : ByteArray) : getT t data ⟨#[]⟩ = decT t data := by
  unfold getT decT getR decR getV
  split
  · rcases rMsg 12 t data.data.toList with ⟨_ | v, _ | ⟨b, l⟩⟩ <;> rfl
  · rfl
theorem gett_any (w : World) (a : Addr) (t : PT) (data path : ByteArray) (hpt : PowT w) (ht : TR w Zero a t) (hW : WFT 12 t) (hd : data.size ≤ maxLen) (hpl : path.size ≤ maxLen) :
    Calls Tryz.prog 28 #[.pointer (some a), .string data, .string path] w fun e w' => TriPost w (getT t data path) e w' := by
  by_cases h : path = ⟨#[]⟩
  · subst h
    rw [getT_empty]
    exact gett_empty w a t data hpt ht hW hd
  · exact gett_path w a t data path h hpt ht hW hd hpl

end Go.Proofs.YtcmkjdpmlmmjcaaGreatDoor
end
