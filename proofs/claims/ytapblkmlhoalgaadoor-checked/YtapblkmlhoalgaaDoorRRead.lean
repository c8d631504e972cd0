/- What the other reader's Read tells of a text. -/
import Derived.Test.YtapblkmlhoalgaaDoorRParse
import Derived.Test.YtapblkmlhoalgaaDoorRDepth
namespace Go.Proofs.YtapblkmlhoalgaaDoor
open Go.RowKit

def rNames (d : RD) (N : Nat) : Nat → Nat → List RT → Option Nat × List RT
  | 0, _, tab => (none, tab)
  | m + 1, i, tab =>
    if (rNamed d.lines d.roots (textAt d.lines i) i).isSome = true then (some (numAt d.ats i), tab) else
    match (rWrong d.lines d.roots i N tab (numAt d.roots i)).1 with
    | some a => (some a, (rWrong d.lines d.roots i N tab (numAt d.roots i)).2)
    | none => rNames d N m (i + 1) (rWrong d.lines d.roots i N tab (numAt d.roots i)).2

def rDeep (d : RD) (ds : List Nat) : Nat → Nat → Option Nat
  | 0, _ => none
  | m + 1, i => if 12 < numAt ds (numAt d.roots i) then some (numAt d.ats i) else rDeep d ds m (i + 1)

def rAll (s : ByteArray) : RD := rDesc s 10 ⟨0, false, [], [], [], []⟩
def rNamesAll (d : RD) : Option Nat × List RT := rNames d d.tab.length d.lines.length 0 d.tab

def checkD (d : RD) : Nat × Nat :=
  if d.bad = true then (2, d.n) else
  match (rNamesAll d).1 with
  | some a => (3, a)
  | none => match rDeep d (rDepths (rNamesAll d).2 d.tab.length) d.lines.length 0 with
    | some a => (4, a)
    | none => (0, 0)
def checkR (s : ByteArray) : Nat × Nat := if 400 < s.size then (1, 0) else checkD (rAll s)

/-- What a description's table must be. -/
def Fine (d : RD) : Prop := d.bad = false → W1 d.tab ∧ (∀ y ∈ d.roots, y < d.tab.length) ∧ 0 < d.lines.length ∧ ((rNamesAll d).1 = none → W2 (rNamesAll d).2)

def RPost (w : World) (c : Nat × Nat) (e : Ending) (w' : World) : Prop := Fr Zero w w' ∧ ∃ a : Option Addr, e = .returned (.tuple #[.pointer a, .int .i64 c.1, .int .i64 c.2])

theorem read_long (s : ByteArray) (w : World) (hl : 400 < s.size) (hs : s.size ≤ maxLen) :
    Calls Tryd.prog 6 #[.string s] w fun e w' => RPost w (checkR s) e w' := by
  unfold maxLen at hs
  have hC : Hid (checkR s = (1, 0)) := by show checkR s = _; unfold checkR; rw [if_pos hl]
  go_enter Tryd.func6, Tryd.ntmps6
  go_wp2_with fail
  go_ret3
  rw [hC.out]
  exact ⟨Fr.refl _ _, none, rfl⟩

set_option maxRecDepth 100000 in
set_option maxHeartbeats 16000000 in
theorem read_short (s : ByteArray) (w : World) (hl : s.size ≤ 400) (hfine : Fine (rAll s)) :
    Calls Tryd.prog 6 #[.string s] w fun e w' => RPost w (checkR s) e w' := by
  have hni : ¬ ((400 : Int) < (s.size : Int)) := by omega
  have HC : Hid (checkR s = checkD (rAll s)) := by show checkR s = _; unfold checkR; rw [if_neg (by omega)]
  have HP := hide (rparse_any s w hl)
  have HFI := hide hfine
  clear hfine
  go_enter Tryd.func6, Tryd.ntmps6
  go_wp2_with fail
  refine HP.out.mono ?_
  rw [show rDesc s 10 ⟨0, false, [], [], [], []⟩ = rAll s from rfl]
  generalize hdd : rAll s = d at *
  have HDD := hide hdd
  clear hdd
  rintro e w1 ⟨rfl, hF1, hdn, tv, lv, av, rv, hS1, hL1, htv1, hll, hla, hlr, htl⟩
  have hD1 := hS1.1
  have c1 := hD1.at1
  have c6 := hD1.at6
  have HF1 := hide hF1
  have HS1 := hide hS1
  have HL1 := hide hL1
  have HTV := hide htv1
  clear hF1 hS1 hL1 htv1 hD1
  rcases hb : d.bad with _ | _
  · obtain ⟨hW1, hrt, hpos, hW2⟩ := HFI.out hb
    rw [hb] at c6 HS1
    have HCD : Hid (checkR s = match (rNamesAll d).1 with
        | some a => (3, a)
        | none => match rDeep d (rDepths (rNamesAll d).2 d.tab.length) d.lines.length 0 with
          | some a => (4, a)
          | none => (0, 0)) := HC.out.trans (by unfold checkD; rw [hb]; rfl)
    have HBD := hide hb
    have HW1 := hide hW1
    have HRT := hide hrt
    have HW2 := hide hW2
    have HLA := hide hla
    have HLR := hide hlr
    rcases HL1.out.sl.2 with ⟨_, e⟩ | ⟨gl, cl, curl, el, _⟩
    · omega
    rcases HL1.out.sr.2 with ⟨_, e⟩ | ⟨gr, cr, curr, er, _⟩
    · omega
    rcases HL1.out.sa.2 with ⟨_, e⟩ | ⟨ga, ca, cura, ea, _⟩
    · omega
    subst el er ea
    clear hb hW1 hrt hW2 hla hlr HC HFI HP c1
    go_wp2_with fail
    go_loopw [6] (fun iv wr => ∃ (i : Nat) (tab : List RT), i ≤ d.lines.length ∧ iv = .int .i64 i ∧ Hid (rNamesAll d = rNames d d.tab.length (d.lines.length - i) i tab) ∧ Hid (DS wr (XL w.heap.size (.slice (some ⟨gl, 0, none⟩) d.lines.length cl) (.slice (some ⟨ga, 0, none⟩) d.ats.length ca) (.slice (some ⟨gr, 0, none⟩) d.roots.length cr)) w.heap.size s d.n false tv (.slice (some ⟨gl, 0, none⟩) d.lines.length cl) (.slice (some ⟨ga, 0, none⟩) d.ats.length ca) (.slice (some ⟨gr, 0, none⟩) d.roots.length cr) tab) ∧ Hid (LD wr w.heap.size (.slice (some ⟨gl, 0, none⟩) d.lines.length cl) (.slice (some ⟨ga, 0, none⟩) d.ats.length ca) (.slice (some ⟨gr, 0, none⟩) d.roots.length cr) d.lines d.ats d.roots) ∧ Hid (W1 tab ∧ tab.length = d.tab.length) ∧ Hid (Fr Zero w wr)) (fun iv _ => d.lines.length - (intOf iv).toNat)
    case atStart => exact ⟨0, d.tab, by omega, rfl, rfl, HS1, HL1, ⟨HW1.out, rfl⟩, HF1⟩
    case round =>
      obtain ⟨i, tab, hil, rfl, HN, HS, HL, HW, HF⟩ := hrel
      obtain ⟨w3, rfl⟩ : ∃ z, z = wr := ⟨wr, rfl⟩
      have hD := HS.out.1
      have d3 := hD.at3
      have d4 := hD.at4
      have d5 := hD.at5
      clear hD
      by_cases hlt : i < d.lines.length
      · have hlc : w3.cell? ⟨gl, i, none⟩ = some (.string (textAt d.lines i)) := (sl_cell HL.out.sl hlt).trans (textsI _ i hlt)
        have hrc : w3.cell? ⟨gr, i, none⟩ = some (.int .i64 (numAt d.roots i : Nat)) := (sl_cell HL.out.sr (by have := HLR.out; omega)).trans (numsI _ i (by have := HLR.out; omega))
        have hac : w3.cell? ⟨ga, i, none⟩ = some (.int .i64 (numAt d.ats i : Nat)) := (sl_cell HL.out.sa (by have := HLA.out; omega)).trans (numsI _ i (by have := HLA.out; omega))
        have hlI : ((i : Nat) : Int) < ((d.lines.length : Nat) : Int) := by omega
        have hrI : ((i : Nat) : Int) < ((d.roots.length : Nat) : Int) := by have := HLR.out; omega
        have haI : ((i : Nat) : Int) < ((d.ats.length : Nat) : Int) := by have := HLA.out; omega
        have HST : Hid (rNames d d.tab.length (d.lines.length - i) i tab = if (rNamed d.lines d.roots (textAt d.lines i) i).isSome = true then (some (numAt d.ats i), tab) else
            match (rWrong d.lines d.roots i d.tab.length tab (numAt d.roots i)).1 with
            | some a => (some a, (rWrong d.lines d.roots i d.tab.length tab (numAt d.roots i)).2)
            | none => rNames d d.tab.length (d.lines.length - (i + 1)) (i + 1) (rWrong d.lines d.roots i d.tab.length tab (numAt d.roots i)).2) := by
          show _ = _
          rw [show d.lines.length - i = (d.lines.length - (i + 1)) + 1 by omega]
          rfl
        go_wp2_with fail
        refine (named_any HS.out.1 HL.out HLR.out (by omega) (textAt d.lines i) i hil).mono ?_
        rintro e w4 ⟨rfl, e4⟩
        obtain rfl := e4.symm
        rcases hnd : rNamed d.lines d.roots (textAt d.lines i) i with _ | to
        · have HST2 : Hid (rNamesAll d = match (rWrong d.lines d.roots i d.tab.length tab (numAt d.roots i)).1 with
              | some a => (some a, (rWrong d.lines d.roots i d.tab.length tab (numAt d.roots i)).2)
              | none => rNames d d.tab.length (d.lines.length - (i + 1)) (i + 1) (rWrong d.lines d.roots i d.tab.length tab (numAt d.roots i)).2) := HN.out.trans (HST.out.trans (by rw [hnd]; rfl))
          clear hnd HST
          simp only [intOr]
          have hrb : numAt d.roots i < tab.length := by
            rw [HW.out.2]
            exact HRT.out _ (by unfold numAt; simp [show i < d.roots.length by have := HLR.out; omega])
          have HKP := hide (rWrong_keeps d.lines d.roots i d.tab.length tab (numAt d.roots i) HW.out.1 hrb)
          have HX3 : Hid (∀ b, XL w.heap.size (.slice (some ⟨gl, 0, none⟩) d.lines.length cl) (.slice (some ⟨ga, 0, none⟩) d.ats.length ca) (.slice (some ⟨gr, 0, none⟩) d.roots.length cr) b → b < w3.heap.size) := fun b hb => by
            rcases hb with h | h
            · have := lt_of_heap HS.out.1; omega
            · exact HL.out.lt b h
          go_wp2_with fail
          refine (wrong_all HLR.out (by omega) hil d.tab.length w3 _ w.heap.size w.heap.size s d.n false tv _ _ _ tab (numAt d.roots i) HS (.inl rfl) HX3 HL HW.out.1 hrb (by have := HW.out.2; omega) (by have := HW.out.2; omega)).mono ?_
          generalize rWrong d.lines d.roots i d.tab.length tab (numAt d.roots i) = r at *
          rintro e w5 ⟨rfl, hF5, hS5⟩
          have HL5 := hide (HL.out.keep hF5 (fun g hg e => by
            rcases hg with h' | h' | h'
            · exact HS.out.tvne HL.out.sl (by decide) g h' e
            · exact HS.out.tvne HL.out.sa (by decide) g h' e
            · exact HS.out.tvne HL.out.sr (by decide) g h' e))
          have HF5 := hide (HF.out.past (hF5.mono (fun k _ e => HTV.out k e)))
          have HS5 := hide hS5
          clear hF5 hS5
          rcases hr1 : r.1 with _ | pl
          · have HT2 : Hid (rNamesAll d = rNames d d.tab.length (d.lines.length - (i + 1)) (i + 1) r.2) := HST2.out.trans (by rw [hr1])
            clear hr1 HST2
            simp only [intOr]
            go_wp2_with fail
            go_roundw
            case rel => exact ⟨i + 1, r.2, by omega, by go_num, HT2, HS5, HL5, ⟨HKP.out.1, HKP.out.2.trans HW.out.2⟩, HF5⟩
            case measure => simp [intOf]; omega
          · have HT2 : Hid (checkR s = (3, pl)) := HCD.out.trans (by rw [HST2.out, hr1])
            have hpl : (0 : Int) ≤ (pl : Int) := by omega
            clear hr1 HST2 HCD
            simp only [intOr]
            go_wp2_with fail
            go_ret3
            rw [HT2.out]
            exact ⟨HF5, none, rfl⟩
        · have HT2 : Hid (checkR s = (3, numAt d.ats i)) := HCD.out.trans (by rw [HN.out, HST.out, hnd]; rfl)
          have hto : (0 : Int) ≤ (to : Int) := by omega
          clear hnd HST HCD
          simp only [intOr]
          go_wp2_with fail
          go_quiet (fail)
          go_wp2_with fail
          go_ret3
          rw [HT2.out]
          exact ⟨HF.out.trans (Fr.drewN _ _ _), none, rfl⟩
      · have hie : i = d.lines.length := by omega
        subst hie
        have HNE : Hid (rNamesAll d = (none, tab)) := HN.out.trans (by rw [Nat.sub_self]; rfl)
        have hW2 := HW2.out (by rw [HNE.out])
        rw [HNE.out] at hW2
        have HCE : Hid (checkR s = match rDeep d (rDepths tab tab.length) d.lines.length 0 with
            | some a => (4, a)
            | none => (0, 0)) := HCD.out.trans (by rw [HNE.out, HW.out.2])
        have HWW := hide hW2
        clear hW2 HCD HN
        go_wp2_with fail
        refine (depths_any HS HWW.out (by have := HW.out.2; omega) ?_).mono ?_
        · have h1 := HRT.out (numAt d.roots 0) (by unfold numAt; simp [show 0 < d.roots.length by have := HLR.out; omega])
          have := HW.out.2
          omega
        rintro e w4 ⟨hF4, g4, rfl, hc4⟩
        have HF4 := hide (HF.out.trans hF4)
        have HL4 := hide (HL.out.keep hF4 (fun _ _ h => h))
        have HD4 := hide (hF4.keep HS.out.1 (fun h => h))
        have HC4 := hide hc4
        generalize rDepths tab tab.length = ds at *
        clear hF4 hc4 d3 d4 d5
        go_wp2_with fail
        go_loopw [10] (fun iv wr => ∃ i : Nat, i ≤ d.lines.length ∧ iv = .int .i64 i ∧ Hid (rDeep d ds d.lines.length 0 = rDeep d ds (d.lines.length - i) i) ∧ Hid (Fr Zero w4 wr)) (fun iv _ => d.lines.length - (intOf iv).toNat)
        case atStart => exact ⟨0, by omega, rfl, rfl, Fr.refl _ _⟩
        case round =>
          obtain ⟨i, hil2, rfl, HDP, HZ⟩ := hrel
          have hD5 : DB wr w.heap.size s d.n false tv (.slice (some ⟨gl, 0, none⟩) d.lines.length cl) (.slice (some ⟨ga, 0, none⟩) d.ats.length ca) (.slice (some ⟨gr, 0, none⟩) d.roots.length cr) := HZ.out.keep HD4.out (fun h => h)
          have HL5 := hide (HL4.out.keep HZ.out (fun _ _ h => h))
          have d3 := hD5.at3
          have d4 := hD5.at4
          have d5 := hD5.at5
          clear hD5
          by_cases hlt2 : i < d.lines.length
          · have hrc : wr.cell? ⟨gr, i, none⟩ = some (.int .i64 (numAt d.roots i : Nat)) := (sl_cell HL5.out.sr (by have := HLR.out; omega)).trans (numsI _ i (by have := HLR.out; omega))
            have hac : wr.cell? ⟨ga, i, none⟩ = some (.int .i64 (numAt d.ats i : Nat)) := (sl_cell HL5.out.sa (by have := HLA.out; omega)).trans (numsI _ i (by have := HLA.out; omega))
            have hrb : numAt d.roots i < tab.length := by
              rw [HW.out.2]
              exact HRT.out _ (by unfold numAt; simp [show i < d.roots.length by have := HLR.out; omega])
            have hgc : wr.cell? ⟨g4, numAt d.roots i, none⟩ = some (.int .i64 (numAt ds (numAt d.roots i) : Nat)) := (HZ.out.cell (a := ⟨g4, numAt d.roots i, none⟩) (World.block_lt_of_cell? w4 _ (HC4.out _ hrb)) (fun h => h)).trans (HC4.out _ hrb)
            have hlI : ((i : Nat) : Int) < ((d.lines.length : Nat) : Int) := by omega
            have hrI : ((i : Nat) : Int) < ((d.roots.length : Nat) : Int) := by have := HLR.out; omega
            have haI : ((i : Nat) : Int) < ((d.ats.length : Nat) : Int) := by have := HLA.out; omega
            have htI : ((numAt d.roots i : Nat) : Int) < ((tab.length : Nat) : Int) := by omega
            have HST : Hid (rDeep d ds (d.lines.length - i) i = if 12 < numAt ds (numAt d.roots i) then some (numAt d.ats i) else rDeep d ds (d.lines.length - (i + 1)) (i + 1)) := by
              show _ = _
              rw [show d.lines.length - i = (d.lines.length - (i + 1)) + 1 by omega]
              rfl
            generalize numAt ds (numAt d.roots i) = dd at *
            generalize numAt d.roots i = ri at *
            generalize numAt d.ats i = ai at *
            by_cases h12 : 12 < dd
            · have h12I : (12 : Int) < (dd : Int) := by omega
              have HT2 : Hid (checkR s = (4, ai)) := HCE.out.trans (by rw [HDP.out, HST.out, if_pos h12])
              clear h12 HST HDP
              go_wp2_with fail
              go_quiet (fail)
              go_wp2_with fail
              go_ret3
              rw [HT2.out]
              exact ⟨HF4.out.trans (HZ.out.trans (Fr.drewN _ _ _)), none, rfl⟩
            · have h12I : ¬ (12 : Int) < (dd : Int) := by omega
              have HT2 : Hid (rDeep d ds d.lines.length 0 = rDeep d ds (d.lines.length - (i + 1)) (i + 1)) := HDP.out.trans (HST.out.trans (by rw [if_neg h12]))
              clear h12 HST HDP
              go_wp2_with fail
              go_roundw
              case rel => exact ⟨i + 1, by omega, by go_num, HT2, HZ⟩
              case measure => simp [intOf]; omega
          · have hie2 : i = d.lines.length := by omega
            subst hie2
            have HT2 : Hid (checkR s = (0, 0)) := HCE.out.trans (by rw [HDP.out, Nat.sub_self]; rfl)
            clear HDP
            go_wp2_with fail
            go_ret3
            rw [HT2.out]
            exact ⟨HF4.out.trans HZ.out, _, rfl⟩
  · rw [hb] at c6
    have HT2 : Hid (checkR s = (2, d.n)) := HC.out.trans (by unfold checkD; rw [hb]; rfl)
    clear hb HC HP HFI HS1
    go_wp2_with fail
    go_quiet (fail)
    go_wp2_with fail
    go_ret3
    rw [HT2.out]
    exact ⟨HF1.out.trans (Fr.drewN _ _ _), none, rfl⟩

theorem read_any (s : ByteArray) (w : World) (hs : s.size ≤ maxLen) (hfine : s.size ≤ 400 → Fine (rAll s)) :
    Calls Tryd.prog 6 #[.string s] w fun e w' => RPost w (checkR s) e w' := by
  by_cases h : 400 < s.size
  · exact read_long s w h hs
  · exact read_short s w (by omega) (hfine (by omega))

end Go.Proofs.YtapblkmlhoalgaaDoor
