/- The other reader's parse. -/
import Derived.Test.YtapblkmlhoalgaaDoorRLines
namespace Go.Proofs.YtapblkmlhoalgaaDoor
open Go.RowKit

def linesLen (db : Nat) (w : World) : Nat := match w.cell? ⟨db, 3, none⟩ with
  | some (.slice _ n _) => n
  | _ => 0
theorem LD.linesLen {w : World} {B db : Nat} {s : ByteArray} {n : Nat} {bad : Bool} {tv lv av rv : Value} {lines : List ByteArray} {ats roots : List Nat} (h : LD w B lv av rv lines ats roots) (hD : DB w db s n bad tv lv av rv) : linesLen db w = lines.length := by
  unfold Proofs.YtapblkmlhoalgaaDoor.linesLen
  rw [hD.at3]
  rcases h.sl.2 with ⟨rfl, e⟩ | ⟨g, cap, cur, rfl, _⟩
  · exact e.symm
  · rfl

def RDPost (w : World) (s : ByteArray) (d : RD) (w' : World) : Prop :=
  Fr Zero w w' ∧ d.n ≤ s.size ∧ ∃ tv lv av rv, DS w' (XL w.heap.size lv av rv) w.heap.size s d.n d.bad tv lv av rv d.tab ∧ LD w' w.heap.size lv av rv d.lines d.ats d.roots ∧ (∀ g, tv.ownBlock = some g → w.heap.size ≤ g) ∧ d.lines.length ≤ 10 ∧ d.ats.length = d.lines.length ∧ d.roots.length = d.lines.length ∧ d.tab.length ≤ 1000

theorem Fr.back {w w1 w2 : World} (h : Fr Zero w w1) (k : Fr (fun b => w.heap.size ≤ b) w1 w2) : Fr Zero w w2 := h.past k

set_option maxRecDepth 100000 in
set_option maxHeartbeats 16000000 in
theorem rparse_any (s : ByteArray) (w : World) (hs : s.size ≤ 400) :
    Calls Tryd.prog 9 #[.string s] w fun e w' => e = .returned (.pointer (some ⟨w.heap.size, 0, none⟩)) ∧ RDPost w s (rDesc s 10 ⟨0, false, [], [], [], []⟩) w' := by
  have hsm : s.size ≤ maxLen := by unfold maxLen; omega
  go_enter Tryd.func9, Tryd.ntmps9
  go_wp2_with fail
  go_loopw [2] (fun v wr => v = .pointer none ∧ ∃ (d : RD) (tv lv av rv : Value), d.n ≤ s.size ∧ Hid (d.bad = false → ∃ k, k + 1 + d.lines.length = 10 ∧ rDesc s 10 ⟨0, false, [], [], [], []⟩ = rDesc s (k + 1) d) ∧ Hid (d.bad = true → rDesc s 10 ⟨0, false, [], [], [], []⟩ = d) ∧
      Hid (d.tab.length + (s.size - d.n) ≤ 401 + d.lines.length) ∧ d.lines.length ≤ 10 ∧ Hid (d.ats.length = d.lines.length ∧ d.roots.length = d.lines.length) ∧
      Hid (DS wr (XL w.heap.size lv av rv) w.heap.size s d.n d.bad tv lv av rv d.tab) ∧ Hid (LD wr w.heap.size lv av rv d.lines d.ats d.roots) ∧ Hid (∀ g, tv.ownBlock = some g → w.heap.size ≤ g) ∧ Hid (Fr Zero w wr)) (fun _ wr => 11 - linesLen w.heap.size wr)
  case atStart =>
    refine ⟨rfl, ⟨0, false, [], [], [], []⟩, .slice none 0 0, .slice none 0 0, .slice none 0 0, .slice none 0 0, Nat.zero_le _, (fun _ => ⟨9, rfl, rfl⟩), (fun h => by cases h), (by show _ ≤ _; simp; omega), by simp, ⟨rfl, rfl⟩, ⟨heap_new_at rfl _, [], World.ownsRow_nil _ _ _ _, rfl, fun j r t hr => by simp at hr⟩, ⟨World.ownsRow_nil _ _ _ _, World.ownsRow_nil _ _ _ _, World.ownsRow_nil _ _ _ _, (fun g hg => by simp [Value.ownBlock] at hg), (fun g hg => by simp [Value.ownBlock] at hg)⟩, (fun g hg => by simp [Value.ownBlock] at hg), Fr.alloc _ _ _⟩
  case round =>
    obtain ⟨rfl, d, tv, lv, av, rv, hdn, HY, HNo, HTL, hll, HLN, HS, HL, HTV, HF⟩ := hrel
    have hD0 := HS.out.1
    have hX0 : XL w.heap.size lv av rv w.heap.size := .inl rfl
    rcases hb : d.bad with _ | _
    · obtain ⟨k, hk, hrd⟩ := HY.out hb
      have HRD := hide hrd
      rw [hb] at hD0 HS
      have c1 := hD0.at1
      have c4 := hD0.at4
      have f4 := hD0.free 4
      have c6 := hD0.at6
      have hdl := lt_of_heap hD0
      have HLL0 := hide (HL.out.linesLen hD0)
      have c1a := (hD0.alloc (.cells #[.int .i64 (d.n : Int)] 3)).at1
      have c4a := (hD0.alloc (.cells #[.int .i64 (d.n : Int)] 3)).at4
      have HB0 : Hid (w.heap.size ≤ wr.heap.size) := HF.out.size
      have HD0 := hide hD0
      clear HY HNo hb hrd hD0
      have HNA : Hid (∀ g, av.ownBlock = some g → g ≠ w.heap.size) := owned_neD HD0.out HL.out.sa (by decide)
      have m1 : Hid (d.ats.length + 1 ≤ maxLen) := by show _ ≤ _; have := HLN.out; unfold maxLen; omega
      have m2 : Hid ((d.ats.length + 1) * 8 ≤ 140737488355328) := by show _ ≤ _; have := HLN.out; omega
      have m3 : Hid (∀ u ∈ [Value.int .i64 (d.n : Int)], u.oneCell' = true) := by intro u hu; simp at hu; subst hu; rfl
      obtain ⟨i0, hi, hz0, hz1, hz2⟩ := info_parts Tryd.info3
      go_wp2_with fail
      go_region_law (refine step_append_mine rfl (.tmp 18) (.tmp 23) 37 rfl 0 3 i0 (.int .i64 0) 1 8 Tryd.underlying37 hi hz0 hz1 hz2 rfl (by decide) av d.ats.length (ints d.ats) (by simp [Act.eval]) (by exact ownsRow_heap (o := .cells #[.int .i64 (d.n : Int)] 3) HL.out.sa (by rfl)) ⟨wr.heap.size, 0, none⟩ 1 1 (by omega) [.int .i64 (d.n : Int)] (by simp [Act.eval]) rfl (by exact news1_heap (w := wr) (t := 3) (x := .int .i64 (d.n : Int)) rfl (by rfl)) m3.out m1.out m2.out (Nat.zero_le _) ?_; intro v' w' hO2 hg2 hv2; obtain ⟨gn, capn, rfl, hgn⟩ := hv2; have hDw := dAfter (o := .cells #[.int .i64 (d.n : Int)] 3) (by rfl) HD0.out hg2 HNA.out; have q4 := hDw.at4; have qf := hDw.free 4; have HE := hide (ld_a (x := d.n) (ob := .cells #[.int .i64 (d.n : Int)] 3) (by rfl) (by rfl) (by rfl) (by rfl) HL.out HS.out (Nat.le_refl _) hO2 hg2 ⟨gn, capn, rfl, hgn⟩ HB0.out); clear hO2 hg2 hgn hDw)
      all_goals
        obtain ⟨hL2, hS2, hF2⟩ := HE.out
        have HL2 := hide hL2
        have HS2 := hide hS2
        have HF2 := hide (HF.out.past hF2)
        clear HE hL2 hS2 hF2 q4 qf
        generalize w'.setCell ⟨w.heap.size, 4, none⟩ (.slice (some ⟨gn, 0, none⟩) (d.ats.length + 1) capn) = w2 at *
        generalize (Value.slice (some ⟨gn, 0, none⟩) (d.ats.length + 1) capn) = a2 at *
        clear HD0 HS HL HF HB0 HNA m1 m2 m3 hi hz0 hz1 hz2 c1 c4 f4 c6 hdl c1a c4a hX0
        go_wp2_with fail
        refine (name_any HS2.out.1 hsm hdn).mono ?_
        rintro e w3 ⟨rfl, hF3, hD3, hn3⟩
        have HL3 := hide (HL2.out.keep hF3 (fun g hg e => by
          rcases hg with h | h | h
          · exact owned_neD HS2.out.1 HL2.out.sl (by decide) g h e
          · exact owned_neD HS2.out.1 HL2.out.sa (by decide) g h e
          · exact owned_neD HS2.out.1 HL2.out.sr (by decide) g h e))
        have HS3 := hide (HS2.out.self (.inl rfl) hF3 hD3)
        have HF3 := hide (HF2.out.past (hF3.mono (fun k _ e => by have e' : k = w.heap.size := e; omega)))
        clear hF3 hD3 HL2 HS2 HF2
        go_wp2_with fail
        refine (must_any HS3.out.1 hsm hn3 61 61 rfl (by omega)).mono ?_
        rintro e w4 ⟨rfl, hF4, hD4, hn4⟩
        have HL4 := hide (HL3.out.keep hF4 (fun g hg e => by
          rcases hg with h | h | h
          · exact owned_neD HS3.out.1 HL3.out.sl (by decide) g h e
          · exact owned_neD HS3.out.1 HL3.out.sa (by decide) g h e
          · exact owned_neD HS3.out.1 HL3.out.sr (by decide) g h e))
        have HS4 := hide (HS3.out.self (.inl rfl) hF4 hD4)
        have HF4 := hide (HF3.out.past (hF4.mono (fun k _ e => by have e' : k = w.heap.size := e; omega)))
        clear hF4 hD4 HL3 HS3 HF3
        have hge4 := Nat.le_trans (wordN_ge s d.n false) (mustN_ge s (wordN s d.n false) (nameB s d.n false) 61)
        go_wp2_with fail
        refine (rtyp_all hs (s.size + 1) w4 (XL w.heap.size lv a2 rv) w.heap.size _ _ tv lv a2 rv d.tab HS4 (.inl rfl) (fun b hb => ?_) hn4 (.inr (by omega)) (by have := HTL.out; omega)).mono ?_
        · rcases hb with h | h
          · have := lt_of_heap HS4.out.1; omega
          · exact HL4.out.lt b h
        have hgr := rTyp_grows s (s.size + 2) ⟨mustN s (wordN s d.n false) (nameB s d.n false) 61, mustB s (wordN s d.n false) (nameB s d.n false) 61, d.tab⟩
        simp only at hgr
        have HLR : Hid (rLineR s d = rTyp s (s.size + 2) ⟨mustN s (wordN s d.n false) (nameB s d.n false) 61, mustB s (wordN s d.n false) (nameB s d.n false) 61, d.tab⟩) := rfl
        generalize rTyp s (s.size + 2) ⟨mustN s (wordN s d.n false) (nameB s d.n false) 61, mustB s (wordN s d.n false) (nameB s d.n false) 61, d.tab⟩ = r at *
        rintro e w5 ⟨rfl, hF5, hn5, tv5, hD5, htv5⟩
        have HL5 := hide (HL4.out.keep hF5 (fun g hg e => by
          rcases e with e | e
          · rcases hg with h | h | h
            · exact owned_neD HS4.out.1 HL4.out.sl (by decide) g h e
            · exact owned_neD HS4.out.1 HL4.out.sa (by decide) g h e
            · exact owned_neD HS4.out.1 HL4.out.sr (by decide) g h e
          · rcases hg with h | h | h
            · exact HS4.out.tvne HL4.out.sl (by decide) g h e
            · exact HS4.out.tvne HL4.out.sa (by decide) g h e
            · exact HS4.out.tvne HL4.out.sr (by decide) g h e))
        have HTV5 : Hid (∀ g, tv5.ownBlock = some g → w.heap.size ≤ g) := fun g hg => by
          rcases htv5 g hg with h | h
          · exact HTV.out g h
          · have := HF4.out.size; omega
        have HF5 := hide (HF4.out.past (hF5.mono (fun k _ e => by
          rcases e with e | e
          · omega
          · exact HTV.out k e)))
        have HS5 := hide hD5
        have hD := hD5.1
        have c3 := hD.at3
        have f3 := hD.free 3
        have hdl := lt_of_heap hD
        have HDB5 := hide hD
        have HB5 : Hid (w.heap.size ≤ w5.heap.size) := HF5.out.size
        have HNL : Hid (∀ g, lv.ownBlock = some g → g ≠ w.heap.size) := owned_neD hD HL5.out.sl (by decide)
        have m1 : Hid (d.lines.length + 1 ≤ maxLen) := by show _ ≤ _; unfold maxLen; omega
        have m2 : Hid ((d.lines.length + 1) * 16 ≤ 140737488355328) := by show _ ≤ _; omega
        generalize hnm : wordS s d.n false = nm at *
        have HNM := hide hnm
        have m3 : Hid (∀ u ∈ [Value.string nm], u.oneCell' = true) := by intro u hu; simp at hu; subst hu; rfl
        obtain ⟨i9, hi, hz0, hz1, hz2⟩ := info_parts Tryd.info9
        clear hF5 hD5 htv5 hD hnm HL4 HS4 HF4 HTV
        have p1 : Hid (d.roots.length + 1 ≤ maxLen) := by show _ ≤ _; have := HLN.out; unfold maxLen; omega
        have p2 : Hid ((d.roots.length + 1) * 8 ≤ 140737488355328) := by show _ ≤ _; have := HLN.out; omega
        have p3 : Hid (∀ u ∈ [Value.int .i64 (r.2 : Int)], u.oneCell' = true) := by intro u hu; simp at hu; subst hu; rfl
        obtain ⟨i3, gi, gz0, gz1, gz2⟩ := info_parts Tryd.info3
        have HLD : Hid (rLineD s d = ⟨r.1.n, r.1.bad, r.1.tab, d.lines ++ [nm], d.ats ++ [d.n], d.roots ++ [r.2]⟩) := by
          show _ = _
          unfold rLineD
          rw [HLR.out, HNM.out]
        have HST : Hid (rDesc s (k + 1) d = if (rLineD s d).bad = true ∨ (rLineD s d).n = s.size then rLineD s d else
            if (rLineD s d).lines.length = 10 then rMark (rLineD s d) else
            if (rFeed s (rLineD s d)).bad = true then rFeed s (rLineD s d) else rDesc s k (rFeed s (rLineD s d))) := rfl
        rw [HLD.out] at HST
        have HLEN : Hid ((d.ats ++ [d.n]).length = (d.lines ++ [nm]).length ∧ (d.roots ++ [r.2]).length = (d.lines ++ [nm]).length ∧ (d.lines ++ [nm]).length ≤ 10) := by
          have := HLN.out
          show _ ∧ _ ∧ _
          simp only [List.length_append, List.length_cons, List.length_nil]
          omega
        have HTB : Hid (r.1.tab.length ≤ 1000) := by show _ ≤ _; have := HTL.out; omega
        have HTL2 : Hid (r.1.tab.length + (s.size - r.1.n) ≤ 401 + (d.lines ++ [nm]).length) := by
          have := HTL.out
          show _ ≤ _
          simp only [List.length_append, List.length_cons, List.length_nil]
          omega
        clear HLR
        rcases hbb : r.1.bad with _ | _
        · rw [hbb] at HS5 HDB5
          by_cases hend : r.1.n = s.size
          · have hq : ((r.1.n : Int) == (s.size : Int)) = true := beq_iff_eq.2 (by omega)
            have HT : Hid (rDesc s 10 ⟨0, false, [], [], [], []⟩ = ⟨r.1.n, r.1.bad, r.1.tab, d.lines ++ [nm], d.ats ++ [d.n], d.roots ++ [r.2]⟩) := HRD.out.trans (HST.out.trans (by rw [if_pos (.inr hend)]))
            have HBB := hide hbb
            clear hend hbb HST HRD
            go_wp2_with (first | (at_builtin; refine wpList_append_mine _ rfl (.tmp 37) (.tmp 39) 36 rfl 0 9 i9 (.string ⟨#[]⟩) 1 16 Tryd.underlying36 hi hz0 hz1 hz2 rfl (by decide) lv d.lines.length (texts d.lines) rfl (by exact ownsRow_heap (o := .cells #[.string nm] 9) HL5.out.sl (by rfl)) ⟨w5.heap.size, 0, none⟩ 1 1 (by omega) [.string nm] rfl rfl (by exact news1_heap (w := w5) (t := 9) (x := .string nm) rfl (by rfl)) m3.out m1.out m2.out (Nat.zero_le _) ?_; intro v6 w6 hO6 hg6 hv6; obtain ⟨g6, cap6, rfl, hgn6⟩ := hv6; have hDw := dAfter (o := .cells #[.string nm] 9) (by rfl) HDB5.out hg6 HNL.out; have q3 := hDw.at3; have qf := hDw.free 3; have HE6 := hide (ld_l (x := nm) (ob := .cells #[.string nm] 9) (by rfl) (by rfl) (by rfl) (by rfl) HL5.out HS5.out (Nat.le_refl _) hO6 hg6 ⟨g6, cap6, rfl, by simpa using hgn6⟩ HB5.out); have q5 := HE6.out.2.1.1.at5; have q5f := HE6.out.2.1.1.free 5; have HB7 : Hid (w.heap.size ≤ (w6.setCell ⟨w.heap.size, 3, none⟩ (.slice (some ⟨g6, 0, none⟩) (d.lines.length + 1) cap6)).heap.size) := Nat.le_trans HB5.out HE6.out.2.2.size; have HNR : Hid (∀ g, rv.ownBlock = some g → g ≠ w.heap.size) := owned_neD HE6.out.2.1.1 HE6.out.1.sr (by decide); clear hO6 hg6 hgn6 hDw) | (at_builtin; refine wpList_append_mine _ rfl (.tmp 47) (.tmp 49) 37 rfl 0 3 i3 (.int .i64 0) 1 8 Tryd.underlying37 gi gz0 gz1 gz2 rfl (by decide) rv d.roots.length (ints d.roots) rfl (by exact ownsRow_heap (o := .cells #[.int .i64 (r.2 : Int)] 3) HE6.out.1.sr (by rfl)) ⟨w6.heap.size, 0, none⟩ 1 1 (by omega) [.int .i64 (r.2 : Int)] rfl rfl (by exact news1_heap (w := (w6.setCell ⟨w.heap.size, 3, none⟩ (.slice (some ⟨g6, 0, none⟩) (d.lines.length + 1) cap6))) (t := 3) (x := .int .i64 (r.2 : Int)) (by simp [World.setCell]) (by rfl)) p3.out p1.out p2.out (Nat.zero_le _) ?_; intro v8 w8 hO8 hg8 hv8; obtain ⟨g8, cap8, rfl, hgn8⟩ := hv8; have hDw8 := dAfter (o := .cells #[.int .i64 (r.2 : Int)] 3) (by rfl) HE6.out.2.1.1 hg8 HNR.out; have r5 := hDw8.at5; have r5f := hDw8.free 5; have HE8 := hide (ld_r (x := r.2) (ob := .cells #[.int .i64 (r.2 : Int)] 3) (by rfl) (by rfl) (by rfl) (by rfl) HE6.out.1 HE6.out.2.1 (Nat.le_refl _) hO8 hg8 ⟨g8, cap8, rfl, by simpa using hgn8⟩ HB7.out); have r6 := HE8.out.2.1.1.at6; have r1 := HE8.out.2.1.1.at1; have r3 := HE8.out.2.1.1.at3; have r6f := HE8.out.2.1.1.free 6; clear hO8 hg8 hgn8 hDw8))
            go_ret
            obtain ⟨hL9, hS9, hF9⟩ := HE8.out
            have HF9 := hide ((HF5.out.past HE6.out.2.2).past hF9)
            rw [HT.out, HBB.out]
            exact ⟨rfl, HF9, hn5, tv5, _, a2, _, hS9, hL9, HTV5, HLEN.out.2.2, HLEN.out.1, HLEN.out.2.1, HTB⟩
          · have hq : ((r.1.n : Int) == (s.size : Int)) = false := beq_eq_false_iff_ne.2 (by omega)
            have HST2 : Hid (rDesc s 10 ⟨0, false, [], [], [], []⟩ = if (⟨r.1.n, r.1.bad, r.1.tab, d.lines ++ [nm], d.ats ++ [d.n], d.roots ++ [r.2]⟩ : RD).lines.length = 10 then rMark ⟨r.1.n, r.1.bad, r.1.tab, d.lines ++ [nm], d.ats ++ [d.n], d.roots ++ [r.2]⟩ else
                if (rFeed s ⟨r.1.n, r.1.bad, r.1.tab, d.lines ++ [nm], d.ats ++ [d.n], d.roots ++ [r.2]⟩).bad = true then rFeed s ⟨r.1.n, r.1.bad, r.1.tab, d.lines ++ [nm], d.ats ++ [d.n], d.roots ++ [r.2]⟩ else rDesc s k (rFeed s ⟨r.1.n, r.1.bad, r.1.tab, d.lines ++ [nm], d.ats ++ [d.n], d.roots ++ [r.2]⟩)) := HRD.out.trans (HST.out.trans (by rw [if_neg (by rw [hbb]; simp; exact hend)]))
            have HBB := hide hbb
            clear hend hbb HST HRD
            by_cases h10 : d.lines.length + 1 = 10
            · have hq2 : ((d.lines.length : Int) + 1 == 10) = true := beq_iff_eq.2 (by omega)
              have HT : Hid (rDesc s 10 ⟨0, false, [], [], [], []⟩ = rMark ⟨r.1.n, r.1.bad, r.1.tab, d.lines ++ [nm], d.ats ++ [d.n], d.roots ++ [r.2]⟩) := HST2.out.trans (by rw [if_pos (by simp only [List.length_append, List.length_cons, List.length_nil]; omega)])
              clear h10 HST2
              go_wp2_with (first | (at_builtin; refine wpList_append_mine _ rfl (.tmp 37) (.tmp 39) 36 rfl 0 9 i9 (.string ⟨#[]⟩) 1 16 Tryd.underlying36 hi hz0 hz1 hz2 rfl (by decide) lv d.lines.length (texts d.lines) rfl (by exact ownsRow_heap (o := .cells #[.string nm] 9) HL5.out.sl (by rfl)) ⟨w5.heap.size, 0, none⟩ 1 1 (by omega) [.string nm] rfl rfl (by exact news1_heap (w := w5) (t := 9) (x := .string nm) rfl (by rfl)) m3.out m1.out m2.out (Nat.zero_le _) ?_; intro v6 w6 hO6 hg6 hv6; obtain ⟨g6, cap6, rfl, hgn6⟩ := hv6; have hDw := dAfter (o := .cells #[.string nm] 9) (by rfl) HDB5.out hg6 HNL.out; have q3 := hDw.at3; have qf := hDw.free 3; have HE6 := hide (ld_l (x := nm) (ob := .cells #[.string nm] 9) (by rfl) (by rfl) (by rfl) (by rfl) HL5.out HS5.out (Nat.le_refl _) hO6 hg6 ⟨g6, cap6, rfl, by simpa using hgn6⟩ HB5.out); have q5 := HE6.out.2.1.1.at5; have q5f := HE6.out.2.1.1.free 5; have HB7 : Hid (w.heap.size ≤ (w6.setCell ⟨w.heap.size, 3, none⟩ (.slice (some ⟨g6, 0, none⟩) (d.lines.length + 1) cap6)).heap.size) := Nat.le_trans HB5.out HE6.out.2.2.size; have HNR : Hid (∀ g, rv.ownBlock = some g → g ≠ w.heap.size) := owned_neD HE6.out.2.1.1 HE6.out.1.sr (by decide); clear hO6 hg6 hgn6 hDw) | (at_builtin; refine wpList_append_mine _ rfl (.tmp 47) (.tmp 49) 37 rfl 0 3 i3 (.int .i64 0) 1 8 Tryd.underlying37 gi gz0 gz1 gz2 rfl (by decide) rv d.roots.length (ints d.roots) rfl (by exact ownsRow_heap (o := .cells #[.int .i64 (r.2 : Int)] 3) HE6.out.1.sr (by rfl)) ⟨w6.heap.size, 0, none⟩ 1 1 (by omega) [.int .i64 (r.2 : Int)] rfl rfl (by exact news1_heap (w := (w6.setCell ⟨w.heap.size, 3, none⟩ (.slice (some ⟨g6, 0, none⟩) (d.lines.length + 1) cap6))) (t := 3) (x := .int .i64 (r.2 : Int)) (by simp [World.setCell]) (by rfl)) p3.out p1.out p2.out (Nat.zero_le _) ?_; intro v8 w8 hO8 hg8 hv8; obtain ⟨g8, cap8, rfl, hgn8⟩ := hv8; have hDw8 := dAfter (o := .cells #[.int .i64 (r.2 : Int)] 3) (by rfl) HE6.out.2.1.1 hg8 HNR.out; have r5 := hDw8.at5; have r5f := hDw8.free 5; have HE8 := hide (ld_r (x := r.2) (ob := .cells #[.int .i64 (r.2 : Int)] 3) (by rfl) (by rfl) (by rfl) (by rfl) HE6.out.1 HE6.out.2.1 (Nat.le_refl _) hO8 hg8 ⟨g8, cap8, rfl, by simpa using hgn8⟩ HB7.out); have r6 := HE8.out.2.1.1.at6; have r1 := HE8.out.2.1.1.at1; have r3 := HE8.out.2.1.1.at3; have r6f := HE8.out.2.1.1.free 6; clear hO8 hg8 hgn8 hDw8))
              go_ret
              obtain ⟨hL9, hS9, hF9⟩ := HE8.out
              have HF9 := hide ((HF5.out.past HE6.out.2.2).past hF9)
              have hfS : Fr (One w.heap.size) (w8.setCell ⟨w.heap.size, 5, none⟩ (.slice (some ⟨g8, 0, none⟩) (d.roots.length + 1) cap8)) ((w8.setCell ⟨w.heap.size, 5, none⟩ (.slice (some ⟨g8, 0, none⟩) (d.roots.length + 1) cap8)).setCell ⟨w.heap.size, 6, none⟩ (.bool true)) := Fr.setCell _ _ _ _ rfl
              rw [HT.out]
              refine ⟨rfl, HF9.out.past (hfS.mono (fun k _ e => by have e' : k = w.heap.size := e; omega)), hn5, tv5, _, a2, _, hS9.self (.inl rfl) hfS (hS9.1.set6 true), hL9.keep hfS (fun g hg e => ?_), HTV5, HLEN.out.2.2, HLEN.out.1, HLEN.out.2.1, HTB⟩
              rcases hg with h | h | h
              · exact owned_neD hS9.1 hL9.sl (by decide) g h e
              · exact owned_neD hS9.1 hL9.sa (by decide) g h e
              · exact owned_neD hS9.1 hL9.sr (by decide) g h e
            · have hq2 : ((d.lines.length : Int) + 1 == 10) = false := beq_eq_false_iff_ne.2 (by omega)
              have HST3 : Hid (rDesc s 10 ⟨0, false, [], [], [], []⟩ = if (rFeed s ⟨r.1.n, r.1.bad, r.1.tab, d.lines ++ [nm], d.ats ++ [d.n], d.roots ++ [r.2]⟩).bad = true then rFeed s ⟨r.1.n, r.1.bad, r.1.tab, d.lines ++ [nm], d.ats ++ [d.n], d.roots ++ [r.2]⟩ else rDesc s k (rFeed s ⟨r.1.n, r.1.bad, r.1.tab, d.lines ++ [nm], d.ats ++ [d.n], d.roots ++ [r.2]⟩)) := HST2.out.trans (by rw [if_neg (by simp only [List.length_append, List.length_cons, List.length_nil]; omega)])
              have H10 := hide h10
              clear h10 HST2
              go_wp2_with (first | (at_builtin; refine wpList_append_mine _ rfl (.tmp 37) (.tmp 39) 36 rfl 0 9 i9 (.string ⟨#[]⟩) 1 16 Tryd.underlying36 hi hz0 hz1 hz2 rfl (by decide) lv d.lines.length (texts d.lines) rfl (by exact ownsRow_heap (o := .cells #[.string nm] 9) HL5.out.sl (by rfl)) ⟨w5.heap.size, 0, none⟩ 1 1 (by omega) [.string nm] rfl rfl (by exact news1_heap (w := w5) (t := 9) (x := .string nm) rfl (by rfl)) m3.out m1.out m2.out (Nat.zero_le _) ?_; intro v6 w6 hO6 hg6 hv6; obtain ⟨g6, cap6, rfl, hgn6⟩ := hv6; have hDw := dAfter (o := .cells #[.string nm] 9) (by rfl) HDB5.out hg6 HNL.out; have q3 := hDw.at3; have qf := hDw.free 3; have HE6 := hide (ld_l (x := nm) (ob := .cells #[.string nm] 9) (by rfl) (by rfl) (by rfl) (by rfl) HL5.out HS5.out (Nat.le_refl _) hO6 hg6 ⟨g6, cap6, rfl, by simpa using hgn6⟩ HB5.out); have q5 := HE6.out.2.1.1.at5; have q5f := HE6.out.2.1.1.free 5; have HB7 : Hid (w.heap.size ≤ (w6.setCell ⟨w.heap.size, 3, none⟩ (.slice (some ⟨g6, 0, none⟩) (d.lines.length + 1) cap6)).heap.size) := Nat.le_trans HB5.out HE6.out.2.2.size; have HNR : Hid (∀ g, rv.ownBlock = some g → g ≠ w.heap.size) := owned_neD HE6.out.2.1.1 HE6.out.1.sr (by decide); clear hO6 hg6 hgn6 hDw) | (at_builtin; refine wpList_append_mine _ rfl (.tmp 47) (.tmp 49) 37 rfl 0 3 i3 (.int .i64 0) 1 8 Tryd.underlying37 gi gz0 gz1 gz2 rfl (by decide) rv d.roots.length (ints d.roots) rfl (by exact ownsRow_heap (o := .cells #[.int .i64 (r.2 : Int)] 3) HE6.out.1.sr (by rfl)) ⟨w6.heap.size, 0, none⟩ 1 1 (by omega) [.int .i64 (r.2 : Int)] rfl rfl (by exact news1_heap (w := (w6.setCell ⟨w.heap.size, 3, none⟩ (.slice (some ⟨g6, 0, none⟩) (d.lines.length + 1) cap6))) (t := 3) (x := .int .i64 (r.2 : Int)) (by simp [World.setCell]) (by rfl)) p3.out p1.out p2.out (Nat.zero_le _) ?_; intro v8 w8 hO8 hg8 hv8; obtain ⟨g8, cap8, rfl, hgn8⟩ := hv8; have hDw8 := dAfter (o := .cells #[.int .i64 (r.2 : Int)] 3) (by rfl) HE6.out.2.1.1 hg8 HNR.out; have r5 := hDw8.at5; have r5f := hDw8.free 5; have HE8 := hide (ld_r (x := r.2) (ob := .cells #[.int .i64 (r.2 : Int)] 3) (by rfl) (by rfl) (by rfl) (by rfl) HE6.out.1 HE6.out.2.1 (Nat.le_refl _) hO8 hg8 ⟨g8, cap8, rfl, by simpa using hgn8⟩ HB7.out); have r6 := HE8.out.2.1.1.at6; have r1 := HE8.out.2.1.1.at1; have r3 := HE8.out.2.1.1.at3; have r6f := HE8.out.2.1.1.free 6; clear hO8 hg8 hgn8 hDw8))
              obtain ⟨hL9, hS9, hF9⟩ := HE8.out
              have HF9 := hide ((HF5.out.past HE6.out.2.2).past hF9)
              refine (must_any hS9.1 hsm hn5 10 10 rfl (by omega)).mono ?_
              rintro e w10 ⟨rfl, hF10, hD10, hn10⟩
              have HL10 := hide (hL9.keep hF10 (fun g hg e => by
                rcases hg with h | h | h
                · exact owned_neD hS9.1 hL9.sl (by decide) g h e
                · exact owned_neD hS9.1 hL9.sa (by decide) g h e
                · exact owned_neD hS9.1 hL9.sr (by decide) g h e))
              have HS10 := hide (hS9.self (.inl rfl) hF10 hD10)
              have HF10 := hide (HF9.out.past (hF10.mono (fun k _ e => by have e' : k = w.heap.size := e; omega)))
              clear hL9 hS9 hF9 hF10 hD10 HE8 HE6 HF9 HL5 HS5 HF5 HDB5 q3 qf q5 q5f r5 r5f r6 r1 r3 r6f HB5 HB7 HNL HNR m1 m2 m3 p1 p2 p3 hi hz0 hz1 hz2 gi gz0 gz1 gz2 c3 f3 hdl
              go_wp2_with fail
              go_roundw
              case rel =>
                have hmg := mustN_ge s r.1.n r.1.bad 10
                have := H10.out
                have hfe : rFeed s ⟨r.1.n, r.1.bad, r.1.tab, d.lines ++ [nm], d.ats ++ [d.n], d.roots ++ [r.2]⟩ = ⟨mustN s r.1.n r.1.bad 10, mustB s r.1.n r.1.bad 10, r.1.tab, d.lines ++ [nm], d.ats ++ [d.n], d.roots ++ [r.2]⟩ := rfl
                refine ⟨rfl, rFeed s ⟨r.1.n, r.1.bad, r.1.tab, d.lines ++ [nm], d.ats ++ [d.n], d.roots ++ [r.2]⟩, tv5, _, a2, _, (by rw [hfe, HBB.out]; exact hn10), (fun hf => ⟨k - 1, (by rw [hfe]; simp only [List.length_append, List.length_cons, List.length_nil]; omega), ?_⟩), (fun hf => HST3.out.trans (by rw [if_pos hf])), ?_, HLEN.out.2.2, ⟨HLEN.out.1, HLEN.out.2.1⟩, (by rw [hfe, HBB.out]; exact HS10), HL10, HTV5, HF10⟩
                · rw [show k - 1 + 1 = k by omega]
                  exact HST3.out.trans (by rw [if_neg (by rw [hf]; simp)])
                · show _ ≤ _
                  have := HTL2.out
                  rw [hfe]
                  show r.1.tab.length + (s.size - mustN s r.1.n r.1.bad 10) ≤ 401 + (d.lines ++ [nm]).length
                  omega
              case measure =>
                show 11 - linesLen w.heap.size w10 < 11 - linesLen w.heap.size wr
                rw [HLL0.out, HL10.out.linesLen HS10.out.1]
                simp only [List.length_append, List.length_cons, List.length_nil]
                omega
        · rw [hbb] at HS5 HDB5
          have HT : Hid (rDesc s 10 ⟨0, false, [], [], [], []⟩ = ⟨r.1.n, r.1.bad, r.1.tab, d.lines ++ [nm], d.ats ++ [d.n], d.roots ++ [r.2]⟩) := HRD.out.trans (HST.out.trans (by rw [if_pos (.inl hbb)]))
          have HBB := hide hbb
          clear hbb HST HRD
          go_wp2_with (first | (at_builtin; refine wpList_append_mine _ rfl (.tmp 37) (.tmp 39) 36 rfl 0 9 i9 (.string ⟨#[]⟩) 1 16 Tryd.underlying36 hi hz0 hz1 hz2 rfl (by decide) lv d.lines.length (texts d.lines) rfl (by exact ownsRow_heap (o := .cells #[.string nm] 9) HL5.out.sl (by rfl)) ⟨w5.heap.size, 0, none⟩ 1 1 (by omega) [.string nm] rfl rfl (by exact news1_heap (w := w5) (t := 9) (x := .string nm) rfl (by rfl)) m3.out m1.out m2.out (Nat.zero_le _) ?_; intro v6 w6 hO6 hg6 hv6; obtain ⟨g6, cap6, rfl, hgn6⟩ := hv6; have hDw := dAfter (o := .cells #[.string nm] 9) (by rfl) HDB5.out hg6 HNL.out; have q3 := hDw.at3; have qf := hDw.free 3; have HE6 := hide (ld_l (x := nm) (ob := .cells #[.string nm] 9) (by rfl) (by rfl) (by rfl) (by rfl) HL5.out HS5.out (Nat.le_refl _) hO6 hg6 ⟨g6, cap6, rfl, by simpa using hgn6⟩ HB5.out); have q5 := HE6.out.2.1.1.at5; have q5f := HE6.out.2.1.1.free 5; have HB7 : Hid (w.heap.size ≤ (w6.setCell ⟨w.heap.size, 3, none⟩ (.slice (some ⟨g6, 0, none⟩) (d.lines.length + 1) cap6)).heap.size) := Nat.le_trans HB5.out HE6.out.2.2.size; have HNR : Hid (∀ g, rv.ownBlock = some g → g ≠ w.heap.size) := owned_neD HE6.out.2.1.1 HE6.out.1.sr (by decide); clear hO6 hg6 hgn6 hDw) | (at_builtin; refine wpList_append_mine _ rfl (.tmp 47) (.tmp 49) 37 rfl 0 3 i3 (.int .i64 0) 1 8 Tryd.underlying37 gi gz0 gz1 gz2 rfl (by decide) rv d.roots.length (ints d.roots) rfl (by exact ownsRow_heap (o := .cells #[.int .i64 (r.2 : Int)] 3) HE6.out.1.sr (by rfl)) ⟨w6.heap.size, 0, none⟩ 1 1 (by omega) [.int .i64 (r.2 : Int)] rfl rfl (by exact news1_heap (w := (w6.setCell ⟨w.heap.size, 3, none⟩ (.slice (some ⟨g6, 0, none⟩) (d.lines.length + 1) cap6))) (t := 3) (x := .int .i64 (r.2 : Int)) (by simp [World.setCell]) (by rfl)) p3.out p1.out p2.out (Nat.zero_le _) ?_; intro v8 w8 hO8 hg8 hv8; obtain ⟨g8, cap8, rfl, hgn8⟩ := hv8; have hDw8 := dAfter (o := .cells #[.int .i64 (r.2 : Int)] 3) (by rfl) HE6.out.2.1.1 hg8 HNR.out; have r5 := hDw8.at5; have r5f := hDw8.free 5; have HE8 := hide (ld_r (x := r.2) (ob := .cells #[.int .i64 (r.2 : Int)] 3) (by rfl) (by rfl) (by rfl) (by rfl) HE6.out.1 HE6.out.2.1 (Nat.le_refl _) hO8 hg8 ⟨g8, cap8, rfl, by simpa using hgn8⟩ HB7.out); have r6 := HE8.out.2.1.1.at6; have r1 := HE8.out.2.1.1.at1; have r3 := HE8.out.2.1.1.at3; have r6f := HE8.out.2.1.1.free 6; clear hO8 hg8 hgn8 hDw8))
          go_ret
          obtain ⟨hL9, hS9, hF9⟩ := HE8.out
          have HF9 := hide ((HF5.out.past HE6.out.2.2).past hF9)
          rw [HT.out, HBB.out]
          exact ⟨rfl, HF9, hn5, tv5, _, a2, _, hS9, hL9, HTV5, HLEN.out.2.2, HLEN.out.1, HLEN.out.2.1, HTB⟩
    · have HR := hide (HNo.out hb)
      rw [hb] at hD0 HS
      have c6 := hD0.at6
      have HBD := hide hb
      clear HY HNo hb hD0
      go_wp2_with fail
      go_ret
      rw [HR.out]
      exact ⟨rfl, HF, hdn, tv, lv, av, rv, (by rw [HBD.out]; exact HS), HL, HTV, hll, HLN.out.1, HLN.out.2, by have := HTL.out; omega⟩

end Go.Proofs.YtapblkmlhoalgaaDoor
