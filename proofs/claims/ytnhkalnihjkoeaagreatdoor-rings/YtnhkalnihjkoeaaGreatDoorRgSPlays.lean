/- The script is played. -/
import Derived.Test.YtnhkalnihjkoeaaGreatDoorRgSViews
namespace Go.Proofs.YtnhkalnihjkoeaaGreatDoor.Q
open Go.RowKit

theorem WM.start (w : World) : WM (w.alloc (.cells #[.slice none 0 0, .slice none 0 0, .slice none 0 0, .slice none 0 0] 95)) w.heap.size w.heap.size [] 0 (.slice none 0 0) (.slice none 0 0) :=
  ⟨heap_new_at rfl _, PRow.nil _ _ _, PRow.nil _ _ _, fun _ h => by simp [blockOf] at h, fun _ h => by simp [blockOf] at h, fun _ _ h => by simp at h, fun _ _ _ _ h => by simp at h, fun _ _ h => by simp at h, Nat.le_refl _, fun _ _ h => by simp at h⟩

/-- A script as it lies in memory. -/
def ScriptAt (w : World) (o : Option Addr) (n : Nat) : Prop := ∀ i, i < n → ∃ (b off : Nat) (k a b' c g : Int) (s : ByteArray), o = some ⟨b, off, none⟩ ∧ w.cell? ⟨b, off + i * 6, none⟩ = some (.int .i64 k) ∧ w.cell? ⟨b, off + i * 6 + 1, none⟩ = some (.int .i64 a) ∧ w.cell? ⟨b, off + i * 6 + 2, none⟩ = some (.int .i64 b') ∧ w.cell? ⟨b, off + i * 6 + 3, none⟩ = some (.int .i64 c) ∧ w.cell? ⟨b, off + i * 6 + 4, none⟩ = some (.int .i64 g) ∧ w.cell? ⟨b, off + i * 6 + 5, none⟩ = some (.string s) ∧ OpOk k a b' c g s

set_option maxHeartbeats 32000000 in
set_option maxRecDepth 100000 in
theorem plays_any (w : World) (o : Option Addr) (n c : Nat) (hS : ScriptAt w o n) (hn : n ≤ 2600000000000) :
    Calls Tryz.prog 28 #[.slice o n c, .bool false] w fun e w' => e = .returned (.bool true) ∧ Fr Zero w w' := by
  have HS := hide hS
  have HZ : Hid (Fr Zero w (w.alloc (.cells #[.slice none 0 0, .slice none 0 0, .slice none 0 0, .slice none 0 0] 95))) := Fr.alloc _ _ _
  have H0 := hide (WM.start w)
  clear hS
  go_enter Tryz.func28, Tryz.ntmps28
  go_wp2_with fail
  generalize w.alloc (.cells #[.slice none 0 0, .slice none 0 0, .slice none 0 0, .slice none 0 0] 95) = w0 at *
  refine (step_new (B := w.heap.size) (wb := w.heap.size) (M := 0) (L := []) 4 0 0 0 ⟨#[]⟩ (fun w1 hf => news_good (H0.out.quiet hf) (by simp) 4 0 0 0 ⟨#[]⟩ (by omega) (by omega))).mono ?_
  rintro e w1 ⟨rfl, wx, hfx, _, hf1, L1, rv1, qv1, hW1, hl1, hp1⟩
  have HF1 := hide (HZ.out.past (hfx.of0.trans hf1))
  have HW1 := hide hW1
  simp only [List.length_nil] at hl1
  clear hf1 hW1 hfx H0 HZ
  go_wp2_with fail
  go_loopw [6, 7] (fun ov iv wr => ∃ (i : Nat) (L : List RP) (rv qv : Value), i ≤ n ∧ ov = .bool true ∧ iv = .int .i64 i ∧ L.length ≤ i + 1 ∧ 0 < L.length ∧ Hid (WM wr w.heap.size w.heap.size L (i + 1) rv qv) ∧ Hid (Fr Zero w wr)) (fun _ iv _ => n - (intOf iv).toNat)
  case atStart => exact ⟨0, L1, rv1, qv1, by omega, rfl, rfl, by omega, hp1, HW1, HF1⟩
  case round =>
    clear HW1 HF1
    obtain ⟨i, L, rv, qv, hi, rfl, rfl, hL1, hL0, HW, HF⟩ := hrel
    by_cases hlt : i < n
    · have hI : (i : Int) < (n : Int) := by omega
      obtain ⟨b, off, k, a, b', c', g, s, rfl, c0, c1, c2, c3, c4, c5, hok⟩ := HS.out i hlt
      have hbl := World.block_lt_of_cell? _ _ c0
      replace c0 := (HF.out.cell (a := ⟨b, off + i * 6, none⟩) hbl (fun h => h)).trans c0
      replace c1 := (HF.out.cell (a := ⟨b, off + i * 6 + 1, none⟩) hbl (fun h => h)).trans c1
      replace c2 := (HF.out.cell (a := ⟨b, off + i * 6 + 2, none⟩) hbl (fun h => h)).trans c2
      replace c3 := (HF.out.cell (a := ⟨b, off + i * 6 + 3, none⟩) hbl (fun h => h)).trans c3
      replace c4 := (HF.out.cell (a := ⟨b, off + i * 6 + 4, none⟩) hbl (fun h => h)).trans c4
      replace c5 := (HF.out.cell (a := ⟨b, off + i * 6 + 5, none⟩) hbl (fun h => h)).trans c5
      have HOK := hide hok
      clear hok
      by_cases hk : k < 11
      · go_wp2_with fail
        refine (step_any HW.out hL0 (by omega) (by omega) k a b' c' g s HOK.out hk).mono ?_
        rintro e w2 ⟨rfl, hf2, L2, rv2, qv2, hW2, hl2, hp2⟩
        have HF2 := hide (HF.out.past hf2)
        have HW2 := hide hW2
        clear hf2 hW2
        go_wp2_with fail
        exact ⟨⟨i + 1, L2, rv2, qv2, by omega, rfl, by go_num, by omega, hp2, HW2, HF2⟩, by simp [intOf]; omega⟩
      · have hkd : decide (k < 11) = false := decide_eq_false hk
        go_wp2_with fail
        exact ⟨⟨i + 1, L, rv, qv, by omega, rfl, by go_num, by omega, hL0, HW.out.mono (Nat.le_succ _), HF⟩, by simp [intOf]; omega⟩
    · have hi' : i = n := by omega
      subst hi'
      have hI : ¬ (i : Int) < (i : Int) := by omega
      go_wp2_with fail
      go_loopw [6, 8] (fun ov iv wr => ∃ (k : Nat) (L2 : List RP), k ≤ L.length ∧ ov = .bool true ∧ iv = .int .i64 k ∧ L2.length = L.length ∧ Hid (WM wr w.heap.size w.heap.size L2 (i + 1) rv qv) ∧ Hid (Fr Zero w wr)) (fun _ iv _ => L.length - (intOf iv).toNat)
      case atStart => exact ⟨0, L, by omega, rfl, rfl, rfl, HW, HF⟩
      case round =>
        clear HW HF
        obtain ⟨k, L2, hk, rfl, rfl, hl2, HW, HF⟩ := hrel
        have a0 := HW.out.at0
        have a1 := HW.out.at1
        have a2 := HW.out.at2
        obtain ⟨ra, rc, hrv⟩ := HW.out.rs.len
        rw [hl2] at hrv
        subst hrv
        by_cases hkl : k < L.length
        · have hI2 : (k : Int) < (L.length : Int) := by omega
          go_wp2_with fail
          refine (views_any HW.out (by omega) (by omega) k (by omega)).mono ?_
          rintro e w2 ⟨rfl, hF2⟩
          have HF2 := hide (HF.out.trans hF2)
          have HW2 := hide (HW.out.quiet hF2)
          clear hF2 a0 a1 a2
          obtain ⟨p, hp⟩ : ∃ p, L2[k]? = some p := ⟨_, List.getElem?_eq_getElem (by omega)⟩
          have hpl := HW2.out.lens k p hp
          obtain ⟨fb, fo, fc, gb, go, gc, e1, rfl, fcell, gcell⟩ := HW2.out.rows hp
          obtain ⟨rfl, rfl⟩ : ra = some ⟨fb, fo, none⟩ ∧ rc = fc := by simp at e1; exact ⟨e1.1, e1.2.2⟩
          obtain ⟨fq, hq⟩ := (HW2.out.each k p hp).rq
          have k1 := hq.at1
          obtain ⟨qa, qc, rfl⟩ := hq.f.len
          have b1 := HW2.out.at1
          rw [hl2] at b1
          clear hq e1 HW HF
          go_wp2_with fail
          go_loopw [6, 10] (fun ov jv wr => ∃ (j : Nat) (L3 : List RP), j ≤ p.Q.fs.length + 1 ∧ ov = .bool true ∧ jv = .int .i64 j ∧ L3.length = L.length ∧ Hid (WM wr w.heap.size w.heap.size L3 (i + 1) (.slice (some ⟨fb, fo, none⟩) L.length rc) (.slice (some ⟨gb, go, none⟩) L2.length gc)) ∧ Hid (Fr Zero w wr)) (fun _ jv _ => p.Q.fs.length + 1 - (intOf jv).toNat)
          case atStart => exact ⟨0, L2, by omega, rfl, rfl, hl2, HW2, HF2⟩
          case round =>
            clear HW2 HF2 fcell gcell k1 b1
            obtain ⟨j, L3, hj, rfl, rfl, hl3, HW, HF⟩ := hrel
            by_cases hjl : j < p.Q.fs.length + 1
            · have hI3 : (j : Int) < (p.Q.fs.length : Int) + 1 := by omega
              obtain ⟨p3, hp3⟩ : ∃ p3, L3[k]? = some p3 := ⟨_, List.getElem?_eq_getElem (by omega)⟩
              have HWd := hide (HW.out.quiet (Fr.drew Zero wr))
              obtain ⟨fb3, fo3, fc3, gb3, go3, gc3, e3, e4, fcell, gcell⟩ := HWd.out.rows hp3
              obtain ⟨⟨rfl, rfl⟩, _, rfl⟩ : (fb = fb3 ∧ fo = fo3) ∧ True ∧ rc = fc3 := by simp at e3; exact ⟨e3.1, trivial, e3.2.2⟩
              obtain ⟨⟨rfl, rfl⟩, _, rfl⟩ : (gb = gb3 ∧ go = go3) ∧ True ∧ gc = gc3 := by simp at e4; exact ⟨e4.1, trivial, e4.2.2⟩
              have b0 := HWd.out.at0
              have b1 := HWd.out.at1
              rw [hl2] at b1
              have HI := hide hp3
              have hPM := HWd.out.each k p3 hp3
              have HPM := hide hPM
              have hpl3 := HWd.out.lens k p3 hp3
              have hfl := World.block_lt_of_cell? _ _ fcell
              have hgl := World.block_lt_of_cell? _ _ gcell
              have hwl := HWd.out.lt
              have hfx : Hid (¬ PX wr.drew p3 fb) := by
                obtain ⟨cu, ce⟩ := HWd.out.rs.typed (g := fb) (by simp [blockOf])
                exact hPM.notX ce (by decide) (by decide) (by decide) (by decide) (by decide)
              have hgx : Hid (¬ PX wr.drew p3 gb) := by
                obtain ⟨cu, ce⟩ := HWd.out.qs.typed (g := gb) (by simp [blockOf])
                exact hPM.notX ce (by decide) (by decide) (by decide) (by decide) (by decide)
              have hwx : Hid (¬ PX wr.drew p3 w.heap.size) := hPM.notX HWd.out.blk (by decide) (by decide) (by decide) (by decide) (by decide)
              have HOK : Hid (OpOk 3 0 0 0 0 ⟨#[]⟩) := ⟨by omega, by omega, by omega, by omega, by omega, by omega, by omega, by omega, by omega, by omega, by show (0 : Nat) ≤ _; omega⟩
              have HFd := hide (HF.out.trans (Fr.drew Zero wr))
              clear hPM hp3 e3 e4
              go_wp2_with fail
              refine wp_region_held_drew (S := fun W => W.cell? ⟨w.heap.size, 0, none⟩ = some (.slice (some ⟨fb, fo, none⟩) L.length rc) ∧ W.cell? ⟨w.heap.size, 1, none⟩ = some (.slice (some ⟨gb, go, none⟩) L.length gc) ∧ W.cell? ⟨fb, fo + k, none⟩ = some (.pointer (some ⟨p3.sb, 0, none⟩)) ∧ W.cell? ⟨gb, go + k, none⟩ = some (.pointer (some ⟨p3.qb, 0, none⟩))) (by kernel_rfl) ⟨b0, b1, fcell, gcell⟩ (fun hT => ?_)
              generalize wr.drew = w3 at *
              refine wtake0 (by kernel_rfl) (by kernel_rfl) (by kernel_rfl) (fun _ _ _ h => h) (Or.inl ⟨by rfl, fun W hW => by obtain ⟨z0, z1, z2, z3⟩ := hW; go_simp; try with_reducible rfl⟩) ⟨b0, b1, fcell, gcell⟩ ?_
              try simp only [Act.put, List.setIfInBounds_toArray, List.set_cons_zero, List.set_cons_succ]
              refine wtake1 (by kernel_rfl) (by kernel_rfl) (by kernel_rfl) (fun _ _ _ h => h) (Or.inl ⟨by rfl, fun W hW => by obtain ⟨z0, z1, z2, z3⟩ := hW; go_simp; try with_reducible rfl⟩) ⟨b0, b1, fcell, gcell⟩ ?_
              try simp only [Act.put, List.setIfInBounds_toArray, List.set_cons_zero, List.set_cons_succ]
              refine wtake2 (by kernel_rfl) (by kernel_rfl) (by kernel_rfl) (fun _ _ _ h => h) (Or.inl ⟨by rfl, fun W hW => by obtain ⟨z0, z1, z2, z3⟩ := hW; go_simp; try with_reducible rfl⟩) ⟨b0, b1, fcell, gcell⟩ ?_
              try simp only [Act.put, List.setIfInBounds_toArray, List.set_cons_zero, List.set_cons_succ]
              refine wtake3 (by kernel_rfl) (by kernel_rfl) (by kernel_rfl) (fun _ _ _ h => h) (Or.inl ⟨by rfl, fun W hW => by obtain ⟨z0, z1, z2, z3⟩ := hW; go_simp; try with_reducible rfl⟩) ⟨b0, b1, fcell, gcell⟩ ?_
              try simp only [Act.put, List.setIfInBounds_toArray, List.set_cons_zero, List.set_cons_succ]
              refine wtake4 (by kernel_rfl) (by kernel_rfl) (by kernel_rfl) (fun _ _ _ h => h) (Or.inl ⟨by rfl, fun W hW => by obtain ⟨z0, z1, z2, z3⟩ := hW; go_simp; try with_reducible rfl⟩) ⟨b0, b1, fcell, gcell⟩ ?_
              try simp only [Act.put, List.setIfInBounds_toArray, List.set_cons_zero, List.set_cons_succ]
              refine wtake5 (by kernel_rfl) (by kernel_rfl) (by kernel_rfl) (fun _ _ _ h => h) (Or.inl ⟨by rfl, fun W hW => by obtain ⟨z0, z1, z2, z3⟩ := hW; go_simp; try with_reducible rfl⟩) ⟨b0, b1, fcell, gcell⟩ ?_
              try simp only [Act.put, List.setIfInBounds_toArray, List.set_cons_zero, List.set_cons_succ]
              refine wtake6 (by kernel_rfl) (by kernel_rfl) (by kernel_rfl) (fun _ _ _ h => h) (Or.inl ⟨by rfl, fun W hW => by obtain ⟨z0, z1, z2, z3⟩ := hW; go_simp; try with_reducible rfl⟩) ⟨b0, b1, fcell, gcell⟩ ?_
              try simp only [Act.put, List.setIfInBounds_toArray, List.set_cons_zero, List.set_cons_succ]
              refine wtake7 (by kernel_rfl) (by kernel_rfl) (by kernel_rfl) (fun _ _ _ h => h) (Or.inl ⟨by rfl, fun W hW => by obtain ⟨z0, z1, z2, z3⟩ := hW; go_simp; try with_reducible rfl⟩) ⟨b0, b1, fcell, gcell⟩ ?_
              try simp only [Act.put, List.setIfInBounds_toArray, List.set_cons_zero, List.set_cons_succ]
              refine wtake8 (by kernel_rfl) (by kernel_rfl) (by kernel_rfl) (fun _ _ _ h => h) (Or.inl ⟨by rfl, fun W hW => by obtain ⟨z0, z1, z2, z3⟩ := hW; go_simp; try with_reducible rfl⟩) ⟨b0, b1, fcell, gcell⟩ ?_
              try simp only [Act.put, List.setIfInBounds_toArray, List.set_cons_zero, List.set_cons_succ]
              refine wtake9 (by kernel_rfl) (by kernel_rfl) (by kernel_rfl) (fun _ _ _ h => h) (Or.inl ⟨by rfl, fun W hW => by obtain ⟨z0, z1, z2, z3⟩ := hW; go_simp; try with_reducible rfl⟩) ⟨b0, b1, fcell, gcell⟩ ?_
              try simp only [Act.put, List.setIfInBounds_toArray, List.set_cons_zero, List.set_cons_succ]
              refine wtake10 (by kernel_rfl) (by kernel_rfl) (by kernel_rfl) (fun _ _ _ h => h) (Or.inl ⟨by rfl, fun W hW => by obtain ⟨z0, z1, z2, z3⟩ := hW; go_simp; try with_reducible rfl⟩) ⟨b0, b1, fcell, gcell⟩ ?_
              try simp only [Act.put, List.setIfInBounds_toArray, List.set_cons_zero, List.set_cons_succ]
              refine wtake11 (by kernel_rfl) (by kernel_rfl) (by kernel_rfl) (fun _ _ _ h => h) (Or.inl ⟨by rfl, fun W hW => by obtain ⟨z0, z1, z2, z3⟩ := hW; go_simp; try with_reducible rfl⟩) ⟨b0, b1, fcell, gcell⟩ ?_
              try simp only [Act.put, List.setIfInBounds_toArray, List.set_cons_zero, List.set_cons_succ]
              refine wtake12 (by kernel_rfl) (by kernel_rfl) (by kernel_rfl) (fun _ _ _ h => h) (Or.inl ⟨by rfl, fun W hW => by obtain ⟨z0, z1, z2, z3⟩ := hW; go_simp; try with_reducible rfl⟩) ⟨b0, b1, fcell, gcell⟩ ?_
              try simp only [Act.put, List.setIfInBounds_toArray, List.set_cons_zero, List.set_cons_succ]
              refine wtake13 (by kernel_rfl) (by kernel_rfl) (by kernel_rfl) (fun _ _ _ h => h) (Or.inl ⟨by rfl, fun W hW => by obtain ⟨z0, z1, z2, z3⟩ := hW; go_simp; try with_reducible rfl⟩) ⟨b0, b1, fcell, gcell⟩ ?_
              try simp only [Act.put, List.setIfInBounds_toArray, List.set_cons_zero, List.set_cons_succ]
              refine wtake14 (by kernel_rfl) (by kernel_rfl) (by kernel_rfl) (fun _ _ _ h => h) (Or.inl ⟨by rfl, fun W hW => by obtain ⟨z0, z1, z2, z3⟩ := hW; go_simp; try with_reducible rfl⟩) ⟨b0, b1, fcell, gcell⟩ ?_
              try simp only [Act.put, List.setIfInBounds_toArray, List.set_cons_zero, List.set_cons_succ]
              refine wpAnyH_ready (rs := [15]) (by kernel_rfl) (by simp) ?_
              refine wcons15 (fun K hK => ?_) AllReadyH.nil
              go_simp
              refine (ring_take0 HPM.out (by omega) 0 0 0 0 ⟨#[]⟩ HOK.out).mono ?_
              rintro e w4 ⟨rfl, p', hp', hf', hle'⟩
              have HN := hide (HWd.out.step (M' := i + 1) HI.out hp' hf' (Nat.le_refl _) (by omega))
              have y0 : w4.cell? ⟨w.heap.size, 0, none⟩ = some (.slice (some ⟨fb, fo, none⟩) L.length rc) := (hf'.fr.cell (a := ⟨w.heap.size, 0, none⟩) hwl hwx.out).trans b0
              have y1 : w4.cell? ⟨w.heap.size, 1, none⟩ = some (.slice (some ⟨gb, go, none⟩) L.length gc) := (hf'.fr.cell (a := ⟨w.heap.size, 1, none⟩) hwl hwx.out).trans b1
              have y2 : w4.cell? ⟨fb, fo + k, none⟩ = some (.pointer (some ⟨p3.sb, 0, none⟩)) := (hf'.fr.cell (a := ⟨fb, fo + k, none⟩) hfl hfx.out).trans fcell
              have y3 : w4.cell? ⟨gb, go + k, none⟩ = some (.pointer (some ⟨p3.qb, 0, none⟩)) := (hf'.fr.cell (a := ⟨gb, go + k, none⟩) hgl hgx.out).trans gcell
              clear hp' hf'
              go_wp2_with fail
              refine hK.out _ _ ⟨y0, y1, y2, y3⟩ (fun _ => ?_)
              clear hK K
              try simp only [Act.put, List.setIfInBounds_toArray, List.set_cons_zero, List.set_cons_succ]
              refine wtake16 (by kernel_rfl) (by kernel_rfl) (by kernel_rfl) (fun _ _ _ h => h) (Or.inl ⟨by rfl, fun W hW => by obtain ⟨z0, z1, z2, z3⟩ := hW; go_simp; try with_reducible rfl⟩) ⟨y0, y1, y2, y3⟩ ?_
              try simp only [Act.put, List.setIfInBounds_toArray, List.set_cons_zero, List.set_cons_succ]
              refine wpAnyH_done (by kernel_rfl) ?_ _
              have HF4 := hide (HFd.out.past HN.out.2)
              have HW4 := hide HN.out.1
              clear HN y0 y1 y2 y3 b0 b1 fcell gcell
              go_wp2_with fail
              exact ⟨⟨j + 1, L3.set k p', by omega, rfl, by go_num, by rw [List.length_set]; exact hl3, HW4, HF4⟩, by simp [intOf]; omega⟩
            · have hj' : j = p.Q.fs.length + 1 := by omega
              subst hj'
              have hI3 : ¬ ((p.Q.fs.length : Int) + 1) < (p.Q.fs.length : Int) + 1 := by omega
              have hI4 : ¬ (((p.Q.fs.length + 1 : Nat) : Int)) < (p.Q.fs.length : Int) + 1 := by omega
              go_wp2_with fail
              refine (views_any HW.out (by omega) (by omega) k (by omega)).mono ?_
              rintro e w5 ⟨rfl, hF5⟩
              have HF5 := hide (HF.out.trans hF5)
              have HW5 := hide (HW.out.quiet hF5)
              clear hF5
              go_wp2_with fail
              exact ⟨⟨k + 1, L3, by omega, rfl, by go_num, hl3, HW5, HF5⟩, by simp [intOf]; omega⟩
        · have hk' : k = L.length := by omega
          subst hk'
          have hI2 : ¬ (L.length : Int) < (L.length : Int) := by omega
          go_wp2_with fail
          go_loopw [6, 11] (fun ov iv wr => ov = .bool true ∧ iv = .int .i64 0 ∧ Hid (WM wr w.heap.size w.heap.size L2 (i + 1) (.slice ra L.length rc) qv) ∧ Hid (Fr Zero w wr)) (fun _ _ _ => 0)
          case atStart => exact ⟨rfl, rfl, HW, HF⟩
          case round =>
            clear a0 a1 a2 HW HF
            obtain ⟨rfl, rfl, HW, HF⟩ := hrel
            have a2 := HW.out.at2
            go_wp2_with fail
            go_ret
            exact ⟨rfl, HF⟩

set_option maxHeartbeats 4000000 in
theorem rings_any (w : World) (o : Option Addr) (n c : Nat) (hS : ScriptAt w o n) (hn : n ≤ 2600000000000) :
    Calls Tryz.prog 11 #[.slice o n c] w fun e w' => e = .returned (.bool true) ∧ Fr Zero w w' := by
  have HS := hide hS
  clear hS
  go_enter Tryz.func11, Tryz.ntmps11
  go_wp2_with fail
  refine (plays_any w o n c HS.out hn).mono ?_
  rintro e w1 ⟨rfl, hF1⟩
  have HF1 := hide hF1
  clear hF1
  go_wp2_with fail
  go_ret
  exact ⟨rfl, HF1⟩

end Go.Proofs.YtnhkalnihjkoeaaGreatDoor.Q
