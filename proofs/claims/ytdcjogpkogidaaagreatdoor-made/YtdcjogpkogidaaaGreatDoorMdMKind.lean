/- The maker's values: lists, options, records, choices. -/
import Derived.Test.YtdcjogpkogidaaaGreatDoorMdMPart
namespace Go.Proofs.YtdcjogpkogidaaaGreatDoor.Q
open Go.RowKit

/-- A type's parts in memory. -/
structure KidAt (w : World) (X : Nat → Prop) (k b : Nat) (t : PT) (sa : Option Addr) (m sc : Nat) : Prop where
  c0 : w.cell? ⟨b, 0, none⟩ = some (.int .i64 t.kind)
  c1 : w.cell? ⟨b, 1, none⟩ = some (.slice sa m sc)
  lt : b < w.heap.size
  nx : ¬ X b
  len : m = t.subs.length
  kid : ∀ i u, t.subs[i]? = some u → ∃ (fb off : Nat) (c : Addr), sa = some ⟨fb, off, none⟩ ∧ ¬ X fb ∧ w.cell? ⟨fb, off + i, none⟩ = some (.pointer (some c)) ∧ SRep w X k c u
theorem SRep.kids {w : World} {X : Nat → Prop} {k : Nat} {a : Addr} {t : PT} (h : SRep w X (k + 1) a t) : ∃ (b : Nat) (sa : Option Addr) (m sc : Nat), a = ⟨b, 0, none⟩ ∧ KidAt w X k b t sa m sc := by
  obtain ⟨b, sv, rows, h1, h2, h3, h4, h5, h6, h7⟩ := h
  obtain ⟨sa, sc, rfl⟩ := h4.len
  refine ⟨b, sa, rows.length, sc, h1, (cell_of_heap (o := 0) h2).trans rfl, (cell_of_heap (o := 1) h2).trans rfl, lt_of_heap h2, h3, h6, fun i u hu => ?_⟩
  have hi : i < rows.length := by have := (List.getElem?_eq_some_iff.1 hu).1; omega
  obtain ⟨fb, off, cap, e, hc⟩ := h4.at_ (j := i) (u := sptr rows[i]) (by rw [List.getElem?_map, List.getElem?_eq_getElem hi]; rfl)
  simp at e
  obtain ⟨rfl, rfl⟩ := e
  exact ⟨fb, off, rows[i], rfl, h5 fb rfl, hc, h7 i _ u (List.getElem?_eq_getElem hi) hu⟩
theorem KidAt.keep {w w' : World} {X : Nat → Prop} {k b : Nat} {t : PT} {sa : Option Addr} {m sc : Nat} (h : KidAt w X k b t sa m sc) (hf : Fr X w w') : KidAt w' X k b t sa m sc :=
  ⟨(hf.cell (a := ⟨b, 0, none⟩) h.lt h.nx).trans h.c0, (hf.cell (a := ⟨b, 1, none⟩) h.lt h.nx).trans h.c1, Nat.lt_of_lt_of_le h.lt hf.size, h.nx, h.len, fun i u hu => by
    obtain ⟨fb, off, c, e1, e2, e3, e4⟩ := h.kid i u hu
    exact ⟨fb, off, c, e1, e2, (hf.cell (a := ⟨fb, off + i, none⟩) (World.block_lt_of_cell? _ _ e3) e2).trans e3, SRep.keep hf _ _ _ e4⟩⟩
/-- All that is held while a value's parts are made. -/
structure KInv (w wr : World) (B B2 mb : Nat) (tv : Value) (n : Nat) (ways : List (Bs × Bs)) (nums : List (Bs × Int)) (sz k : Nat) (T : PT) (sub : Nat → PT) (p st : Bs) (num : Int) (i : Nat) (vs : List PV) (n' sz' : Nat) (acc bacc : Bs) (b : Nat) (sa : Option Addr) (m sc : Nat) : Prop where
  pi : PInv w wr B B2 mb tv n ways nums sz k T sub p st num i vs n' sz' acc bacc
  ki : KidAt wr (MF mb B2) k b T sa m sc
  hB : B ≤ mb
  hBB : B ≤ B2
  h2 : B2 ≤ w.heap.size
  rm : VRoom 1 n ways nums sz (k + 1) p st
section
variable {w wr w' : World} {B B2 mb n sz k i n1 sz1 b m sc : Nat} {tv : Value} {ways : List (Bs × Bs)} {nums : List (Bs × Int)} {T : PT} {sub : Nat → PT} {p st acc bacc : Bs} {num : Int} {vs : List PV} {sa : Option Addr}
theorem KInv.quiet (h : KInv w wr B B2 mb tv n ways nums sz k T sub p st num i vs n1 sz1 acc bacc b sa m sc) (hf : Fr Zero wr w') : KInv w w' B B2 mb tv n ways nums sz k T sub p st num i vs n1 sz1 acc bacc b sa m sc :=
  ⟨h.pi.quiet hf, h.ki.keep hf.of0, h.hB, h.hBB, h.h2, h.rm⟩
/-- A part may be made. -/
theorem KInv.call (HV : ValSaid k) (h : KInv w wr B B2 mb tv n ways nums sz k T sub p st num i vs n1 sz1 acc bacc b sa m sc) (hi : i ≤ 2) {c : Addr} (hs : SRep wr (MF mb B2) k c (sub i)) (hm : MadeT k (sub i)) {x y : Bs} (hx : x.length ≤ 20) (hy : y.length ≤ 20) :
    Calls Tryz.prog 14 #[.pointer (some ⟨mb, 0, none⟩), .pointer (some c), .string (ba (under p x)), .string (ba (under st y))] wr fun e w' => ValPost wr B2 mb tv n1 (ways ++ wayK k p T num vs) (nums ++ numK k st T num vs) sz1 k (sub i) (under p x) (under st y) e w' := by
  have u1 := under_size p x
  have u2 := under_size st y
  exact HV wr B B2 mb tv n1 _ _ sz1 c (sub i) (under p x) (under st y) ⟨h.pi.mz, h.pi.tp, hs, hm, h.hB, h.hBB, Nat.le_trans h.h2 h.pi.fr.size⟩ (h.rm.part hi h.pi.cn h.pi.cs h.pi.ck h.pi.cu (by omega) (by omega))
theorem KInv.more (h : KInv w wr B B2 mb tv n ways nums sz k T sub p st num i vs n1 sz1 acc bacc b sa m sc) {v : PV} {n2 sz2 : Nat} {pp ss : Bs} (hp : pp = under p (stepOf T num i)) (hs : ss = under st (starOf T num i))
    (ho : ValOut wr B2 mb tv n1 (ways ++ wayK k p T num vs) (nums ++ numK k st T num vs) sz1 k (sub i) pp ss v n2 sz2 w') :
    KInv w w' B B2 mb tv n ways nums sz k T sub p st num (i + 1) (vs ++ [v]) n2 sz2 (acc ++ (if i = 0 then [] else [44]) ++ wText k v) (bacc ++ wMsg k v) b sa m sc :=
  ⟨h.pi.more h.hB h.hBB hp hs ho, h.ki.keep ho.fr, h.hB, h.hBB, h.h2, h.rm⟩
end

theorem made_one {k : Nat} {t : PT} (h : MadeT (k + 1) t) (hk : t.kind = 7 ∨ t.kind = 8) : ∃ u, MadeT k u ∧ t.subs = [u] := by
  rcases h with ⟨h7, _⟩ | ⟨_, u, hu, e⟩ | ⟨h9, _⟩
  · omega
  · exact ⟨u, hu, by rw [e]; rfl⟩
  · omega
theorem made_several {k : Nat} {t : PT} (h : MadeT (k + 1) t) (hk : t.kind = 9 ∨ t.kind = 10) : ∃ l : List PT, t.subs = l ∧ 1 ≤ l.length ∧ l.length ≤ 3 ∧ (∀ u ∈ l, MadeT k u) ∧ ∀ i, i < l.length → t.name i = [UInt8.ofNat (97 + i)] := by
  rcases h with ⟨h7, _⟩ | ⟨h7, _⟩ | ⟨_, l, h1, h2, h3, e⟩
  · omega
  · omega
  · refine ⟨l, by rw [e]; exact named_subs l 0, h1, h2, h3, fun i hi => ?_⟩
    have hn : t.names[i]? = some (nm i) := by
      rw [e]
      show ((named 0 l).map (·.1))[i]? = _
      rw [List.getElem?_map, named_at l 0 i _ (List.getElem?_eq_getElem hi), Nat.zero_add]
      rfl
    unfold PT.name
    rw [hn]
    exact (nm_fine i (by omega)).2.2.1

set_option maxHeartbeats 16000000 in
set_option maxRecDepth 100000 in
theorem sevM_list {k : Nat} (HV : ValSaid k) {w : World} {B B2 mb : Nat} {tv : Value} {n : Nat} {ways : List (Bs × Bs)} {nums : List (Bs × Int)} {sz : Nat} {a : Addr} {t : PT} {p st : Bs} (h : VIn w B B2 mb tv n ways nums sz (k + 1) a t) (hr : VRoom 1 n ways nums sz (k + 1) p st) (hk : t.kind = 7) :
    Calls Tryz.prog 24 #[.pointer (some ⟨mb, 0, none⟩), .pointer (some a), .string (ba p), .string (ba st)] w fun e w' => SevPost w B2 mb tv n ways nums sz k t p st e w' := by
  obtain ⟨b, sa, m, sc, rfl, hK⟩ := h.sr.kids
  obtain ⟨u, hmu, hsub⟩ := made_one h.md (.inl hk)
  have hsub0 : t.sub 0 = u := by unfold PT.sub; rw [hsub]; rfl
  have hm1 : m = 1 := by rw [hK.len, hsub]; rfl
  subst hm1
  have hu0 : t.subs[0]? = some u := by rw [hsub]; rfl
  obtain ⟨fb, off, c, rfl, hxf, hcc, hSc⟩ := hK.kid 0 u hu0
  have hxb := hK.nx
  have c0 := hK.c0
  rw [hk] at c0
  have r1 := hr.n
  have r4 := hr.sz
  have hcp := CM_pos k
  have hcs := CM_succ k
  have H := hide h
  have HR := hide hr
  have HVV := hide HV
  have HK := hide hk
  have HMU := hide hmu
  obtain ⟨pv, qv, nv, hM⟩ := h.mz
  have HM := hide hM
  have hlt := hM.lt
  have hbl := hK.lt
  have hC := next_any hM.bk h.tp h.hB (by omega) 4 (by omega) (by omega)
  have HC := hide hC
  have HKA := hide hK
  have HU0 := hide hu0
  have HS0 := hide hsub0
  have HCC := hide hcc
  have HSC := hide hSc
  clear h hr hk hM HV hK hSc hcc hC hmu hsub hu0 hsub0
  go_enter Tryz.func24, Tryz.ntmps24
  go_wp2_with fail
  refine HC.out.mono ?_
  rintro e w1 ⟨⟨r, hr, rfl⟩, hF1, hM1⟩
  have c5 := hM1.at5
  have HF1 : Hid (Fr (MF mb B2) w w1) := hF1.mono (fun k _ e => .inl e)
  have HT1 := hide (H.out.tp.keep HF1.out (fun k hk e => by have := H.out.hB; have := H.out.hBB; rcases e with e | e <;> omega))
  have HMZ : Hid (MZ w1 B2 mb tv (n + 1) ways nums sz) := ⟨pv, qv, nv, HM.out.one hF1 hM1⟩
  have HI1 : Hid (KInv w w1 B B2 mb tv n ways nums sz k t (fun _ => u) p st 0 0 [] (n + 1) sz [] [] b (some ⟨fb, off, none⟩) 1 sc) := ⟨PInv.start HF1.out HT1.out HMZ.out (by omega), HKA.out.keep HF1.out, H.out.hB, H.out.hBB, H.out.h2, HR.out⟩
  clear hF1 hM1 HC HM HMZ HT1 HF1
  by_cases hz : 60 < sz
  · have hzI : (60 : Int) < (sz : Int) := by omega
    have hcv : (convert 24 9 (.slice (some ⟨w1.heap.size, 0, none⟩) 1 1)).run Tryz.prog (w1.alloc (.cells #[.int .u8 0] 5)) = .ok (.string (ba [0])) (w1.alloc (.cells #[.int .u8 0] 5)) := conv_at (b := 0) (heap_new_at rfl _)
    have HI2 := hide (HI1.out.quiet (Fr.alloc Zero w1 (.cells #[.int .u8 0] 5)))
    clear HI1
    go_wp2_with fail
    generalize w1.alloc (.cells #[.int .u8 0] 5) = w2 at *
    go_loopw [13, 14, 15, 16, 17] (fun tx bx iv _ _ wr => tx = .string ⟨#[]⟩ ∧ bx = .string (ba [0]) ∧ iv = .int .i64 0 ∧ wr = w2) (fun _ _ _ _ _ _ => 0)
    case atStart => exact ⟨rfl, rfl, rfl, rfl⟩
    case round =>
      obtain ⟨rfl, rfl, rfl, rfl⟩ := hrel
      go_wp2_with fail
      go_ret2
      have hk := HK.out
      have e1 : wText (k + 1) (vParts t 0 []) = [91, 93] := by unfold vParts; rw [wText_mk, if_neg (by omega), if_neg (by omega), if_neg (by omega), if_neg (by omega), if_pos hk]; rfl
      have e2 : wMsg (k + 1) (vParts t 0 []) = [0] := by unfold vParts; rw [wMsg_mk, if_neg (by omega), if_neg (by omega), if_neg (by omega), if_neg (by omega), if_pos (by omega)]; rfl
      refine ⟨vParts t 0 [], n + 1, sz, ?_, HI2.out.pi.out (by omega) (by omega) ⟨rfl, ?_⟩ (by rw [e1]; simp) (by rw [e2]; simp)⟩
      · rw [e1, e2]; rfl
      · rw [if_neg (by omega), if_neg (by omega), if_neg (by omega), if_neg (by omega), if_neg (by omega), if_pos hk]
        exact ⟨rfl, rfl, by simp [vParts], fun x hx => by simp [vParts] at hx⟩
  · have hzI : ¬ (60 : Int) < (sz : Int) := by omega
    obtain ⟨d, rfl⟩ := u8_of (r := r) (by omega)
    have hcv := conv_at (b := d) (k := w1.heap.size) (w := w1.alloc (.cells #[.int .u8 d.toNat] 5)) (heap_new_at rfl _)
    have HI2 := hide (HI1.out.quiet (Fr.alloc Zero w1 (.cells #[.int .u8 d.toNat] 5)))
    clear HI1
    go_wp2_with fail
    generalize w1.alloc (.cells #[.int .u8 d.toNat] 5) = w2 at *
    go_loopw [13, 14, 15, 16, 17] (fun tx bx iv _ _ wr => ∃ (i n' sz' : Nat) (vs : List PV) (acc bacc : Bs), i ≤ d.toNat ∧ iv = .int .i64 i ∧ tx = .string (ba acc) ∧ bx = .string (ba (d :: bacc)) ∧ acc.length ≤ 100000000 ∧ bacc.length ≤ 100000000 ∧ Hid (KInv w wr B B2 mb tv n ways nums sz k t (fun _ => u) p st 0 i vs n' sz' acc bacc b (some ⟨fb, off, none⟩) 1 sc)) (fun _ _ iv _ _ _ => d.toNat - (intOf iv).toNat)
    case atStart => exact ⟨0, n + 1, sz, [], [], [], by omega, rfl, rfl, rfl, by simp, by simp, HI2⟩
    case round =>
      obtain ⟨i, n', sz', vs, acc, bacc, hi, rfl, rfl, rfl, hal, hbl2, HI⟩ := hrel
      have hzb : (ba (d :: bacc)).size = bacc.length + 1 := ba_size _
      by_cases hid : i < d.toNat
      · have hidI : (i : Int) < (d.toNat : Int) := by omega
        have d1 := HI.out.ki.c1
        have d2 : wr.cell? ⟨fb, off, none⟩ = some (.pointer (some c)) := (HI.out.pi.fr.cell (a := ⟨fb, off, none⟩) (World.block_lt_of_cell? _ _ HCC.out) hxf).trans HCC.out
        have HG : Hid (Fr Zero wr wr.drew) := Fr.drew _ _
        have hd20 := decN_len 20 i
        have HP1 : Hid (p.length ≤ 1000000) := by have := HR.out.p; show _ ≤ _; omega
        have HP2 : Hid (st.length ≤ 1000000) := by have := HR.out.st; show _ ≤ _; omega
        have HD1 : Hid ((decN 20 i).length ≤ 1000000) := by show _ ≤ _; omega
        have HD2 : Hid (([42] : Bs).length ≤ 1000000) := by show _ ≤ _; simp
        have HST : Hid (under p (decN 20 i) = under p (stepOf t 0 i)) := by show _ = _; unfold stepOf; rw [if_pos HK.out]
        have HSA : Hid (under st [42] = under st (starOf t 0 i)) := by show _ = _; unfold starOf; rw [if_pos HK.out]
        have HVC : Hid (∀ W, Fr Zero wr W → Calls Tryz.prog 14 #[.pointer (some ⟨mb, 0, none⟩), .pointer (some c), .string (ba (under p (decN 20 i))), .string (ba (under st [42]))] W fun e w' => ValPost W B2 mb tv n' (ways ++ wayK k p t 0 vs) (nums ++ numK k st t 0 vs) sz' k u (under p (decN 20 i)) (under st [42]) e w') := fun W hf =>
          (HI.out.quiet hf).call (sub := fun _ => u) HVV.out (by omega) (SRep.keep (HI.out.pi.fr.trans hf.of0) _ _ _ HSC.out) HMU.out (by omega) (by simp)
        have hca := HI.out.pi.ct
        have hcb := HI.out.pi.cm
        have hm1 : i * (CM k + 1) ≤ 2 * (CM k + 1) := Nat.mul_le_mul_right _ (by omega)
        have hm2 : i * CM k ≤ 2 * CM k := Nat.mul_le_mul_right _ (by omega)
        clear hd20
        by_cases hi0 : i = 0
        · have hz1 := ba_size acc
          have HSEP : Hid ((if i = 0 then ([] : Bs) else [44]) = []) := if_pos hi0
          subst hi0
          go_wp2_with fail
          go_region_held3 (fun W => W.cell? ⟨b, 1, none⟩ = some (.slice (some ⟨fb, off, none⟩) 1 sc) ∧ W.cell? ⟨fb, off, none⟩ = some (.pointer (some c))) (first | exact ⟨by assumption, by assumption⟩) (first | (go_at_call 40; refine (kdecimal_any 0 (by omega) _).mono ?_; rintro e w4 ⟨rfl, hF4⟩; replace d1 := (hF4.cell (a := ⟨b, 1, none⟩) (World.block_lt_of_cell? _ _ d1) (fun h => h)).trans d1; replace d2 := (hF4.cell (a := ⟨fb, off, none⟩) (World.block_lt_of_cell? _ _ d2) (fun h => h)).trans d2; replace HG := hide (HG.out.trans hF4); clear hF4) | (go_at_call 39; refine (kunder_any _ _ (by first | exact HP1.out | exact HP2.out) (by first | exact HD1.out | exact HD2.out) _).mono ?_; rintro e w' ⟨rfl, rfl⟩) | (go_at_call 14; refine (HVC.out _ HG.out).mono ?_; rintro e w5 ⟨v, n2, sz2, rfl, ho⟩; replace d1 := (ho.fr.cell (a := ⟨b, 1, none⟩) (World.block_lt_of_cell? _ _ d1) hxb).trans d1; replace d2 := (ho.fr.cell (a := ⟨fb, off, none⟩) (World.block_lt_of_cell? _ _ d2) hxf).trans d2; have HI5 := hide ((HI.out.quiet HG.out).more HST.out HSA.out ho); have hct := ho.ct; have hcm := ho.cm; have hzx := ba_size (wText k v); have hzm := ba_size (wMsg k v); have n1 : ¬ 9223372036854775807 < acc.length + (wText k v).length := (by omega); have n2' : ¬ 9223372036854775807 < bacc.length + 1 + (wMsg k v).length := (by omega); clear ho))
          all_goals
            go_wp2_with fail
            refine ⟨⟨0 + 1, n2, sz2, vs ++ [v], acc ++ wText k v, bacc ++ wMsg k v, by omega, rfl, by rw [ba_append], by rw [ba_append]; rfl, by rw [List.length_append]; omega, by rw [List.length_append]; omega, ?_⟩, by simp [intOf]; omega⟩
            exact hide (by simpa using HI5.out)
        · have a44 : ba acc ++ ⟨#[44]⟩ = ba (acc ++ [44]) := ba_append acc [44]
          have hz0 := ba_size acc
          have hz1 : (ba (acc ++ [44])).size = acc.length + 1 := by rw [ba_size]; simp
          have n0 : ¬ 9223372036854775807 < acc.length + 1 := by omega
          have hi0I : (0 : Int) < (i : Int) := by omega
          have HSEP : Hid ((if i = 0 then ([] : Bs) else [44]) = [44]) := if_neg hi0
          clear hi0
          go_wp2_with fail
          go_region_held3 (fun W => W.cell? ⟨b, 1, none⟩ = some (.slice (some ⟨fb, off, none⟩) 1 sc) ∧ W.cell? ⟨fb, off, none⟩ = some (.pointer (some c))) (first | exact ⟨by assumption, by assumption⟩) (first | (go_at_call 40; refine (kdecimal_any i (by omega) _).mono ?_; rintro e w4 ⟨rfl, hF4⟩; replace d1 := (hF4.cell (a := ⟨b, 1, none⟩) (World.block_lt_of_cell? _ _ d1) (fun h => h)).trans d1; replace d2 := (hF4.cell (a := ⟨fb, off, none⟩) (World.block_lt_of_cell? _ _ d2) (fun h => h)).trans d2; replace HG := hide (HG.out.trans hF4); clear hF4) | (go_at_call 39; refine (kunder_any _ _ (by first | exact HP1.out | exact HP2.out) (by first | exact HD1.out | exact HD2.out) _).mono ?_; rintro e w' ⟨rfl, rfl⟩) | (go_at_call 14; refine (HVC.out _ HG.out).mono ?_; rintro e w5 ⟨v, n2, sz2, rfl, ho⟩; replace d1 := (ho.fr.cell (a := ⟨b, 1, none⟩) (World.block_lt_of_cell? _ _ d1) hxb).trans d1; replace d2 := (ho.fr.cell (a := ⟨fb, off, none⟩) (World.block_lt_of_cell? _ _ d2) hxf).trans d2; have HI5 := hide ((HI.out.quiet HG.out).more HST.out HSA.out ho); have hct := ho.ct; have hcm := ho.cm; have hzx := ba_size (wText k v); have hzm := ba_size (wMsg k v); have n1 : ¬ 9223372036854775807 < acc.length + 1 + (wText k v).length := (by omega); have n2' : ¬ 9223372036854775807 < bacc.length + 1 + (wMsg k v).length := (by omega); clear ho))
          all_goals
            go_wp2_with fail
            refine ⟨⟨i + 1, n2, sz2, vs ++ [v], acc ++ [44] ++ wText k v, bacc ++ wMsg k v, by omega, by go_num, by rw [ba_append], by rw [ba_append]; rfl, by simp only [List.length_append, List.length_cons, List.length_nil]; omega, by rw [List.length_append]; omega, ?_⟩, by simp [intOf]; omega⟩
            exact hide (by have := HI5.out; rw [HSEP.out] at this; exact this)
      · have hidI : ¬ (i : Int) < (d.toNat : Int) := by omega
        obtain rfl : i = d.toNat := by omega
        have a1 : ⟨#[91]⟩ ++ ba acc = ba (91 :: acc) := ba_append [91] acc
        have a2 : ba (91 :: acc) ++ ⟨#[93]⟩ = ba (91 :: (acc ++ [93])) := ba_append (91 :: acc) [93]
        have z0 := ba_size acc
        have z2 : (ba (91 :: acc)).size = acc.length + 1 := ba_size _
        have n1 : ¬ 9223372036854775807 < 1 + acc.length := by omega
        have n2 : ¬ 9223372036854775807 < acc.length + 1 + 1 := by omega
        go_wp2_with fail
        go_ret2
        have hk := HK.out
        have hlen := HI.out.pi.len
        have e1 : wText (k + 1) (vParts t 0 vs) = 91 :: (acc ++ [93]) := by unfold vParts; rw [wText_mk, if_neg (by omega), if_neg (by omega), if_neg (by omega), if_neg (by omega), if_pos hk, HI.out.pi.ea]
        have e2 : wMsg (k + 1) (vParts t 0 vs) = d :: bacc := by
          unfold vParts
          rw [wMsg_mk, if_neg (by omega), if_neg (by omega), if_neg (by omega), if_neg (by omega), if_pos (by omega), HI.out.pi.eb, hlen]
          unfold wCount
          rw [if_pos (by omega), ofNat_toNat]
          rfl
        refine ⟨vParts t 0 vs, n', sz', ?_, HI.out.pi.out (by omega) (by omega) ⟨rfl, ?_⟩ (by rw [e1]; simp) (by rw [e2]; simp)⟩
        · rw [e1, e2]; rfl
        · rw [if_neg (by omega), if_neg (by omega), if_neg (by omega), if_neg (by omega), if_neg (by omega), if_pos hk]
          refine ⟨rfl, rfl, ?_, fun x hx => ?_⟩
          · show vs.length ≤ 300; omega
          · rw [HS0.out]
            obtain ⟨j, hj⟩ := List.mem_iff_getElem?.1 hx
            exact HI.out.pi.val j x hj

end Go.Proofs.YtdcjogpkogidaaaGreatDoor.Q
