/- The maker's texts and bytes. -/
import Derived.Deep.RegionHeld3
import Derived.Test.YtdcjogpkogidaaaGreatDoorMdMMake
namespace Go.Proofs.YtdcjogpkogidaaaGreatDoor.Q
open Go.RowKit

theorem BO.one {w : World} {B g : Nat} {b : UInt8} (h : w.heap[g]? = some (.cells #[.int .u8 b.toNat] 5 (0, 0))) (hB : B ≤ g) : BO w B (.slice (some ⟨g, 0, none⟩) 1 1) [b] :=
  ⟨⟨by simp [Lib.byteCells], .inr ⟨g, 1, _, rfl, Nat.zero_le _, h, by simp, by unfold maxLen; omega, by simp, by simp [Lib.byteCells]⟩⟩, fun g' hg => by simp [Value.ownBlock] at hg; omega⟩

/-- A maker at work at two rows of bytes. -/
structure TB (w wr : World) (B mb : Nat) (tv : Value) (n : Nat) (pv qv nv : Value) (sz : Nat) (sv bv : Value) (s b : Bs) : Prop where
  bk : MK wr mb tv n pv qv nv sz
  tp : TapeAt wr B tv
  fr : Fr (TX mb w) w wr
  so : BO wr w.heap.size sv s
  bo : BO wr w.heap.size bv b
  ap : ∀ g, sv.ownBlock = some g → bv.ownBlock ≠ some g
  lt : mb < w.heap.size
  hB : B ≤ mb
section
variable {w wr w' : World} {B mb n sz : Nat} {tv pv qv nv sv bv v' : Value} {s b more : Bs}
theorem TB.quiet (h : TB w wr B mb tv n pv qv nv sz sv bv s b) (hf : Fr Zero wr w') : TB w w' B mb tv n pv qv nv sz sv bv s b :=
  ⟨hf.keep h.bk (fun e => e), h.tp.keep hf (fun _ _ e => e), h.fr.trans hf.of0, h.so.keep hf (fun _ _ e => e), h.bo.keep hf (fun _ _ e => e), h.ap, h.lt, h.hB⟩
theorem TB.next (h : TB w wr B mb tv n pv qv nv sz sv bv s b) {n' : Nat} (hf : Fr (One mb) wr w') (hm : MK w' mb tv n' pv qv nv sz) : TB w w' B mb tv n' pv qv nv sz sv bv s b := by
  have h1 := h.lt
  have h2 := h.hB
  refine ⟨hm, h.tp.keep hf (fun k hk e => ?_), h.fr.trans (hf.mono (fun k _ e => .inl e)), h.so.keep hf (fun k hk e => ?_), h.bo.keep hf (fun k hk e => ?_), h.ap, h1, h2⟩
  all_goals
    have e' : k = mb := e
    omega
theorem TB.ss (h : TB w wr B mb tv n pv qv nv sz sv bv s b) (hb : BO w' w.heap.size v' (s ++ more)) (hf : Fr (Owned sv) wr w') (hv : ∀ k, k < wr.heap.size → v'.ownBlock = some k → sv.ownBlock = some k) : TB w w' B mb tv n pv qv nv sz v' bv (s ++ more) b := by
  have h1 := h.lt
  have h2 := h.hB
  have hx : ∀ k, Owned sv k → w.heap.size ≤ k := fun k e => h.so.from_ k e
  refine ⟨hf.keep h.bk (fun e => ?_), h.tp.keep hf (fun k hk e => ?_), h.fr.trans (hf.mono (fun k _ e => .inr (hx k e))), hb, ⟨ownsRow_keep h.bo.own hf (fun g hg e => h.ap g e hg), h.bo.from_⟩, fun g hg e => ?_, h1, h2⟩
  · have := hx _ e; omega
  · have := hx _ e; omega
  · exact h.ap g (hv g (h.bo.lt e) hg) e
theorem TB.bb (h : TB w wr B mb tv n pv qv nv sz sv bv s b) (hb : BO w' w.heap.size v' (b ++ more)) (hf : Fr (Owned bv) wr w') (hv : ∀ k, k < wr.heap.size → v'.ownBlock = some k → bv.ownBlock = some k) : TB w w' B mb tv n pv qv nv sz sv v' s (b ++ more) := by
  have h1 := h.lt
  have h2 := h.hB
  have hx : ∀ k, Owned bv k → w.heap.size ≤ k := fun k e => h.bo.from_ k e
  refine ⟨hf.keep h.bk (fun e => ?_), h.tp.keep hf (fun k hk e => ?_), h.fr.trans (hf.mono (fun k _ e => .inr (hx k e))), ⟨ownsRow_keep h.so.own hf (fun g hg e => h.ap g hg e), h.so.from_⟩, hb, fun g hg e => ?_, h1, h2⟩
  · have := hx _ e; omega
  · have := hx _ e; omega
  · exact h.ap g hg (hv g (h.so.lt hg) e)
theorem TB.size (h : TB w wr B mb tv n pv qv nv sz sv bv s b) : w.heap.size ≤ wr.heap.size := h.fr.size
end

def MTxtPost (w : World) (mb : Nat) (tv : Value) (n : Nat) (pv qv nv : Value) (sz : Nat) (f : Bs → Bs) (P : Bs → Prop) (e : Ending) (w' : World) : Prop :=
  ∃ (cs : Bs) (n' : Nat), e = .returned (.tuple #[.string (ba (f cs)), .string (ba (UInt8.ofNat cs.length :: cs))]) ∧ Fr (TX mb w) w w' ∧ MK w' mb tv n' pv qv nv sz ∧ n' ≤ n + 5 ∧ cs.length ≤ 4 ∧ P cs

theorem ofNat_toNat (d : UInt8) : UInt8.ofNat d.toNat = d := by simp
theorem u8_of {r : Nat} (h : r < 256) : ∃ d : UInt8, r = d.toNat := ⟨UInt8.ofNat r, (toNat_ofNat h).symm⟩

set_option maxHeartbeats 16000000 in
set_option maxRecDepth 100000 in
theorem mtext_any {w : World} {B mb n sz : Nat} {tv pv qv nv : Value} (h : MK w mb tv n pv qv nv sz) (hT : TapeAt w B tv) (hB : B ≤ mb) (hn : n ≤ 100000000) :
    Calls Tryz.prog 37 #[.pointer (some ⟨mb, 0, none⟩)] w fun e w' => MTxtPost w mb tv n pv qv nv sz (fun cs => 34 :: (wQuo cs ++ [34])) (fun cs => ∀ b ∈ cs, 32 ≤ b.toNat ∧ b.toNat ≤ 126) e w' := by
  have hlt := h.lt
  go_enter Tryz.func37, Tryz.ntmps37
  go_wp2_with fail
  refine (next_any h hT hB (by omega) 5 (by omega) (by omega)).mono ?_
  rintro e w1 ⟨⟨r, hr, rfl⟩, hF1, hM1⟩
  obtain ⟨d, rfl⟩ := u8_of (r := r) (by omega)
  have hs1 := hF1.size
  have HT1 : Hid (TB w (w1.alloc (.cells #[.int .u8 d.toNat] 5)) B mb tv (n + 1) pv qv nv sz (.slice none 0 0) (.slice (some ⟨w1.heap.size, 0, none⟩) 1 1) [] [d]) :=
    ⟨(Fr.alloc Zero _ _).keep hM1 (fun e => e), (hT.keep hF1 (fun k hk e => by have e' : k = mb := e; omega)).keep (Fr.alloc Zero _ _) (fun _ _ e => e), (hF1.mono (fun k _ e => .inl e)).trans (Fr.alloc _ _ _), BO.nil _ _, BO.one (heap_new_at rfl _) hs1, fun g hg => by simp [Value.ownBlock] at hg, hlt, hB⟩
  clear h hT hF1 hM1
  go_wp2_with fail
  generalize w1.alloc (.cells #[.int .u8 d.toNat] 5) = w2 at *
  go_loopw [5, 6, 7, 8] (fun sv bv iv _ wr => ∃ (k n' : Nat) (cs : Bs), k ≤ d.toNat ∧ cs.length = k ∧ iv = .int .i64 k ∧ n' ≤ n + 1 + k ∧ Hid (∀ b ∈ cs, 32 ≤ b.toNat ∧ b.toNat ≤ 126) ∧ Hid (TB w wr B mb tv n' pv qv nv sz sv bv (wQuo cs) (d :: cs))) (fun _ _ iv _ _ => d.toNat - (intOf iv).toNat)
  case atStart => exact ⟨0, n + 1, [], by omega, rfl, rfl, by omega, fun b hb => by simp at hb, HT1⟩
  case round =>
    obtain ⟨k, n', cs, hk, hcl, rfl, hn', HP, HI⟩ := hrel
    by_cases hkd : k < d.toNat
    · have hkI : (k : Int) < (d.toNat : Int) := by omega
      go_wp2_with fail
      refine (next_any HI.out.bk HI.out.tp hB (by omega) 95 (by omega) (by omega)).mono ?_
      rintro e w3 ⟨⟨r2, hr2, rfl⟩, hF3, hM3⟩
      have HI3 := hide (HI.out.next hF3 hM3)
      obtain ⟨c, hc⟩ := u8_of (r := 32 + r2) (by omega)
      have hcI : (32 : Int) + (r2 : Int) = (c.toNat : Int) := by omega
      have hc1 : 32 ≤ c.toNat := by omega
      have hc2 : c.toNat ≤ 126 := by omega
      have HP2 : Hid (∀ b ∈ cs ++ [c], 32 ≤ b.toNat ∧ b.toNat ≤ 126) := fun b hb => by
        rcases List.mem_append.1 hb with hb | hb
        · exact HP.out b hb
        · rw [List.mem_singleton] at hb; subst hb; exact ⟨hc1, hc2⟩
      clear hF3 hM3 hc HI HP
      have hw3 := HI3.out.size
      have hql := wQuo_length cs
      by_cases hq : c.toNat = 34 ∨ c.toNat = 92
      · have HQ : Hid (wQuo (cs ++ [c]) = wQuo cs ++ [92] ++ [c]) := by show _ = _; rw [wQuo_snoc, show quo1 c = [92, c] from if_pos hq]; simp
        have q : (((c.toNat : Int) == 34) = true) ∨ (((c.toNat : Int) == 34) = false ∧ ((c.toNat : Int) == 92) = true) := by
          rcases hq with hq | hq
          · exact .inl (beq_iff_eq.2 (by omega))
          · exact .inr ⟨beq_eq_false_iff_ne.2 (by omega), beq_iff_eq.2 (by omega)⟩
        clear hq
        rcases q with q1 | ⟨q1, q2⟩
        all_goals
          go_wp2_with (at_builtin; refine wpList_out2 rfl (.tmp 29) (.tmp 30) 24 rfl [92] rfl rfl (HI3.out.quiet (Fr.alloc Zero _ _)).so (src_at (heap_new_at rfl _)) ?hb3 ?hl3 ?_)
          case hb3 => simp; omega
          case hl3 => simp; omega
          intro v4 w4 hB4 hF4 hv4
          have HI4 := hide (TB.ss (more := [92]) (HI3.out.quiet (Fr.alloc Zero _ _)) (by simpa using hB4) hF4 (by simpa using hv4))
          have hw4 := HI4.out.size
          clear hB4 hF4 hv4
          go_wp2_with (at_builtin; refine wpList_out2 rfl (.tmp 32) (.tmp 34) 24 rfl [c] rfl rfl (HI4.out.quiet (Fr.alloc Zero _ _)).so (src_at (heap_new_at rfl _)) ?hb5 ?hl5 ?_)
          case hb5 => simp; omega
          case hl5 => simp; omega
          intro v5 w5 hB5 hF5 hv5
          have HI5 := hide (TB.ss (more := [c]) (HI4.out.quiet (Fr.alloc Zero _ _)) (by simpa using hB5) hF5 (by simpa using hv5))
          have hw5 := HI5.out.size
          clear hB5 hF5 hv5
          go_wp2_with (at_builtin; refine wpList_out2 rfl (.tmp 36) (.tmp 38) 24 rfl [c] rfl rfl (HI5.out.quiet (Fr.alloc Zero _ _)).bo (src_at (heap_new_at rfl _)) ?hb6 ?hl6 ?_)
          case hb6 => simp; omega
          case hl6 => simp; omega
          intro v6 w6 hB6 hF6 hv6
          have HI6 := hide (TB.bb (more := [c]) (HI5.out.quiet (Fr.alloc Zero _ _)) (by simpa using hB6) hF6 (by simpa using hv6))
          clear hB6 hF6 hv6
          go_wp2_with fail
          refine ⟨⟨k + 1, n' + 1, cs ++ [c], by omega, by simp; omega, by go_num, by omega, HP2, ?_⟩, by simp [intOf]; omega⟩
          rw [HQ.out]
          exact HI6
      · have HQ : Hid (wQuo (cs ++ [c]) = wQuo cs ++ [c]) := by show _ = _; rw [wQuo_snoc, show quo1 c = [c] from if_neg hq]
        have q1 : ((c.toNat : Int) == 34) = false := beq_eq_false_iff_ne.2 (by omega)
        have q2 : ((c.toNat : Int) == 92) = false := beq_eq_false_iff_ne.2 (by omega)
        clear hq
        go_wp2_with (at_builtin; refine wpList_out2 rfl (.tmp 32) (.tmp 34) 24 rfl [c] rfl rfl (HI3.out.quiet (Fr.alloc Zero _ _)).so (src_at (heap_new_at rfl _)) ?hb5 ?hl5 ?_)
        case hb5 => simp; omega
        case hl5 => simp; omega
        intro v5 w5 hB5 hF5 hv5
        have HI5 := hide (TB.ss (more := [c]) (HI3.out.quiet (Fr.alloc Zero _ _)) (by simpa using hB5) hF5 (by simpa using hv5))
        have hw5 := HI5.out.size
        clear hB5 hF5 hv5
        go_wp2_with (at_builtin; refine wpList_out2 rfl (.tmp 36) (.tmp 38) 24 rfl [c] rfl rfl (HI5.out.quiet (Fr.alloc Zero _ _)).bo (src_at (heap_new_at rfl _)) ?hb6 ?hl6 ?_)
        case hb6 => simp; omega
        case hl6 => simp; omega
        intro v6 w6 hB6 hF6 hv6
        have HI6 := hide (TB.bb (more := [c]) (HI5.out.quiet (Fr.alloc Zero _ _)) (by simpa using hB6) hF6 (by simpa using hv6))
        clear hB6 hF6 hv6
        go_wp2_with fail
        refine ⟨⟨k + 1, n' + 1, cs ++ [c], by omega, by simp; omega, by go_num, by omega, HP2, ?_⟩, by simp [intOf]; omega⟩
        rw [HQ.out]
        exact HI6
    · have hkI : ¬ (k : Int) < (d.toNat : Int) := by omega
      obtain rfl : k = d.toNat := by omega
      have hql := wQuo_length cs
      have z0 : (ba (wQuo cs)).size = (wQuo cs).length := ba_size _
      have a1 : ⟨#[34]⟩ ++ ba (wQuo cs) = ba (34 :: wQuo cs) := ba_append [34] _
      have a2 : ba (34 :: wQuo cs) ++ ⟨#[34]⟩ = ba (34 :: (wQuo cs ++ [34])) := ba_append (34 :: wQuo cs) [34]
      have z2 : (ba (34 :: wQuo cs)).size = (wQuo cs).length + 1 := ba_size _
      have n1 : ¬ 9223372036854775807 < 1 + (wQuo cs).length := by omega
      have n2 : ¬ 9223372036854775807 < (wQuo cs).length + 1 + 1 := by omega
      have k1 := (HI.out.quiet (Fr.drew Zero wr)).so.conv
      have k2 := (HI.out.quiet (Fr.drew Zero wr)).bo.conv
      go_wp2_with fail
      go_region_held3 (fun W => (convert 24 9 u5).run Tryz.prog W = .ok (.string (ba (wQuo cs))) W ∧ (convert 24 9 u6).run Tryz.prog W = .ok (.string (ba (d :: cs))) W) (first | exact ⟨by assumption, by assumption⟩) (fail)
      go_wp2_with fail
      go_ret2
      refine ⟨cs, n', ?_, HI.out.fr.trans (Fr.drew _ _), HI.out.bk, by omega, by omega, HP.out⟩
      rw [hcl, ofNat_toNat]
      rfl

set_option maxHeartbeats 16000000 in
set_option maxRecDepth 100000 in
theorem mbytes_any {w : World} {B mb n sz : Nat} {tv pv qv nv : Value} (h : MK w mb tv n pv qv nv sz) (hT : TapeAt w B tv) (hB : B ≤ mb) (hn : n ≤ 100000000) :
    Calls Tryz.prog 38 #[.pointer (some ⟨mb, 0, none⟩)] w fun e w' => MTxtPost w mb tv n pv qv nv sz (fun cs => 120 :: wHex cs) (fun _ => True) e w' := by
  have hlt := h.lt
  go_enter Tryz.func38, Tryz.ntmps38
  go_wp2_with fail
  refine (next_any h hT hB (by omega) 5 (by omega) (by omega)).mono ?_
  rintro e w1 ⟨⟨r, hr, rfl⟩, hF1, hM1⟩
  obtain ⟨d, rfl⟩ := u8_of (r := r) (by omega)
  have hs1 := hF1.size
  have HT1 : Hid (TB w ((w1.alloc (.cells #[.int .u8 120] 5)).alloc (.cells #[.int .u8 d.toNat] 5)) B mb tv (n + 1) pv qv nv sz (.slice (some ⟨w1.heap.size, 0, none⟩) 1 1) (.slice (some ⟨w1.heap.size + 1, 0, none⟩) 1 1) [120] [d]) := by
    have f0 : Fr Zero w1 ((w1.alloc (.cells #[.int .u8 120] 5)).alloc (.cells #[.int .u8 d.toNat] 5)) := (Fr.alloc Zero _ _).trans (Fr.alloc Zero _ _)
    refine ⟨f0.keep hM1 (fun e => e), (hT.keep hF1 (fun k hk e => by have e' : k = mb := e; omega)).keep f0 (fun _ _ e => e), (hF1.mono (fun k _ e => .inl e)).trans f0.of0, BO.one (b := 120) ?_ hs1, BO.one ?_ (by omega), fun g hg => ?_, hlt, hB⟩
    · exact (Fr.alloc Zero _ _).keep (heap_new_at rfl _) (fun e => e)
    · exact heap_new_at (by simp) _
    · simp [Value.ownBlock] at hg ⊢; omega
  clear h hT hF1 hM1
  go_wp2_with fail
  generalize ((w1.alloc (.cells #[.int .u8 120] 5)).alloc (.cells #[.int .u8 d.toNat] 5)) = w2 at *
  go_loopw [6, 7, 8, 9] (fun sv bv iv _ wr => ∃ (k n' : Nat) (cs : Bs), k ≤ d.toNat ∧ cs.length = k ∧ iv = .int .i64 k ∧ n' ≤ n + 1 + k ∧ Hid (TB w wr B mb tv n' pv qv nv sz sv bv (120 :: wHex cs) (d :: cs))) (fun _ _ iv _ _ => d.toNat - (intOf iv).toNat)
  case atStart => exact ⟨0, n + 1, [], by omega, rfl, rfl, by omega, HT1⟩
  case round =>
    obtain ⟨k, n', cs, hk, hcl, rfl, hn', HI⟩ := hrel
    have hql := wHex_length cs
    by_cases hkd : k < d.toNat
    · have hkI : (k : Int) < (d.toNat : Int) := by omega
      go_wp2_with fail
      refine (next_any HI.out.bk HI.out.tp hB (by omega) 256 (by omega) (by omega)).mono ?_
      rintro e w3 ⟨⟨r2, hr2, rfl⟩, hF3, hM3⟩
      have HI3 := hide (HI.out.next hF3 hM3)
      obtain ⟨c, rfl⟩ := u8_of (r := r2) (by omega)
      have HQ : Hid (120 :: wHex (cs ++ [c]) = 120 :: wHex cs ++ [hexC (c.toNat / 16)] ++ [hexC (c.toNat % 16)]) := by show _ = _; rw [wHex_snoc]; simp
      obtain ⟨x, hx⟩ : ∃ x, x = c.toNat / 16 := ⟨_, rfl⟩
      obtain ⟨y, hy⟩ : ∃ y, y = c.toNat % 16 := ⟨_, rfl⟩
      have hdiv : (c.toNat : Int) / 16 = (x : Int) := by omega
      have hmod : (c.toNat : Int) % 16 = (y : Int) := by omega
      have hx16 : x < 16 := by omega
      have hy16 : y < 16 := by omega
      have hxI : (x : Int) < 16 := by omega
      have hyI : (y : Int) < 16 := by omega
      obtain ⟨c1, hc1⟩ : ∃ c1, c1 = hexC x := ⟨_, rfl⟩
      obtain ⟨c2, hc2⟩ : ∃ c2, c2 = hexC y := ⟨_, rfl⟩
      have g1 : ∀ h', ({ data := #[48, 49, 50, 51, 52, 53, 54, 55, 56, 57, 97, 98, 99, 100, 101, 102] } : ByteArray)[x]'h' = c1 := fun h' => (hexS_at x hx16 h').trans hc1.symm
      have g2 : ∀ h', ({ data := #[48, 49, 50, 51, 52, 53, 54, 55, 56, 57, 97, 98, 99, 100, 101, 102] } : ByteArray)[y]'h' = c2 := fun h' => (hexS_at y hy16 h').trans hc2.symm
      rw [← hx, ← hy, ← hc1, ← hc2] at HQ
      clear hx hy hc1 hc2
      clear hF3 hM3 HI
      have hw3 := HI3.out.size
      go_wp2_with (at_builtin; refine wpList_out2 rfl (.tmp 23) (.tmp 28) 24 rfl [c1] rfl rfl (HI3.out.quiet (Fr.alloc Zero _ _)).so (src_at (heap_new_at rfl _)) ?hb3 ?hl3 ?_)
      case hb3 => simp; omega
      case hl3 => simp; omega
      intro v4 w4 hB4 hF4 hv4
      have HI4 := hide (TB.ss (more := [c1]) (HI3.out.quiet (Fr.alloc Zero _ _)) (by simpa using hB4) hF4 (by simpa using hv4))
      have hw4 := HI4.out.size
      clear hB4 hF4 hv4
      go_wp2_with (at_builtin; refine wpList_out2 rfl (.tmp 30) (.tmp 35) 24 rfl [c2] rfl rfl (HI4.out.quiet (Fr.alloc Zero _ _)).so (src_at (heap_new_at rfl _)) ?hb5 ?hl5 ?_)
      case hb5 => simp; omega
      case hl5 => simp; omega
      intro v5 w5 hB5 hF5 hv5
      have HI5 := hide (TB.ss (more := [c2]) (HI4.out.quiet (Fr.alloc Zero _ _)) (by simpa using hB5) hF5 (by simpa using hv5))
      have hw5 := HI5.out.size
      clear hB5 hF5 hv5
      go_wp2_with (at_builtin; refine wpList_out2 rfl (.tmp 37) (.tmp 40) 24 rfl [c] rfl rfl (HI5.out.quiet (Fr.alloc Zero _ _)).bo (src_at (heap_new_at rfl _)) ?hb6 ?hl6 ?_)
      case hb6 => simp; omega
      case hl6 => simp; omega
      intro v6 w6 hB6 hF6 hv6
      have HI6 := hide (TB.bb (more := [c]) (HI5.out.quiet (Fr.alloc Zero _ _)) (by simpa using hB6) hF6 (by simpa using hv6))
      clear hB6 hF6 hv6
      go_wp2_with fail
      refine ⟨⟨k + 1, n' + 1, cs ++ [c], by omega, by simp; omega, by go_num, by omega, ?_⟩, by simp [intOf]; omega⟩
      rw [HQ.out]
      exact HI6
    · have hkI : ¬ (k : Int) < (d.toNat : Int) := by omega
      obtain rfl : k = d.toNat := by omega
      have k1 := (HI.out.quiet (Fr.drew Zero wr)).so.conv
      have k2 := (HI.out.quiet (Fr.drew Zero wr)).bo.conv
      go_wp2_with fail
      go_region_held3 (fun W => (convert 24 9 u6).run Tryz.prog W = .ok (.string (ba (120 :: wHex cs))) W ∧ (convert 24 9 u7).run Tryz.prog W = .ok (.string (ba (d :: cs))) W) (first | exact ⟨by assumption, by assumption⟩) (fail)
      go_wp2_with fail
      go_ret2
      refine ⟨cs, n', ?_, HI.out.fr.trans (Fr.drew _ _), HI.out.bk, by omega, by omega, trivial⟩
      rw [hcl, ofNat_toNat]
      rfl

end Go.Proofs.YtdcjogpkogidaaaGreatDoor.Q
