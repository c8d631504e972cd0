/- A ring more. -/
import Derived.Test.YtnhkalnihjkoeaaGreatDoorRgSPlay
namespace Go.Proofs.YtnhkalnihjkoeaaGreatDoor.Q
open Go.RowKit

set_option maxHeartbeats 4000000 in
set_option maxRecDepth 100000 in
/-- A new ring, and that it owns nothing old. -/
theorem snew_at (g : Nat) (h2 : 2 ≤ g) (h64 : g ≤ 64) (w : World) :
    Calls Tryz.prog 153 #[.int .i64 g] w fun e w' => ∃ sb, e = .returned (.tuple #[.pointer (some ⟨sb, 0, none⟩), .int .i64 0]) ∧ Fr Zero w w' ∧ SM w' sb (w.heap.size + 1) w.heap.size (newR g) ∧ w.heap.size ≤ sb ∧ ∀ k, RX w' (w.heap.size + 1) w.heap.size k → w.heap.size ≤ k := by
  go_enter Tryz.func153, Tryz.ntmps153
  go_wp2_with fail
  refine (new_any g h2 h64 _).mono ?_
  rintro e w1 ⟨rfl, hF1, hM1⟩
  have HF1 := hide hF1
  have HM1 := hide hM1
  clear hF1 hM1
  go_wp2_with fail
  go_ret2
  exact ⟨w1.heap.size, rfl, HF1.out.trans (Fr.alloc _ _ _), ⟨heap_new_at rfl _, _, HM1.out.quiet (Fr.alloc Zero _ _)⟩, HF1.out.size, fun k hk => by
    rcases RX.of (HM1.out.quiet (Fr.alloc Zero _ _)) hk with e | e | e
    · omega
    · omega
    · simp [blockOf] at e⟩

section
variable {w w' : World} {B wb M : Nat} {L : List RP} {rv qv : Value} {p : RP}
theorem PM.ltX (h : PM w p) {k : Nat} (hk : PX w p k) : k < w.heap.size := by
  rcases hk with e | e
  · obtain ⟨fv, hr⟩ := h.sm.r
    rcases RX.of hr e with e | e | e
    · rw [e]; exact hr.lt
    · rw [e]; exact lt_of_heap hr.y
    · rcases hr.f with ⟨q2, _⟩ | ⟨fb, off, cap, cur, q2, q3, _⟩
      · rw [q2] at e; simp [blockOf] at e
      · rw [q2] at e; simp [blockOf] at e; rw [← e]; exact lt_of_heap q3
  · obtain ⟨fq, hrq⟩ := h.rq
    obtain ⟨cs, t, e1, _⟩ := qx_type hrq e
    exact lt_of_heap e1
/-- A step that writes into the world's own blocks alone. -/
theorem PM.keepT {X : Nat → Prop} (h : PM w p) (hf : Fr X w w') (hX : ∀ k, X k → ∃ cs t, w.heap[k]? = some (.cells cs t (0, 0)) ∧ (t = 95 ∨ t = 105 ∨ t = 103)) : PM w' p ∧ ∀ k, PX w' p k ↔ PX w p k := by
  obtain ⟨fv, hr⟩ := h.rq
  have hno : ∀ k, X k → ¬ PX w p k := fun k hk => by
    obtain ⟨cs, t, e1, e2⟩ := hX k hk
    refine h.notX e1 ?_ ?_ ?_ ?_ ?_
    all_goals
      rcases e2 with rfl | rfl | rfl <;> decide
  have a := h.sm.keep hf (fun k cs t f e1 e2 hx => by
    rcases e2 with e2 | e2
    · obtain ⟨cs', t', e3, e4⟩ := hX k hx
      rw [e1] at e3
      simp at e3
      obtain ⟨_, e3, _⟩ := e3
      rw [← e3, e2] at e4
      revert e4
      decide
    · exact hno k hx (.inl e2))
  have b := hr.keep hf (fun k hk hx => hno k hx (.inr hk))
  refine ⟨⟨a.1, ⟨fv, b.1⟩, h.same, h.fit⟩, fun k => ?_⟩
  unfold PX
  rw [a.2 k, b.2 k]
theorem src_ptr {w : World} {n : Nat} {v : Value} {ty t e : TypeId} (hk : Tryz.prog.underlying t = some (.slice e)) (h : w.heap[n]? = some (.cells #[v] ty (0, 0))) (h1 : v.oneCell' = true) : Src Tryz.prog 1 t (.slice (some ⟨n, 0, none⟩) 1 1) 1 [v] w := by
  refine Src.ofSlice _ hk _ _ _ _ rfl (fun j u hj => ?_) (fun u hu => ?_)
  · match j, hj with
    | 0, hj => simp at hj; subst hj; rw [show (⟨n, 0, none⟩ : Addr).add 0 = ⟨n, 0, none⟩ by simp [Addr.add]]; rw [cell_of_heap h]; rfl
    | j + 1, hj => simp at hj
  · simp at hu; subst hu; exact h1
theorem infoRP : (Tryz.prog.info? 105).map (fun i => (i.zero, i.size, i.bytes)) = some (some (.pointer none), 1, 8) := by kernel_rfl
theorem infoQP : (Tryz.prog.info? 103).map (fun i => (i.zero, i.size, i.bytes)) = some (some (.pointer none), 1, 8) := by kernel_rfl

/-- One ring more, its pointers put behind the others. -/
theorem WM.push {w1 w2 : World} {rv' qv' : Value} (h : WM w B wb L M rv qv) (hp : PM w p) (hpn : ∀ k, PX w p k → B ≤ k) (hpo : ∀ (i : Nat) (q : RP), L[i]? = some q → ∀ k, PX w p k → ¬ PX w q k) (hl : p.Q.fs.length ≤ M)
    (h1 : PRow w1 105 1 rv' (L.length + 1) (L.map rptr ++ [rptr p])) (hf1 : Fr (Owns rv) w w1) (hv1 : ∀ k, k < w.heap.size → blockOf rv' = some k → blockOf rv = some k)
    (h2 : PRow w2 103 1 qv' (L.length + 1) (L.map qptr ++ [qptr p])) (hf2 : Fr (Owns qv) (w1.setCell ⟨wb, 0, none⟩ rv') w2) (hv2 : ∀ k, k < (w1.setCell ⟨wb, 0, none⟩ rv').heap.size → blockOf qv' = some k → blockOf qv = some k) :
    WM (w2.setCell ⟨wb, 1, none⟩ qv') B wb (L ++ [p]) M rv' qv' ∧ Fr (From B) w (w2.setCell ⟨wb, 1, none⟩ qv') := by
  have hwr : blockOf rv ≠ some wb := fun e => h.rs.ne h.blk (by decide) e
  have hwq : blockOf qv ≠ some wb := fun e => h.qs.ne h.blk (by decide) e
  have hrq : ∀ g, blockOf rv = some g → blockOf qv ≠ some g := fun g e1 e2 => by
    obtain ⟨c1, q1⟩ := h.rs.typed e1
    exact h.qs.ne q1 (by decide) e2
  have hb1 : w1.heap[wb]? = some (.cells #[rv, qv, .slice none 0 0, .slice none 0 0] 95 (0, 0)) := hf1.keep h.blk hwr
  have hb1' : (w1.setCell ⟨wb, 0, none⟩ rv').heap[wb]? = some (.cells #[rv', qv, .slice none 0 0, .slice none 0 0] 95 (0, 0)) := by rw [heap_setCell_same hb1]; rfl
  have hb2 : w2.heap[wb]? = some (.cells #[rv', qv, .slice none 0 0, .slice none 0 0] 95 (0, 0)) := hf2.keep hb1' hwq
  have hb3 : (w2.setCell ⟨wb, 1, none⟩ qv').heap[wb]? = some (.cells #[rv', qv', .slice none 0 0, .slice none 0 0] 95 (0, 0)) := by rw [heap_setCell_same hb2]; rfl
  have hS1 : Fr (One wb) w1 (w1.setCell ⟨wb, 0, none⟩ rv') := Fr.setCell _ _ _ _ rfl
  have hS2 : Fr (One wb) w2 (w2.setCell ⟨wb, 1, none⟩ qv') := Fr.setCell _ _ _ _ rfl
  have hFX : Fr (fun k => blockOf rv = some k ∨ blockOf qv = some k ∨ k = wb) w (w2.setCell ⟨wb, 1, none⟩ qv') :=
    ((hf1.mono (fun k _ e => .inl e)).trans (hS1.mono (fun k _ e => .inr (.inr e)))).trans ((hf2.mono (fun k _ e => .inr (.inl e))).trans (hS2.mono (fun k _ e => .inr (.inr e))))
  have hXT : ∀ k, (blockOf rv = some k ∨ blockOf qv = some k ∨ k = wb) → ∃ cs t, w.heap[k]? = some (.cells cs t (0, 0)) ∧ (t = 95 ∨ t = 105 ∨ t = 103) := fun k hk => by
    rcases hk with e | e | e
    · obtain ⟨c, q⟩ := h.rs.typed e; exact ⟨_, _, q, .inr (.inl rfl)⟩
    · obtain ⟨c, q⟩ := h.qs.typed e; exact ⟨_, _, q, .inr (.inr rfl)⟩
    · rw [e]; exact ⟨_, _, h.blk, .inl rfl⟩
  have hall : ∀ (i : Nat) (q : RP), (L ++ [p])[i]? = some q → PM (w2.setCell ⟨wb, 1, none⟩ qv') q ∧ (∀ k, PX (w2.setCell ⟨wb, 1, none⟩ qv') q k ↔ PX w q k) ∧ ((i < L.length ∧ L[i]? = some q) ∨ (i = L.length ∧ q = p)) := fun i q hq => by
    rcases Nat.lt_or_ge i L.length with a | a
    · rw [List.getElem?_append_left a] at hq
      have := (h.each i q hq).keepT hFX hXT
      exact ⟨this.1, this.2, .inl ⟨a, hq⟩⟩
    · rw [List.getElem?_append_right a] at hq
      rcases hz : i - L.length with _ | z
      · rw [hz] at hq
        simp at hq
        subst hq
        have := hp.keepT hFX hXT
        exact ⟨this.1, this.2, .inr ⟨by omega, rfl⟩⟩
      · rw [hz] at hq; simp at hq
  have hne1 : ∀ g, blockOf rv' = some g → ¬ One wb g := fun g hg e => by
    have e' : g = wb := e
    rw [e'] at hg
    exact h1.ne hb1 (by decide) hg
  have hne2 : ∀ g, blockOf qv' = some g → ¬ One wb g := fun g hg e => by
    have e' : g = wb := e
    rw [e'] at hg
    exact h2.ne hb2 (by decide) hg
  have h1' : PRow (w1.setCell ⟨wb, 0, none⟩ rv') 105 1 rv' (L.length + 1) (L.map rptr ++ [rptr p]) := h1.keep hS1 hne1
  have hsz : B ≤ w.heap.size := h.size
  refine ⟨⟨hb3, ?_, ?_, fun g hg => ?_, fun g hg => ?_, fun i q hq => (hall i q hq).1, fun i j a b ha hb hij k hk hk2 => ?_, fun i q hq k hk => ?_, h.wB, fun i q hq => ?_⟩, hFX.mono (fun k _ e => ?_)⟩
  · have e : (L ++ [p]).map rptr = L.map rptr ++ [rptr p] := by simp
    rw [e, show (L ++ [p]).length = L.length + 1 by simp]
    refine (h1'.keep hf2 (fun g hg e => ?_)).keep hS2 hne1
    obtain ⟨c1, q1⟩ := h1'.typed hg
    rcases Nat.lt_or_ge g w.heap.size with q | q
    · obtain ⟨c2, q2⟩ := h.qs.typed e
      exact hrq g (hv1 g q hg) e
    · obtain ⟨c2, q2⟩ := h.qs.typed e
      have := lt_of_heap q2
      omega
  · have e : (L ++ [p]).map qptr = L.map qptr ++ [qptr p] := by simp
    rw [e, show (L ++ [p]).length = L.length + 1 by simp]
    exact h2.keep hS2 hne2
  · rcases Nat.lt_or_ge g w.heap.size with q | q
    · exact h.rB g (hv1 g q hg)
    · exact Nat.le_trans hsz q
  · rcases Nat.lt_or_ge g (w1.setCell ⟨wb, 0, none⟩ rv').heap.size with q | q
    · exact h.qB g (hv2 g q hg)
    · exact Nat.le_trans (Nat.le_trans hsz (Nat.le_trans hf1.size hS1.size)) q
  · have ea := hall i a ha
    have eb := hall j b hb
    have ka := (ea.2.1 k).1 hk
    have kb := (eb.2.1 k).1 hk2
    rcases ea.2.2 with ⟨_, qa⟩ | ⟨i1, rfl⟩
    · rcases eb.2.2 with ⟨_, qb⟩ | ⟨j1, rfl⟩
      · exact h.apart i j a b qa qb hij k ka kb
      · exact hpo i a qa k kb ka
    · rcases eb.2.2 with ⟨_, qb⟩ | ⟨j1, _⟩
      · exact hpo j b qb k ka kb
      · exact hij (by omega)
  · have e := hall i q hq
    have kk := (e.2.1 k).1 hk
    rcases e.2.2 with ⟨_, qa⟩ | ⟨_, rfl⟩
    · exact h.own i q qa k kk
    · exact hpn k kk
  · rcases (hall i q hq).2.2 with ⟨_, qa⟩ | ⟨_, rfl⟩
    · exact h.lens i q qa
    · exact hl
  · rcases e with e | e | e
    · exact h.rB k e
    · exact h.qB k e
    · show B ≤ k; rw [e]; exact h.wB
end

theorem WM.mono {w : World} {B wb M M' : Nat} {L : List RP} {rv qv : Value} (h : WM w B wb L M rv qv) (hM : M ≤ M') : WM w B wb L M' rv qv :=
  ⟨h.blk, h.rs, h.qs, h.rB, h.qB, h.each, h.apart, h.own, h.wB, fun i p hp => Nat.le_trans (h.lens i p hp) hM⟩

set_option maxHeartbeats 16000000 in
set_option maxRecDepth 100000 in
theorem news_bad {w : World} {B wb M : Nat} {L : List RP} {rv qv : Value} (h : WM w B wb L M rv qv) (hL : 0 < L.length) (a b c g : Int) (s : ByteArray) (ha : a < 2 ∨ 64 < a) :
    Calls Tryz.prog 77 #[.pointer (some ⟨wb, 0, none⟩), opV 1 a b c g s] w fun e w' => StepPost w B wb L M e w' := by
  have HB0 : Hid ((w.alloc (.cells (opC 1 a b c g s) 98)).heap[w.heap.size]? = some (.cells (opC 1 a b c g s) 98 (0, 0))) := heap_new_at rfl _
  have HZ : Hid (Fr Zero w (w.alloc (.cells (opC 1 a b c g s) 98))) := Fr.alloc _ _ _
  have H0 := hide (h.quiet HZ.out)
  clear h
  unfold opV
  unfold opC at HB0 HZ H0
  go_enter Tryz.func77, Tryz.ntmps77
  go_wp2_with fail
  generalize w.alloc (.cells #[.int .i64 1, .int .i64 a, .int .i64 b, .int .i64 c, .int .i64 g, .string s] 98) = w0 at *
  refine (snew_bad a ha _).mono ?_
  rintro e w1 ⟨rfl, e1⟩
  obtain rfl := e1.symm
  have o1 : w0.cell? ⟨w.heap.size, 1, none⟩ = some (.int .i64 a) := (cell_of_heap (o := 1) HB0.out).trans rfl
  go_wp2_with fail
  refine (rnew_bad a ha _).mono ?_
  rintro e w1 ⟨rfl, e1⟩
  obtain rfl := e1.symm
  go_wp2_with fail
  refine (numq_any _ _).mono ?_
  rintro e w3 ⟨rfl, e3⟩
  obtain rfl := e3.symm
  go_wp2_with fail
  go_ret
  exact ⟨rfl, HZ.out.of0, L, rv, qv, ⟨H0.out.blk, H0.out.rs, H0.out.qs, H0.out.rB, H0.out.qB, H0.out.each, H0.out.apart, H0.out.own, H0.out.wB, fun i p hp => Nat.le_succ_of_le (H0.out.lens i p hp)⟩, Nat.le_succ _, hL⟩

set_option maxHeartbeats 16000000 in
set_option maxRecDepth 100000 in
theorem news_good {w : World} {B wb M : Nat} {L : List RP} {rv qv : Value} (h : WM w B wb L M rv qv) (hL2 : L.length ≤ 2800000000000) (n : Nat) (b c g : Int) (s : ByteArray) (h2 : 2 ≤ n) (h64 : n ≤ 64) :
    Calls Tryz.prog 77 #[.pointer (some ⟨wb, 0, none⟩), opV 1 n b c g s] w fun e w' => StepPost w B wb L M e w' := by
  have HB0 : Hid ((w.alloc (.cells (opC 1 n b c g s) 98)).heap[w.heap.size]? = some (.cells (opC 1 n b c g s) 98 (0, 0))) := heap_new_at rfl _
  have HZ : Hid (Fr Zero w (w.alloc (.cells (opC 1 n b c g s) 98))) := Fr.alloc _ _ _
  have H0 := hide (h.quiet HZ.out)
  clear h
  unfold opV
  unfold opC at HB0 HZ H0
  go_enter Tryz.func77, Tryz.ntmps77
  go_wp2_with fail
  generalize w.alloc (.cells #[.int .i64 1, .int .i64 n, .int .i64 b, .int .i64 c, .int .i64 g, .string s] 98) = w0 at *
  refine (snew_at n h2 h64 _).mono ?_
  rintro e w1 ⟨sb, rfl, hF1, hM1, hsb, hX1⟩
  have HB1 := hide (hF1.keep HB0.out (fun h => h))
  have o1 : w1.cell? ⟨w.heap.size, 1, none⟩ = some (.int .i64 n) := (cell_of_heap (o := 1) HB1.out).trans rfl
  have HF1 := hide hF1
  have HM1 := hide hM1
  have HX1 := hide hX1
  clear hF1 hM1 hX1
  go_wp2_with fail
  refine (rnew_any n h2 h64 _).mono ?_
  rintro e w2 ⟨rfl, hF2, hQ2⟩
  have HF2 := hide hF2
  have HQ2 := hide hQ2
  clear hF2 hQ2
  go_wp2_with fail
  refine (numq_any _ _).mono ?_
  rintro e w3 ⟨rfl, e3⟩
  obtain rfl := e3.symm
  have H2 := hide (H0.out.quiet (HF1.out.trans HF2.out))
  have HS2 := hide (HM1.out.keep HF2.out (fun _ _ _ _ _ _ h => h))
  have HPM : Hid (PM w2 ⟨sb, w0.heap.size + 1, w0.heap.size, w1.heap.size, newR n, ⟨n, [], 0, false⟩⟩) := ⟨HS2.out.1, ⟨_, HQ2.out⟩, Same.new n, Fit.new h2 h64⟩
  have HPN : Hid (∀ k, PX w2 ⟨sb, w0.heap.size + 1, w0.heap.size, w1.heap.size, newR n, ⟨n, [], 0, false⟩⟩ k → w0.heap.size ≤ k) := fun k hk => by
    rcases hk with e | e
    · exact HX1.out k ((HS2.out.2 k).1 e)
    · rcases QX.of HQ2.out e with e | e
      · rw [e]; exact HF1.out.size
      · simp [blockOf] at e
  have HPO : Hid (∀ (i : Nat) (q : RP), L[i]? = some q → ∀ k, PX w2 ⟨sb, w0.heap.size + 1, w0.heap.size, w1.heap.size, newR n, ⟨n, [], 0, false⟩⟩ k → ¬ PX w2 q k) := fun i q hq k hk hk2 => by
    have e1 := HPN.out k hk
    have e2 := (H0.out.each i q hq).quiet (HF1.out.trans HF2.out)
    have e3 : PX w0 q k := by
      obtain ⟨fv, hr⟩ := (H0.out.each i q hq).rq
      have a := (H0.out.each i q hq).sm.keep (HF1.out.trans HF2.out) (fun _ _ _ _ _ _ h => h)
      have b := hr.keep (HF1.out.trans HF2.out) (fun _ _ h => h)
      rcases hk2 with x | x
      · exact .inl ((a.2 k).1 x)
      · exact .inr ((b.2 k).1 x)
    have := (H0.out.each i q hq).ltX e3
    omega
  generalize hP : (⟨sb, w0.heap.size + 1, w0.heap.size, w1.heap.size, newR n, ⟨n, [], 0, false⟩⟩ : RP) = P at *
  have hPs : P.sb = sb := by rw [← hP]
  have hPq : P.qb = w1.heap.size := by rw [← hP]
  have hPl : P.Q.fs.length = 0 := by rw [← hP]; rfl
  have HZ2 := hide (HZ.out.trans (HF1.out.trans HF2.out))
  have hB0 := H0.out.size
  have HA3 : Hid (Fr Zero w2 (w2.alloc (.cells #[.pointer (some ⟨sb, 0, none⟩)] 105))) := Fr.alloc _ _ _
  have H3 := hide (H2.out.quiet HA3.out)
  have HSR : Hid (Src Tryz.prog 1 90 (.slice (some ⟨w2.heap.size, 0, none⟩) 1 1) 1 [rptr P] (w2.alloc (.cells #[.pointer (some ⟨sb, 0, none⟩)] 105))) := by
    have e : rptr P = .pointer (some ⟨sb, 0, none⟩) := by unfold rptr; rw [hPs]
    rw [e]
    exact src_ptr Tryz.underlying90 (heap_new_at rfl _) rfl
  have a0 := H2.out.at0
  have a1 := H2.out.at1
  have hwl := H2.out.lt
  have hwl3 := H3.out.lt
  obtain ⟨ra, rc, rfl⟩ := H3.out.rs.len
  obtain ⟨qa, qc, rfl⟩ := H3.out.qs.len
  have HP := hide hP
  clear hP o1
  go_wp2_with (at_builtin; refine wpList_pappend rfl (.tmp 47) (.tmp 49) 90 90 rfl Tryz.underlying90 infoRP rfl 1 [rptr P] rfl rfl H3.out.rs HSR.out ?hl9 ?h639 ?_)
  case hl9 => omega
  case h639 => omega
  intro v4 w4 hA4 hF4 hv4
  have hA4' : PRow w4 105 1 v4 (L.length + 1) (L.map rptr ++ [rptr P]) := hA4
  have hb4 : w4.heap[wb]? = _ := hF4.keep H3.out.blk (fun e => H3.out.rs.ne H3.out.blk (by decide) e)
  have HQ4 : Hid (PRow w4 103 1 (.slice qa L.length qc) L.length (L.map qptr)) := H3.out.qs.keep hF4 (fun k hk e => by
    obtain ⟨c1, q1⟩ := H3.out.qs.typed hk
    exact H3.out.rs.ne q1 (by decide) e)
  have q0 : w4.cell? ⟨wb, 0, none⟩ = some (.slice ra L.length rc) := by rw [cell_of_heap hb4]; rfl
  have qf0 : w4.frozen? ⟨wb, 0, none⟩ = false := free_of_heap hb4
  have q1 : w4.cell? ⟨wb, 1, none⟩ = some (.slice qa L.length qc) := by rw [cell_of_heap hb4]; rfl
  have qf1 : w4.frozen? ⟨wb, 1, none⟩ = false := free_of_heap hb4
  have hw4 := lt_of_heap hb4
  obtain ⟨va, vc, rfl⟩ := hA4'.len
  have hb5 : (w4.setCell ⟨wb, 0, none⟩ (.slice va (L.length + 1) vc)).heap[wb]? = _ := heap_setCell_same (o := 0) (v := .slice va (L.length + 1) vc) hb4
  have HQ5 : Hid (PRow (w4.setCell ⟨wb, 0, none⟩ (.slice va (L.length + 1) vc)) 103 1 (.slice qa L.length qc) L.length (L.map qptr)) := HQ4.out.keep (Fr.setCell (One wb) w4 ⟨wb, 0, none⟩ _ rfl) (fun k hk e => by
    have e' : k = wb := e
    rw [e'] at hk
    exact HQ4.out.ne hb4 (by decide) hk)
  have HA6 : Hid (Fr Zero (w4.setCell ⟨wb, 0, none⟩ (.slice va (L.length + 1) vc)) ((w4.setCell ⟨wb, 0, none⟩ (.slice va (L.length + 1) vc)).alloc (.cells #[.pointer (some ⟨w1.heap.size, 0, none⟩)] 103))) := Fr.alloc _ _ _
  have HQ6 := hide (HQ5.out.keep HA6.out (fun _ _ h => h))
  have hb6 := HA6.out.keep hb5 (fun h => h)
  have HSQ : Hid (Src Tryz.prog 1 91 (.slice (some ⟨w4.heap.size, 0, none⟩) 1 1) 1 [qptr P] ((w4.setCell ⟨wb, 0, none⟩ (.slice va (L.length + 1) vc)).alloc (.cells #[.pointer (some ⟨w1.heap.size, 0, none⟩)] 103))) := by
    have e : qptr P = .pointer (some ⟨w1.heap.size, 0, none⟩) := by unfold qptr; rw [hPq]
    rw [e]
    exact src_ptr Tryz.underlying91 (heap_new_at (by simp) _) rfl
  have HA4 := hide hA4'
  have HF4 := hide hF4
  have HV4 := hide hv4
  have HB6 := hide hb6
  clear hA4 hA4' hF4 hv4 hb4 hb5 hb6 a0 a1
  go_wp2_with (at_builtin; refine wpList_pappend rfl (.tmp 57) (.tmp 59) 91 91 rfl Tryz.underlying91 infoQP rfl 1 [qptr P] rfl rfl HQ6.out HSQ.out ?hl10 ?h6310 ?_)
  case hl10 => omega
  case h6310 => omega
  intro v7 w7 hA7 hF7 hv7
  have hA7' : PRow w7 103 1 v7 (L.length + 1) (L.map qptr ++ [qptr P]) := hA7
  have hb7 := hF7.keep HB6.out (fun e => HQ6.out.ne HB6.out (by decide) e)
  have r1 : w7.cell? ⟨wb, 1, none⟩ = some (.slice qa L.length qc) := by rw [cell_of_heap hb7]; rfl
  have rf1 : w7.frozen? ⟨wb, 1, none⟩ = false := free_of_heap hb7
  have HK := hide (HPM.out.keepT HA3.out (fun k hk => hk.elim))
  have HW := hide (H3.out.push (p := P) HK.out.1 (fun k hk => Nat.le_trans hB0 (HPN.out k ((HK.out.2 k).1 hk))) (fun i q hq k hk hk2 => HPO.out i q hq k ((HK.out.2 k).1 hk) (by
      obtain ⟨fv, hr⟩ := (H2.out.each i q hq).rq
      have a := (H2.out.each i q hq).sm.keep HA3.out (fun _ _ _ _ _ _ h => h)
      have b := hr.keep HA3.out (fun _ _ h => h)
      rcases hk2 with x | x
      · exact .inl ((a.2 k).1 x)
      · exact .inr ((b.2 k).1 x))) (by rw [hPl]; exact Nat.zero_le _) HA4.out HF4.out (by simpa using HV4.out) hA7' ((Fr.alloc _ _ _).trans hF7) (fun k hk e => hv7 k (by simp at hk ⊢; omega) e))
  obtain ⟨ua, uc, rfl⟩ := hA7'.len
  clear hA7 hA7' hF7 hv7 hb7 q0 qf0 q1 qf1
  go_wp2_with fail
  go_ret
  exact ⟨rfl, (HZ2.out.trans HA3.out).of0.trans HW.out.2, L ++ [P], _, _, HW.out.1.mono (Nat.le_succ _), by simp, by simp⟩

theorem news_any {w : World} {B wb M : Nat} {L : List RP} {rv qv : Value} (h : WM w B wb L M rv qv) (hL : 0 < L.length) (hL2 : L.length ≤ 2800000000000) (a b c g : Int) (s : ByteArray) :
    Calls Tryz.prog 77 #[.pointer (some ⟨wb, 0, none⟩), opV 1 a b c g s] w fun e w' => StepPost w B wb L M e w' := by
  by_cases ha : a < 2 ∨ 64 < a
  · exact news_bad h hL a b c g s ha
  · obtain ⟨n, rfl⟩ : ∃ n : Nat, a = n := ⟨a.toNat, by omega⟩
    exact news_good h hL2 n b c g s (by omega) (by omega)

set_option maxHeartbeats 8000000 in
set_option maxRecDepth 100000 in
theorem step_new {w : World} {B wb M : Nat} {L : List RP} (a b c g : Int) (s : ByteArray)
    (hn : ∀ w1, Fr Zero w w1 → Calls Tryz.prog 77 #[.pointer (some ⟨wb, 0, none⟩), opV 1 a b c g s] w1 fun e w' => StepPost w1 B wb L M e w') :
    Calls Tryz.prog 47 #[.pointer (some ⟨wb, 0, none⟩), opV 1 a b c g s] w fun e w' => e = .returned (.bool true) ∧ ∃ w1, Fr Zero w w1 ∧ StepPost w1 B wb L M e w' := by
  have HZ : Hid (Fr Zero w (w.alloc (.cells (opC 1 a b c g s) 98))) := Fr.alloc _ _ _
  have HN := hide (hn _ HZ.out)
  clear hn
  unfold opV opC at HN
  unfold opC at HZ
  unfold opV
  go_enter Tryz.func47, Tryz.ntmps47
  go_wp2_with fail
  refine HN.out.mono ?_
  rintro e w2 ⟨rfl, hs⟩
  have HS := hide hs
  clear hs
  go_wp2_with fail
  go_ret
  exact ⟨rfl, _, HZ.out, rfl, HS.out⟩

theorem step_any {w : World} {B wb M : Nat} {L : List RP} {rv qv : Value} (h : WM w B wb L M rv qv) (hL : 0 < L.length) (hL2 : L.length ≤ 2800000000000) (hM : M ≤ 2700000000000) (k a b c g : Int) (s : ByteArray) (ho : OpOk k a b c g s) (hk2 : k < 11) :
    Calls Tryz.prog 47 #[.pointer (some ⟨wb, 0, none⟩), opV k a b c g s] w fun e w' => StepPost w B wb L M e w' := by
  by_cases hk : k = 1
  · subst hk
    exact (step_new a b c g s (fun w1 hf => news_any (h.quiet hf) hL hL2 a b c g s)).mono (fun e w' hh => by
      obtain ⟨_, w1, hf, hs⟩ := hh
      exact ⟨hs.1, hf.of0.trans hs.2.1, hs.2.2⟩)
  · exact step_ring h hL hL2 hM k a b c g s ho hk hk2

end Go.Proofs.YtnhkalnihjkoeaaGreatDoor.Q
