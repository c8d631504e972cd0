/- The reference's reader takes a value: around its kinds. How much is told of a value. The reference's reader takes records. -/
import Derived.Test.YtnhkalnihjkoeaaGreatDoorGtDSev
namespace Go.Proofs.YtnhkalnihjkoeaaGreatDoor
open Go.RowKit

theorem ownsRow_set {w : World} {base size g n cap j : Nat} {e : TypeId} {xs : List Value} (h : w.ownsRow base e size (.slice (some ⟨g, 0, none⟩) n cap) n xs) (u : Value) : (w.setCell ⟨g, j, none⟩ u).ownsRow base e size (.slice (some ⟨g, 0, none⟩) n cap) n (xs.set j u) := by
  refine ⟨by rw [List.length_set]; exact h.1, ?_⟩
  rcases h.2 with ⟨q, _⟩ | ⟨g', cap', cur, q, h1, h2, h3, h4, h5, h6⟩
  · simp at q
  · simp at q
    obtain ⟨rfl, rfl⟩ := q
    refine .inr ⟨g, cap, cur.setIfInBounds j u, rfl, h1, heap_setCell_same h2, h3, h4, by simpa using h5, ?_⟩
    rw [Array.toList_setIfInBounds, List.take_set, h6]
theorem wayCells_set (a b : List (Bs × Bs)) (p x y : Bs) : (wayCells (a ++ (p, x) :: b)).set (a.length * 2 + 1) (.string (ba y)) = wayCells (a ++ (p, y) :: b) := by
  rw [wayCells_app, wayCells_app, List.set_append_right _ _ (by rw [wayCells_length]; omega), wayCells_length]
  rw [show a.length * 2 + 1 - a.length * 2 = 1 by omega]
  rfl
theorem wayCells_at (a b : List (Bs × Bs)) (p x : Bs) : (wayCells (a ++ (p, x) :: b))[a.length * 2 + 1]? = some (.string (ba x)) := by
  rw [wayCells_app, List.getElem?_append_right (by rw [wayCells_length]; omega), wayCells_length]
  rw [show a.length * 2 + 1 - a.length * 2 = 1 by omega]
  rfl

/-- A part's text is told. -/
theorem KS.tellText {w : World} {B tb db : Nat} {s : ByteArray} {l : Bs} {bad : Bool} {nums : List (Bs × Int)} {a b : List (Bs × Bs)} {p x : Bs} (h : KS w B tb db s l bad nums (a ++ (p, x) :: b)) :
    ∃ g cap, w.cell? ⟨tb, 5, none⟩ = some (.slice (some ⟨g, 0, none⟩) (a ++ (p, x) :: b).length cap) ∧ w.cell? ⟨g, a.length * 2 + 1, none⟩ = some (.string (ba x)) ∧ w.frozen? ⟨g, a.length * 2 + 1, none⟩ = false ∧
      ∀ y : Bs, KS (w.setCell ⟨g, a.length * 2 + 1, none⟩ (.string (ba y))) B tb db s l bad nums (a ++ (p, y) :: b) ∧ KFr tb w (w.setCell ⟨g, a.length * 2 + 1, none⟩ (.string (ba y))) := by
  obtain ⟨nv, wv, h1, h2, h3, h4⟩ := h
  have h4' := h4
  rcases h4.2 with ⟨q, h0⟩ | ⟨g, cap, cur, rfl, q1, q2, _⟩
  · simp at h0
  · have hne : g ≠ tb := fun e => by
      rw [e, h1.block] at q2
      simp at q2
    refine ⟨g, cap, h1.at5, ?_, free_of_heap q2, fun y => ?_⟩
    · rw [h4.cellAt (a.length * 2 + 1) (by simp; omega)]
      exact wayCells_at a b p x
    · have hf : Fr (One g) w (w.setCell ⟨g, a.length * 2 + 1, none⟩ (.string (ba y))) := Fr.setCell _ _ _ _ rfl
      have hb := h1.keep hf (fun e => hne e.symm)
      refine ⟨⟨nv, _, hb, h2, ownsRow_keep h3 hf (fun g' hg' e => own_other h4 h3 (by decide) (g := g') (by rw [show g' = g from e]; rfl) hg'), ?_⟩, ⟨hf.mono (fun k _ e => .inr (.inr ⟨_, h1.at5, by rw [show k = g from e]; rfl⟩)), fun k _ e => (KX.same (hb.at4.trans h1.at4.symm) (hb.at5.trans h1.at5.symm) k).1 e⟩⟩
      have := ownsRow_set (j := a.length * 2 + 1) h4 (.string (ba y))
      rw [wayCells_set] at this
      simpa using this

set_option maxHeartbeats 4000000 in
set_option maxRecDepth 100000 in
theorem sev_bad {w : World} {B tb db : Nat} {s : ByteArray} {l : Bs} {nums : List (Bs × Int)} {ways : List (Bs × Bs)} (x : Int) (p st : ByteArray) (h : KS w B tb db s l true nums ways) :
    Calls Tryz.prog 179 #[.pointer (some ⟨tb, 0, none⟩), .int .i64 x, .string p, .string st] w fun e w' => e = .returned (.string ⟨#[]⟩) ∧ w' = w := by
  obtain ⟨nv, wv, hb⟩ := h.block
  have h3 := hb.at3
  clear hb h
  go_enter Tryz.func179, Tryz.ntmps179
  go_wp2_with fail
  go_ret
  exact ⟨rfl, rfl⟩

/-- What `several` is said to do. -/
def SSaid (k : Nat) : Prop := ∀ (w : World) (B tb db : Nat) (s : ByteArray) (l : Bs) (nums : List (Bs × Int)) (ways : List (Bs × Bs)) (tab : List RT) (roots : List Nat) (x : Nat) (t : PT) (p st : Bs),
  SIn w B tb db s l nums ways tab roots → Is tab x t → WFT (k + 1) t → p.length + 500 * (k + 1) ≤ 10000 → st.length + 500 * (k + 1) ≤ 10000 → Room (k + 1) nums.length l.length → Room k ways.length l.length →
  Calls Tryz.prog 179 #[.pointer (some ⟨tb, 0, none⟩), .int .i64 x, .string (ba p), .string (ba st)] w fun e w' => SPost tb B db s nums ways k t p st l w e w'

set_option maxHeartbeats 8000000 in
set_option maxRecDepth 100000 in
theorem value_bad {w : World} {B tb db : Nat} {s : ByteArray} {l : Bs} {nums : List (Bs × Int)} {ways : List (Bs × Bs)} (x : Int) (p : Bs) (st : ByteArray) (h : KS w B tb db s l true nums ways) (hB : B ≤ w.heap.size) (hn : ways.length ≤ 1000100) :
    Calls Tryz.prog 108 #[.pointer (some ⟨tb, 0, none⟩), .int .i64 x, .string (ba p), .string st] w fun e w' => KFr tb w w' ∧ KS w' B tb db s l true nums (ways ++ [(p, [])]) ∧ e = .returned (.string ⟨#[]⟩) := by
  obtain ⟨nv, wv, hb, hBt, ho1, ho2⟩ := h
  obtain ⟨wa, wc, rfl⟩ : ∃ wa wc, wv = .slice wa ways.length wc := by
    rcases ho2.2 with ⟨h1, h0⟩ | ⟨g, cap, cur, h1, _⟩
    · exact ⟨none, 0, by rw [h1, h0]⟩
    · exact ⟨_, _, h1⟩
  have k5 := hb.at5
  have f5 := hb.free 5
  have HB := hide hb
  have HN := hide ho1
  have HWo := hide ho2
  have HBt := hide hBt
  have hlt := hb.lt
  clear hb ho1 ho2 hBt
  obtain ⟨i0, hi, hz0, hz1, hz2⟩ := info_parts infoWay
  go_enter Tryz.func108, Tryz.ntmps108
  go_wp2_with (at_builtin; refine wpList_append_mine _ rfl (.tmp 20) (.tmp 23) 121 rfl B 119 i0 (.agg #[.string ⟨#[]⟩, .string ⟨#[]⟩]) 2 32 Tryz.underlying121 hi hz0 hz1 hz2 rfl (by decide) (.slice wa ways.length wc) ways.length (wayCells ways) rfl ?o1 ⟨w.heap.size, 0, none⟩ 1 1 (by omega) [.string (ba p), .string ⟨#[]⟩] rfl rfl ?c1 ?c2 ?c3 ?c4 ?c5 ?_)
  case o1 => exact HWo.out.alloc _
  case c1 => exact news2_heap rfl rfl
  case c2 => intro u hu; simp at hu; rcases hu with rfl | rfl <;> rfl
  case c3 => unfold maxLen; omega
  case c4 => omega
  case c5 => simp; omega
  intro v' w4 hO4 hg4 gn capn hv' hgg
  subst hv'
  have hb1 := HB.out.keep (Fr.alloc Zero _ (.cells #[.string (ba p), .string ⟨#[]⟩] 119)) (fun h => h)
  have HE := hide (KS.toldWay (p, []) hb1 HBt.out (HN.out.alloc _) (HWo.out.alloc _) (by rw [wayCells_snoc]; exact hO4) hg4 ⟨gn, capn, rfl, by simpa using hgg⟩)
  have hb4 := hb1.keep (Fr.grown (X := fun k => (Value.slice wa ways.length wc).ownBlock = some k) hg4 (fun k e _ => e)) (fun e => own_ne HWo.out HB.out.block (by decide) e)
  have q5 := hb4.at5
  have qf := hb4.free 5
  have HQ := hide (KFr.quiet (Fr.alloc Zero w (.cells #[.string (ba p), .string ⟨#[]⟩] 119)) hlt)
  clear hO4 hg4 hgg hb1 hb4 k5 f5 hi hz0 hz1 hz2
  go_wp2_with fail
  refine (sev_bad x (ba p) st HE.out.1).mono ?_
  rintro e w5 ⟨rfl, e5⟩
  obtain rfl := e5.symm
  obtain ⟨_, _, hb5⟩ := HE.out.1.block
  have g3 := hb5.at3
  clear hb5
  go_wp2_with fail
  go_ret
  exact ⟨HQ.out.trans HE.out.2, HE.out.1, rfl⟩

theorem nat_lines {k : Nat} {m : Nat} (h : k ≤ 20) (hm : m ≤ 1000) : 500 * k * m ≤ 10000000 := by
  have h1 : 500 * k ≤ 10000 := by omega
  exact Nat.le_trans (Nat.mul_le_mul h1 hm) (by omega)

set_option maxHeartbeats 8000000 in
set_option maxRecDepth 100000 in
theorem value_of {k : Nat} (hS : SSaid k) : VSaid (k + 1) := by
  intro w B tb db s l nums ways tab roots x t p st h hI hW hp hst hn hm
  have HI := hide h
  have HIs := hide hI
  have HR := hide hn
  have HM := hide hm
  have HW := hide hW
  have HS := hide hS
  have hB := h.hB
  have hwl : ways.length ≤ 1000000 := by unfold Room at hm; omega
  obtain ⟨nv, wv, hb, hBt, ho1, ho2⟩ := h.ks
  clear h hI hn hm hW hS
  obtain ⟨wa, wc, rfl⟩ : ∃ wa wc, wv = .slice wa ways.length wc := by
    rcases ho2.2 with ⟨h1, h0⟩ | ⟨g, cap, cur, h1, _⟩
    · exact ⟨none, 0, by rw [h1, h0]⟩
    · exact ⟨_, _, h1⟩
  have k5 := hb.at5
  have f5 := hb.free 5
  have HB := hide hb
  have HN := hide ho1
  have HWo := hide ho2
  have HBt := hide hBt
  have hlt := hb.lt
  clear hb ho1 ho2 hBt
  obtain ⟨i0, hi, hz0, hz1, hz2⟩ := info_parts infoWay
  go_enter Tryz.func108, Tryz.ntmps108
  go_wp2_with (at_builtin; refine wpList_append_mine _ rfl (.tmp 20) (.tmp 23) 121 rfl B 119 i0 (.agg #[.string ⟨#[]⟩, .string ⟨#[]⟩]) 2 32 Tryz.underlying121 hi hz0 hz1 hz2 rfl (by decide) (.slice wa ways.length wc) ways.length (wayCells ways) rfl ?o1 ⟨w.heap.size, 0, none⟩ 1 1 (by omega) [.string (ba p), .string ⟨#[]⟩] rfl rfl ?c1 ?c2 ?c3 ?c4 ?c5 ?_)
  case o1 => exact HWo.out.alloc _
  case c1 => exact news2_heap rfl rfl
  case c2 => intro u hu; simp at hu; rcases hu with rfl | rfl <;> rfl
  case c3 => unfold maxLen; omega
  case c4 => omega
  case c5 => simp; omega
  intro v' w4 hO4 hg4 gn capn hv' hgg
  subst hv'
  have hb1 := HB.out.keep (Fr.alloc Zero _ (.cells #[.string (ba p), .string ⟨#[]⟩] 119)) (fun h => h)
  have HE := hide (KS.toldWay (p, []) hb1 HBt.out (HN.out.alloc _) (HWo.out.alloc _) (by rw [wayCells_snoc]; exact hO4) hg4 ⟨gn, capn, rfl, by simpa using hgg⟩)
  have hb4 := hb1.keep (Fr.grown (X := fun k => (Value.slice wa ways.length wc).ownBlock = some k) hg4 (fun k e _ => e)) (fun e => own_ne HWo.out HB.out.block (by decide) e)
  have q5 := hb4.at5
  have qf := hb4.free 5
  have HQ := hide (KFr.quiet (Fr.alloc Zero w (.cells #[.string (ba p), .string ⟨#[]⟩] 119)) hlt)
  clear hO4 hg4 hgg hb1 hb4 k5 f5 hi hz0 hz1 hz2
  go_wp2_with fail
  have HKF := hide (HQ.out.trans HE.out.2)
  have HI4 := hide (HI.out.keep HE.out.1 HKF.out)
  refine (HS.out _ B tb db s l nums (ways ++ [(p, [])]) tab roots x t p st HI4.out HIs.out HW.out hp hst HR.out ?_).mono ?_
  · have := HM.out
    unfold Room at *
    have h2 : (k + 1) * l.length = k * l.length + l.length := Nat.succ_mul k _
    simp
    omega
  rintro e w5 ⟨hF5, tx, nums', ways', hK5, rfl, hbd, hgd⟩
  have HF5 := hide (HKF.out.trans hF5)
  have HK5 := hide hK5
  have HBD := hide hbd
  have HGD := hide hgd
  clear hF5 hK5 hbd hgd q5 qf
  have h2 : Hid ((k + 1) * l.length = k * l.length + l.length) := Nat.succ_mul k _
  rcases hr : rMsg (k + 1) t l with ⟨_ | v, r⟩
  · rw [hr] at HK5 HBD
    have HRR := hide hr
    obtain ⟨_, _, hb5⟩ := HK5.out.block
    have g3 := hb5.at3
    simp only [Option.isNone_none] at g3
    clear hb5 hr
    go_wp2_with fail
    go_ret
    refine ⟨HF5, [], nums', ways', ?_, rfl, by simp, fun _ => ?_, fun v hv => ?_⟩
    · rw [HRR.out]; exact HK5
    · obtain ⟨q1, q2⟩ := HBD.out trivial
      have := h2.out
      simp at q2
      exact ⟨rfl, by omega, by omega⟩
    · rw [HRR.out] at hv
      simp at hv
  · obtain ⟨rfl, rfl, rfl⟩ := HGD.out v (by rw [hr])
    rw [hr] at HK5
    have HRR := hide hr
    obtain ⟨_, _, hb5⟩ := HK5.out.block
    have g3 := hb5.at3
    simp only [Option.isNone_some] at g3 HK5
    obtain ⟨hval, htx⟩ := rMsg_sound (k + 1) t l v r HW.out hr
    have hlen := (text_len (k + 1) t v HW.out hval).2
    have hll := HI.out.ks.len
    have hs := HI.out.hs
    have hml : (wMsg (k + 1) v).length ≤ 1000 := by
      have := congrArg List.length htx
      simp at this
      omega
    have HTL : Hid ((wText (k + 1) v).length ≤ 10000000) := Nat.le_trans hlen (nat_lines (by omega) hml)
    have hwe : ways ++ [(p, [])] ++ kidsW k p v = ways ++ (p, []) :: kidsW k p v := by simp
    rw [hwe] at HK5
    obtain ⟨g, cap, c1, c2, c3, hset⟩ := HK5.out.tellText
    have hset := hset (wText (k + 1) v)
    have HSET := hide hset
    have hlw : (ways.length : Int) < (((ways ++ (p, []) :: kidsW k p v).length : Nat) : Int) := by simp; omega
    have hgl := World.block_lt_of_cell? _ _ c2
    clear hb5 hr hval htx hlen hll hs hml hset hwe
    generalize (ways ++ (p, []) :: kidsW k p v).length = wl at *
    go_wp2_with fail
    go_ret
    refine ⟨HF5.out.trans HSET.out.2, wText (k + 1) v, nums ++ numsOf (k + 1) st v, ways ++ waysOf (k + 1) p v, ?_, rfl, HTL, fun h => ?_, fun v' hv => ?_⟩
    · rw [HRR.out]; exact HSET.out.1
    · rw [HRR.out] at h
      simp at h
    · rw [HRR.out] at hv
      simp at hv
      subst hv
      exact ⟨rfl, rfl, rfl⟩

end Go.Proofs.YtnhkalnihjkoeaaGreatDoor

namespace Go.Proofs.YtnhkalnihjkoeaaGreatDoor

theorem kids_len {α : Type} {f : Nat → PV → List α} {k : Nat} : ∀ (l : List PV) (i : Nat), (∀ x ∈ l, ∀ j, (f j x).length ≤ k * (wMsg k x).length) → (kids f i l).length ≤ k * (l.flatMap (wMsg k)).length := by
  intro l
  induction l with
  | nil => intro i _; simp [kids]
  | cons x l ih =>
    intro i h
    have h1 := h x (by simp) i
    have h2 := ih (i + 1) (fun y hy => h y (by simp [hy]))
    simp only [kids, List.length_append, List.flatMap_cons, Nat.mul_add]
    omega

theorem Valid.parts {k : Nat} {t : PT} {v : PV} (hW : WFT (k + 1) t) (h : Valid (k + 1) t v) : (∀ x ∈ v.parts, ∃ u, WFT k u ∧ Valid k u x) ∧ (v.parts.flatMap (wMsg k)).length ≤ (wMsg (k + 1) v).length := by
  obtain ⟨vt, vn, vb, vp⟩ := v
  obtain ⟨e, h⟩ := h
  simp only at e
  subst e
  rw [wMsg_mk]
  simp only at h ⊢
  by_cases h2 : vt.kind ≤ 2
  · rw [if_pos h2] at h ⊢; rw [h.2.1]; simp
  rw [if_neg h2] at h ⊢
  by_cases h3 : vt.kind = 3
  · rw [if_pos h3] at h ⊢; rw [h.2.1]; simp
  rw [if_neg h3] at h ⊢
  by_cases h4 : vt.kind = 4
  · rw [if_pos h4] at h ⊢; rw [h.2.1]; simp
  rw [if_neg h4] at h ⊢
  by_cases h5 : vt.kind = 5
  · rw [if_pos h5] at h; rw [if_pos (by omega)]; rw [h.2.1]; simp
  rw [if_neg h5] at h
  by_cases h6 : vt.kind = 6
  · rw [if_pos h6] at h; rw [if_pos (by omega)]; rw [h.2.1]; simp
  rw [if_neg h6] at h
  rw [if_neg (by omega)]
  by_cases h7 : vt.kind = 7
  · rw [if_pos h7] at h
    rw [if_pos (by omega)]
    have hs : vt.subs.length = 1 := hW.2.2.2.2.1 (.inl h7)
    exact ⟨fun x hx => ⟨_, hW.sub (i := 0) (by omega), h.2.2.2 x hx⟩, by simp⟩
  rw [if_neg h7] at h
  by_cases h8 : vt.kind = 8
  · rw [if_pos h8] at h
    rw [if_pos (by omega)]
    have hs : vt.subs.length = 1 := hW.2.2.2.2.1 (.inr h8)
    exact ⟨fun x hx => ⟨_, hW.sub (i := 0) (by omega), h.2.2.2 x hx⟩, by simp⟩
  rw [if_neg h8] at h
  rw [if_neg (by omega)]
  by_cases h9 : vt.kind = 9
  · rw [if_pos h9] at h ⊢
    refine ⟨fun x hx => ?_, by simp⟩
    obtain ⟨i, hi, he⟩ := List.getElem_of_mem hx
    exact ⟨_, hW.sub (i := i) (by omega), h.2.2.2 i x (by simp [hi, he])⟩
  · rw [if_neg h9] at h ⊢
    obtain ⟨_, i, x, _, h2', rfl, h4'⟩ := h
    refine ⟨fun y hy => ?_, by simp⟩
    simp at hy
    subst hy
    exact ⟨_, hW.sub h2', h4'⟩

theorem told_len : ∀ (k : Nat) (t : PT) (v : PV), WFT k t → Valid k t v → (∀ st, (numsOf k st v).length ≤ k * (wMsg k v).length) ∧ (∀ p, (waysOf k p v).length ≤ k * (wMsg k v).length) := by
  intro k
  induction k with
  | zero => intro t v h; exact h.elim
  | succ k ih =>
    intro t v hW hV
    have h0 := (text_len (k + 1) t v hW hV).1
    obtain ⟨h1, h2⟩ := hV.parts hW
    have hm : (k + 1) * (wMsg (k + 1) v).length = k * (wMsg (k + 1) v).length + (wMsg (k + 1) v).length := Nat.succ_mul k _
    have hk : k * (v.parts.flatMap (wMsg k)).length ≤ k * (wMsg (k + 1) v).length := Nat.mul_le_mul_left k h2
    refine ⟨fun st => ?_, fun p => ?_⟩
    · simp only [numsOf]
      split
      · simp; omega
      · have := kids_len (f := fun i x => numsOf k (under st (starOf v.of v.num i)) x) (k := k) v.parts 0 (fun x hx j => by obtain ⟨u, q1, q2⟩ := h1 x hx; exact (ih u x q1 q2).1 _)
        omega
    · rw [waysOf_mk]
      have := kids_len (f := fun i x => waysOf k (under p (stepOf v.of v.num i)) x) (k := k) v.parts 0 (fun x hx j => by obtain ⟨u, q1, q2⟩ := h1 x hx; exact (ih u x q1 q2).2 _)
      simp only [List.length_cons]
      unfold kidsW
      omega

/-- After a value that was read, as much may be told as before. -/
theorem told_room {k : Nat} {t : PT} {l r : Bs} {v : PV} (hW : WFT k t) (h : rMsg k t l = (some v, r)) : r.length ≤ l.length ∧ (∀ st, (numsOf k st v).length + k * r.length ≤ k * l.length) ∧ (∀ p, (waysOf k p v).length + k * r.length ≤ k * l.length) := by
  obtain ⟨hV, hl⟩ := rMsg_sound k t l v r hW h
  obtain ⟨h1, h2⟩ := told_len k t v hW hV
  have hll : l.length = (wMsg k v).length + r.length := by rw [hl]; simp
  rw [hll, Nat.mul_add]
  exact ⟨by omega, fun st => by have := h1 st; omega, fun p => by have := h2 p; omega⟩

end Go.Proofs.YtnhkalnihjkoeaaGreatDoor

namespace Go.Proofs.YtnhkalnihjkoeaaGreatDoor
open Go.RowKit

/-- After i fields. -/
def RecInv (k : Nat) (t : PT) (p st l : Bs) (nums : List (Bs × Int)) (ways : List (Bs × Bs)) (i : Nat) (bad : Bool) (r tx : Bs) (nums' : List (Bs × Int)) (ways' : List (Bs × Bs)) : Prop :=
  (bad = false → ∃ vs : List PV, vs.length = i ∧ mFields (rMsg k) t.subs [] l = mFields (rMsg k) (t.subs.drop i) vs r ∧ tx = wBetween (wText k) vs ∧ nums' = nums ++ kids (fun j x => numsOf k (under st (t.name j)) x) 0 vs ∧ ways' = ways ++ kids (fun j x => waysOf k (under p (t.name j)) x) 0 vs ∧
    nums'.length + k * r.length ≤ nums.length + k * l.length ∧ ways'.length + k * r.length ≤ ways.length + k * l.length ∧ r.length ≤ l.length) ∧
  (bad = true → 1 ≤ i ∧ mFields (rMsg k) t.subs [] l = (none, r) ∧ nums'.length ≤ nums.length + k * l.length + 6 * k ∧ ways'.length ≤ ways.length + k * l.length + 6 * k + (i - 1))

theorem ba_plus0 (x : Bs) : ba x ++ ⟨#[]⟩ = ba x := (ba_append x []).trans (by simp)
def sepOf (i : Nat) : Bs := if i = 0 then [] else [44]

theorem RecInv.good {k : Nat} {t : PT} {p st l : Bs} {nums : List (Bs × Int)} {ways : List (Bs × Bs)} {i : Nat} {r tx : Bs} {nums1 : List (Bs × Int)} {ways1 : List (Bs × Bs)} (h : RecInv k t p st l nums ways i false r tx nums1 ways1) (hi : i < t.subs.length) (hW : WFT k (t.sub i))
    {ty : Bs} {nums2 : List (Bs × Int)} {ways2 : List (Bs × Bs)} (hb : (rMsg k (t.sub i) r).1 = none → ty = [] ∧ nums2.length ≤ nums1.length + k * r.length + 6 * k ∧ ways2.length ≤ ways1.length + k * r.length + 6 * k)
    (hg : ∀ v, (rMsg k (t.sub i) r).1 = some v → ty = wText k v ∧ nums2 = nums1 ++ numsOf k (under st (t.name i)) v ∧ ways2 = ways1 ++ waysOf k (under p (t.name i)) v) :
    RecInv k t p st l nums ways (i + 1) (rMsg k (t.sub i) r).1.isNone (rMsg k (t.sub i) r).2 (tx ++ sepOf i ++ ty) nums2 ways2 := by
  obtain ⟨vs, h1, h2, h3, h4, h5, h6, h7, h8⟩ := h.1 rfl
  have hd : t.subs.drop i = t.sub i :: t.subs.drop (i + 1) := by
    rw [List.drop_eq_getElem_cons hi]
    unfold PT.sub
    simp [hi]
  rw [hd] at h2
  simp only [mFields] at h2
  rcases hr : rMsg k (t.sub i) r with ⟨_ | v, r'⟩
  · rw [hr] at h2 hb
    obtain ⟨_, q2, q3⟩ := hb rfl
    exact ⟨fun h => by simp at h, fun _ => ⟨by omega, h2, by omega, by omega⟩⟩
  · rw [hr] at h2 hg
    obtain ⟨q1, q2, q3⟩ := hg v rfl
    obtain ⟨g1, g2, g3⟩ := told_room hW hr
    refine ⟨fun _ => ⟨vs ++ [v], by simp [h1], h2, ?_, ?_, ?_, ?_, ?_, by simp only; omega⟩, fun h => by simp at h⟩
    · rw [wBetween_more, h3, q1]
      unfold sepOf
      rw [h1]
      simp
    · rw [kids_snoc, q2, h4, h1]
      simp
    · rw [kids_snoc, q3, h5, h1]
      simp
    · have := g2 (under st (t.name i))
      rw [q2]
      simp only [List.length_append]
      omega
    · have := g3 (under p (t.name i))
      rw [q3]
      simp only [List.length_append]
      omega
theorem RecInv.more {k : Nat} {t : PT} {p st l : Bs} {nums : List (Bs × Int)} {ways : List (Bs × Bs)} {i : Nat} {r tx : Bs} {nums1 : List (Bs × Int)} {ways1 : List (Bs × Bs)} (h : RecInv k t p st l nums ways i true r tx nums1 ways1) (ty : Bs) (q : Bs × Bs) : RecInv k t p st l nums ways (i + 1) true r ty nums1 (ways1 ++ [q]) := by
  obtain ⟨h1, h2, h3, h4⟩ := h.2 rfl
  exact ⟨fun h => by simp at h, fun _ => ⟨by omega, h2, h3, by simp; omega⟩⟩

set_option maxHeartbeats 8000000 in
set_option maxRecDepth 100000 in
theorem sev_record {w : World} {B tb db : Nat} {s : ByteArray} {l : Bs} {nums : List (Bs × Int)} {ways : List (Bs × Bs)} {tab : List RT} {roots : List Nat} {k x : Nat} {t : PT} (hV : VSaid k) (p st : Bs) (h : SIn w B tb db s l nums ways tab roots) (hI : Is tab x t) (hk : t.kind = 9) (hW : WFT (k + 1) t)
    (hp : p.length + 500 * (k + 1) ≤ 10000) (hst : st.length + 500 * (k + 1) ≤ 10000) (hn : Room (k + 1) nums.length l.length) (hm : Room k ways.length l.length) :
    Calls Tryz.prog 179 #[.pointer (some ⟨tb, 0, none⟩), .int .i64 x, .string (ba p), .string (ba st)] w fun e w' => SPost tb B db s nums ways k t p st l w e w' := by
  obtain ⟨nv, wv, hb⟩ := h.ks.block
  have h0 := hb.at0
  have h3 := hb.at3
  have HI := hide h
  have HIs := hide hI
  have HR := hide hn
  have HM := hide hm
  have HW := hide hW
  have HV := hide hV
  have hlt := hb.lt
  clear h hI hn hm hW hV hb
  go_enter Tryz.func179, Tryz.ntmps179
  go_wp2_with fail
  refine (at_tab HI.out.df x t HIs.out HI.out.hB HI.out.tl).mono ?_
  rintro e w1 ⟨hF1, row, o, nv1, a, rfl, hrow, hRT⟩
  have hsl := HW.out.2.2.2.2.2.1.1
  have hpos := HW.out.2.2.2.1 (by omega)
  have hol : row.of.length = t.subs.length := hrow.len
  have hkk := hrow.kind
  have hnl : row.names.length = t.subs.length := (hrow.nml (by omega)).trans hol
  have htn : row.names = t.names := by
    have := hrow.nms
    unfold namesR at this
    rw [if_neg (by intro h; rw [List.isEmpty_iff] at h; rw [h] at hnl; simp at hnl; omega)] at this
    exact this
  rw [hkk] at hRT ⊢
  have hRT1 := hRT.keep hF1.of0
  obtain ⟨go, co, rfl, hT9⟩ := T9.new hRT1 (by omega)
  obtain ⟨gn, cn, rfl, hN9⟩ := N9.new hRT1 htn (by rw [htn] at hnl; omega)
  obtain ⟨pa, qa, rfl⟩ := hRT.2.2.2.shape
  have hnl' : t.names.length = t.subs.length := by rw [← htn]; exact hnl
  have HSUB := hide hrow.sub
  have HNM : Hid (∀ i, (t.name i).length ≤ 400) := fun i => by
    unfold PT.name
    rcases hq : t.names[i]? with _ | n
    · simp
    · have := HW.out.2.2.2.2.2.1.2 n (List.mem_of_getElem? hq)
      simpa using this
  have HF1 := hide (hF1.trans (Fr.alloc Zero w1 (.cells #[.int .i64 t.kind, .slice (some ⟨go, 0, none⟩) row.of.length co, .slice (some ⟨gn, 0, none⟩) t.names.length cn, .slice pa (ints row.ats).length qa] 293)))
  have HT9 := hide hT9
  have HN9 := hide (hN9.quiet (Fr.alloc Zero w1 (.cells #[.int .i64 t.kind, .slice (some ⟨go, 0, none⟩) row.of.length co, .slice (some ⟨gn, 0, none⟩) t.names.length cn, .slice pa (ints row.ats).length qa] 293)))
  have HOL := hide hol
  have HNL := hide hnl'
  have HE : Hid (rMsg (k + 1) t l = ((mFields (rMsg k) t.subs [] l).1.map (vParts t 0), (mFields (rMsg k) t.subs [] l).2)) := by show _ = _; simp only [rMsg]; rw [if_neg (by omega), if_neg (by omega), if_neg (by omega), if_neg (by omega), if_neg (by omega), if_neg (by omega), if_neg (by omega), if_pos hk]
  obtain ⟨m, hm⟩ : ∃ m, t.subs.length = m := ⟨_, rfl⟩
  rw [hm] at HOL HNL hpos hsl hol hnl'
  simp only [hol, hnl', hk] at HT9 HN9 HF1 ⊢
  have HKK := hide hk
  have HMM := hide hm
  clear hF1 hrow hRT hRT1 hkk hT9 hol hk hN9 hnl hnl' htn hm
  have HI1 := hide (HI.out.quiet HF1.out)
  have HKF0 := hide (KFr.quiet HF1.out hlt)
  go_wp2_with fail
  go_loopw [15, 16] (fun sv iv wr => ∃ (i : Nat) (bad : Bool) (r tx : Bs) (nums1 : List (Bs × Int)) (ways1 : List (Bs × Bs)), i ≤ m ∧ iv = .int .i64 i ∧ sv = .string (ba tx) ∧ tx.length ≤ i * 10000001 ∧ Hid (RecInv k t p st l nums ways i bad r tx nums1 ways1) ∧
    Hid (KS wr B tb db s r bad nums1 ways1) ∧ Hid (KFr tb w wr) ∧ Hid (T9 wr B w1.heap.size row 9 go co (.slice (some ⟨gn, 0, none⟩) m cn) (.slice pa (ints row.ats).length qa)) ∧ Hid (N9 wr B gn t)) (fun _ iv _ => m - (intOf iv).toNat)
  case atStart => exact ⟨0, false, l, [], nums, ways, by omega, rfl, rfl, by simp, ⟨fun _ => ⟨[], rfl, rfl, rfl, by simp [kids], by simp [kids], by omega, by omega, by omega⟩, fun h => by simp at h⟩, HI1.out.ks, HKF0, HT9, HN9⟩
  case round =>
    obtain ⟨i, bad, r, tx, nums1, ways1, him, rfl, rfl, htx, HV1, HKr, HF, HTr, HNr⟩ := hrel
    have c1 := HTr.out.at1n HOL.out
    by_cases hlt' : i < m
    · have hI : (i : Int) < (m : Int) := by omega
      have c2 := HTr.out.of i (by rw [HOL.out]; omega)
      have c3 := HTr.out.at2
      have c4 := HNr.out.nm i (by rw [HNL.out]; omega)
      have HWs := hide (HW.out.sub (i := i) (by rw [HMM.out]; omega))
      have hnm := HNM.out i
      have hu1 := under_size p (t.name i)
      have hu2 := under_size st (t.name i)
      have HU1 : Hid (p.length + (t.name i).length + 1 ≤ 1000000) := by show _ ≤ _; omega
      have HU2 : Hid (st.length + (t.name i).length + 1 ≤ 1000000) := by show _ ≤ _; omega
      have HKd := hide (HKr.out.quiet (Fr.drew Zero wr))
      have HTd := hide (HTr.out.quiet (Fr.drew Zero wr))
      have HNd := hide (HNr.out.quiet (Fr.drew Zero wr))
      have HO1 : Hid (i < row.of.length) := by show _ < _; have := HOL.out; omega
      have HO2 : Hid (i < t.names.length) := by show _ < _; have := HNL.out; omega
      have HFd := hide (HF.out.trans (KFr.quiet (Fr.drew Zero wr) HKr.out.lt))
      obtain ⟨nm, hnme⟩ : ∃ nm, t.name i = nm := ⟨_, rfl⟩
      have HNME := hide hnme
      rw [hnme] at c4 HU1 HU2 hnm hu1 hu2
      clear hnme
      cases bad with
      | true =>
        obtain ⟨b1, b2, b3, b4⟩ := HV1.out.2 rfl
        have HBd : Hid (B ≤ wr.drew.heap.size) := by show _ ≤ _; have := HI.out.hB; have := HFd.out.fr.size; omega
        have HWl : Hid (ways1.length ≤ 1000100) := by
          have := HM.out
          unfold Room at this
          show _ ≤ 1000100
          omega
        clear b2 b3 b4 hu1 hu2
        have hi0 : ¬ i = 0 := by omega
        have z1 := ba_size (tx ++ [44])
        simp only [List.length_append, List.length_cons, List.length_nil] at z1
        replace z1 : (ba (tx ++ [44])).size = tx.length + 1 := z1
        have a44 : ba tx ++ ⟨#[44]⟩ = ba (tx ++ [44]) := ba_append tx [44]
        have z0 := ba_size tx
        have n0 : ¬ (9223372036854775807 < tx.length + 1) := by omega
        have hg0 : (0 : Int) < (i : Int) := by omega
        have hg1 : decide (0 < i) = true := decide_eq_true (by omega)
        have HSEP : Hid (sepOf i = [44]) := if_neg (by omega)
        go_wp2_with fail
        go_region_held3 (fun W => W.cell? ⟨w1.heap.size, 1, none⟩ = some (.slice (some ⟨go, 0, none⟩) m co) ∧ W.cell? ⟨go, i, none⟩ = some (.int .i64 (numAt row.of i : Nat)) ∧ W.cell? ⟨w1.heap.size, 2, none⟩ = some (.slice (some ⟨gn, 0, none⟩) m cn) ∧ W.cell? ⟨gn, i, none⟩ = some (.string (ba nm))) (first | exact ⟨by assumption, by assumption, by assumption, by assumption⟩) (first | (go_at_call 252; refine (under_any _ nm _ (by first | exact HU1.out | exact HU2.out)).mono ?_; rintro e w' ⟨rfl, rfl⟩) | (go_at_call 108; refine (value_bad _ (under p nm) _ HKd.out HBd.out HWl.out).mono ?_; rintro e w4 ⟨hF4, hK4, rfl⟩; have d1 := (HTd.out.keep HKd.out hF4).at1n HOL.out; have d2 := (HTd.out.keep HKd.out hF4).of i HO1.out; have d3 := (HTd.out.keep HKd.out hF4).at2; have d4 := (HNd.out.keep HKd.out hF4).nm i HO2.out; rw [HNME.out] at d4; have HT4 := hide (HTd.out.keep HKd.out hF4); have HN4 := hide (HNd.out.keep HKd.out hF4); have HF4 := hide (HFd.out.trans hF4); have HK4 := hide hK4; clear hF4 hK4))
        all_goals
          go_wp2_with fail
          go_roundw
          case rel =>
            (repeat apply Exists.intro)
            refine ⟨?r2, rfl⟩
            case r2 => exact ⟨i + 1, true, r, (tx ++ [44]), nums1, _, by omega, by go_num, by rw [ba_plus0], by simp only [List.length_append, List.length_cons, List.length_nil]; omega, HV1.out.more _ _, HK4, HF4, HT4, HN4⟩
          case measure => simp [intOf]; omega

      | false =>
        obtain ⟨vs, b1, b2, b3, b4, b5, b6, b7, b8⟩ := HV1.out.1 rfl
        have HI2 := hide (HI.out.keep HKr.out HF.out)
        have HIsub := hide (HSUB.out i (by rw [HMM.out]; omega))
        have HVC : Hid (∀ W, Fr Zero wr W → Calls Tryz.prog 108 #[.pointer (some ⟨tb, 0, none⟩), .int .i64 (numAt row.of i : Nat), .string (ba (under p nm)), .string (ba (under st nm))] W fun e w' => VPost tb B db s nums1 ways1 k (t.sub i) (under p nm) (under st nm) r W e w') := fun W hf =>
          HV.out W B tb db s r nums1 ways1 tab roots _ (t.sub i) _ _ (HI2.out.quiet hf) HIsub.out HWs.out (by omega) (by omega) (by have := HR.out.less (Nat.le_refl _); unfold Room at *; omega) (by have := HM.out; unfold Room at *; omega)
        clear b1 b2 b3 b4 b5 b6 b7 b8 hu1 hu2
        by_cases hi0 : i = 0
        · have z1 := ba_size tx
          subst hi0
          have HSEP : Hid (sepOf 0 = []) := rfl
          go_wp2_with fail
          go_region_held3 (fun W => W.cell? ⟨w1.heap.size, 1, none⟩ = some (.slice (some ⟨go, 0, none⟩) m co) ∧ W.cell? ⟨go, 0, none⟩ = some (.int .i64 (numAt row.of 0 : Nat)) ∧ W.cell? ⟨w1.heap.size, 2, none⟩ = some (.slice (some ⟨gn, 0, none⟩) m cn) ∧ W.cell? ⟨gn, 0, none⟩ = some (.string (ba nm))) (first | exact ⟨by assumption, by assumption, by assumption, by assumption⟩) (first | (go_at_call 252; refine (under_any _ nm _ (by first | exact HU1.out | exact HU2.out)).mono ?_; rintro e w' ⟨rfl, rfl⟩) | (go_at_call 108; refine (HVC.out _ (Fr.drew _ _)).mono ?_; rintro e w4 ⟨hF4, ty, nums2, ways2, hK4, rfl, htl, hbd, hgd⟩; have hz4 := ba_size ty; have hn4 : ¬ (9223372036854775807 < tx.length + ty.length) := (by omega); have hn5 : (ty.length : Nat) ≤ 10000000 := htl; have d1 := (HTd.out.keep HKd.out hF4).at1n HOL.out; have d2 := (HTd.out.keep HKd.out hF4).of 0 HO1.out; have d3 := (HTd.out.keep HKd.out hF4).at2; have d4 := (HNd.out.keep HKd.out hF4).nm 0 HO2.out; rw [HNME.out] at d4; have HT4 := hide (HTd.out.keep HKd.out hF4); have HN4 := hide (HNd.out.keep HKd.out hF4); have HF4 := hide (HFd.out.trans hF4); have HK4 := hide hK4; have HBD := hide hbd; have HGD := hide hgd; clear hF4 hK4 hbd hgd))
          all_goals
            go_wp2_with fail
            go_roundw
            case rel =>
              have hV2 := HV1.out.good (i := 0) (by rw [HMM.out]; omega) HWs.out (by rw [HNME.out] at *; exact HBD.out) (by rw [HNME.out]; exact HGD.out)
              rw [HSEP.out] at hV2
              (repeat apply Exists.intro)
              refine ⟨?r2, rfl⟩
              case r2 => exact ⟨0 + 1, _, _, tx ++ ty, nums2, ways2, by omega, by go_num, by rw [ba_append], by simp only [List.length_append]; omega, hide (by simpa using hV2), HK4, HF4, HT4, HN4⟩
            case measure => simp [intOf]; omega

        · have z1 := ba_size (tx ++ [44])
          simp only [List.length_append, List.length_cons, List.length_nil] at z1
          replace z1 : (ba (tx ++ [44])).size = tx.length + 1 := z1
          have a44 : ba tx ++ ⟨#[44]⟩ = ba (tx ++ [44]) := ba_append tx [44]
          have z0 := ba_size tx
          have n0 : ¬ (9223372036854775807 < tx.length + 1) := by omega
          have hg0 : (0 : Int) < (i : Int) := by omega
          have hg1 : decide (0 < i) = true := decide_eq_true (by omega)
          have HSEP : Hid (sepOf i = [44]) := if_neg (by omega)
          go_wp2_with fail
          go_region_held3 (fun W => W.cell? ⟨w1.heap.size, 1, none⟩ = some (.slice (some ⟨go, 0, none⟩) m co) ∧ W.cell? ⟨go, i, none⟩ = some (.int .i64 (numAt row.of i : Nat)) ∧ W.cell? ⟨w1.heap.size, 2, none⟩ = some (.slice (some ⟨gn, 0, none⟩) m cn) ∧ W.cell? ⟨gn, i, none⟩ = some (.string (ba nm))) (first | exact ⟨by assumption, by assumption, by assumption, by assumption⟩) (first | (go_at_call 252; refine (under_any _ nm _ (by first | exact HU1.out | exact HU2.out)).mono ?_; rintro e w' ⟨rfl, rfl⟩) | (go_at_call 108; refine (HVC.out _ (Fr.drew _ _)).mono ?_; rintro e w4 ⟨hF4, ty, nums2, ways2, hK4, rfl, htl, hbd, hgd⟩; have hz4 := ba_size ty; have hn4 : ¬ (9223372036854775807 < tx.length + 1 + ty.length) := (by omega); have hn5 : (ty.length : Nat) ≤ 10000000 := htl; have d1 := (HTd.out.keep HKd.out hF4).at1n HOL.out; have d2 := (HTd.out.keep HKd.out hF4).of i HO1.out; have d3 := (HTd.out.keep HKd.out hF4).at2; have d4 := (HNd.out.keep HKd.out hF4).nm i HO2.out; rw [HNME.out] at d4; have HT4 := hide (HTd.out.keep HKd.out hF4); have HN4 := hide (HNd.out.keep HKd.out hF4); have HF4 := hide (HFd.out.trans hF4); have HK4 := hide hK4; have HBD := hide hbd; have HGD := hide hgd; clear hF4 hK4 hbd hgd))
          all_goals
            go_wp2_with fail
            go_roundw
            case rel =>
              have hV2 := HV1.out.good (i := i) (by rw [HMM.out]; omega) HWs.out (by rw [HNME.out] at *; exact HBD.out) (by rw [HNME.out]; exact HGD.out)
              rw [HSEP.out] at hV2
              (repeat apply Exists.intro)
              refine ⟨?r2, rfl⟩
              case r2 => exact ⟨i + 1, _, _, (tx ++ [44]) ++ ty, nums2, ways2, by omega, by go_num, by rw [ba_append], by simp only [List.length_append, List.length_cons, List.length_nil]; omega, hide (by simpa using hV2), HK4, HF4, HT4, HN4⟩
            case measure => simp [intOf]; omega

    · have him' : i = m := by omega
      subst him'
      have hI : ¬ (i : Int) < (i : Int) := by omega
      have a1 : ⟨#[123]⟩ ++ ba tx = ba (123 :: tx) := ba_append [123] tx
      have a2 : ba (123 :: tx) ++ ⟨#[125]⟩ = ba (123 :: (tx ++ [125])) := ba_append (123 :: tx) [125]
      have z0 := ba_size tx
      have z1 := ba_size (123 :: tx)
      simp only [List.length_cons] at z1
      have n1 : ¬ (9223372036854775807 < 1 + tx.length) := by omega
      have n2 : ¬ (9223372036854775807 < tx.length + 1 + 1) := by omega
      have HD0 : Hid (t.subs.drop i = []) := by show _ = _; rw [List.drop_eq_nil_of_le]; rw [HMM.out]; exact Nat.le_refl _
      go_wp2_with fail
      go_ret
      cases bad with
      | true =>
        obtain ⟨q1, q2, q3, q4⟩ := HV1.out.2 rfl
        have h2 : (k + 1) * l.length = k * l.length + l.length := Nat.succ_mul k _
        refine ⟨HF, _, nums1, ways1, by rw [HE.out, q2]; exact HKr, rfl, fun _ => ⟨by omega, by omega⟩, fun v hv => ?_⟩
        rw [HE.out, q2] at hv
        simp at hv
      | false =>
        obtain ⟨vs, b1, b2, b3, b4, b5, _⟩ := HV1.out.1 rfl
        rw [HD0.out] at b2
        have b2' : mFields (rMsg k) t.subs [] l = (some vs, r) := b2
        have hk9 := HKK.out
        refine ⟨HF, _, nums1, ways1, by rw [HE.out, b2']; exact HKr, rfl, fun hno => ?_, fun v hv => ?_⟩
        · rw [HE.out, b2'] at hno
          simp at hno
        · rw [HE.out, b2'] at hv
          simp at hv
          subst hv
          refine ⟨?_, ?_, ?_⟩
          · show _ = ba (wText (k + 1) ⟨t, 0, [], vs⟩)
            rw [wText_mk, if_neg (by omega), if_neg (by omega), if_neg (by omega), if_neg (by omega), if_neg (by omega), if_neg (by omega), if_pos hk9, b3]
          · rw [b4]
            simp [numsOf, vParts, starOf, stepOf, hk9]
          · rw [b5]
            simp [kidsW, vParts, stepOf, hk9]

end Go.Proofs.YtnhkalnihjkoeaaGreatDoor
