/- What line does. -/
import Derived.Test.YtapblkmlhoalgaaGreatDoorAnyType
import Derived.Deep.RegionLaw
namespace Go.Proofs.YtapblkmlhoalgaaGreatDoor
open Go.RowKit

theorem step_append_mine {P : Program} {ops : Array Oper} {o : Oper} {a : Act} {w : World} {K : Act → World → Prop} {Q : Exit → Act → World → Prop} {E : Prop}
    (hg : o.guard = none) (s x : Operand) (t : TypeId) (hop : o.op = Op.call { callee := Callee.builtin Builtin.append, args := #[s, x], argTypes := #[t, t] })
    (base : Nat) (e : TypeId) (i : TypeInfo) (z : Value) (size bytes : Nat) (ht : P.underlying t = some (.slice e)) (hi : P.info? e = some i) (hz : i.zero = some z)
    (hsize : i.size = size) (hby : i.bytes = bytes) (hzs : z.cells.size = size) (hsz : 0 < size)
    (v : Value) (n : Nat) (xs : List Value) (hs : a.eval s = v) (hown : w.ownsRow base e size v n xs)
    (ad : Addr) (m c : Nat) (hm : 0 < m) (news : List Value) (hx : a.eval x = .slice (some ad) m c) (hl : news.length = m * size) (hnews : ∀ j u, news[j]? = some u → w.cell? (ad.add j) = some u) (h1 : ∀ u ∈ news, u.oneCell' = true)
    (h63 : n + m ≤ maxLen) (hbytes : (n + m) * bytes ≤ 140737488355328) (hbase : base ≤ w.heap.size)
    (hK : ∀ v' w', w'.ownsRow base e size v' (n + m) (xs ++ news) → w.grownBy w' v.ownBlock → (∃ g cap, v' = .slice (some ⟨g, 0, none⟩) (n + m) cap ∧ (v.ownBlock = some g ∨ w.heap.size ≤ g)) → K (a.put o.dst v') w') :
    if Region.wanted o (yielded ops a.tmps) = true then Oper.wp P o a w K Q else E := by
  have hw : Region.wanted o (yielded ops a.tmps) = true := by simp [Region.wanted, hg]
  rw [if_pos hw]
  obtain ⟨v', w', hrun, r1, r2, r3⟩ := run_append_mine (P := P) w base t o.type e i z size bytes ht hi hz hsize hby hzs hsz v n xs hown ad m c hm news hl hnews h1 h63 hbytes hbase
  unfold Oper.wp
  simp [execOp, hop, resolve, invoke, builtin, hs, hx, hrun, Result.andThen]
  exact hK v' w' r1 r2 r3

theorem ownsRow_heap {w w' : World} {base : Nat} {e : TypeId} {size : Nat} {v : Value} {n : Nat} {xs : List Value} {o : Obj} (h : w.ownsRow base e size v n xs) (he : w'.heap = (w.alloc o).heap) : w'.ownsRow base e size v n xs := by
  refine ⟨h.1, ?_⟩
  rcases (h.alloc o).2 with h' | ⟨g, cap, cur, hv, hb, hg, r⟩
  · exact .inl h'
  · exact .inr ⟨g, cap, cur, hv, hb, by rw [he]; exact hg, r⟩

theorem news_heap {w w' : World} {x y : Value} {t : TypeId} (he : w'.heap = (w.alloc (.cells #[x, y] t)).heap) : ∀ (j : Nat) (u : Value), [x, y][j]? = some u → w'.cell? ((⟨w.heap.size, 0, none⟩ : Addr).add j) = some u := by
  have h : w'.heap[w.heap.size]? = some (.cells #[x, y] t (0, 0)) := by rw [he]; exact heap_new_at rfl _
  intro j u hj
  match j, hj with
  | 0, hj => simp at hj; subst hj; simp [Addr.add, World.cell?, h]
  | 1, hj => simp at hj; subst hj; simp [Addr.add, World.cell?, h]
  | j + 2, hj => simp at hj

theorem after_append {W wq w' : World} {o : Obj} {pb : Nat} {s : ByteArray} {n : Nat} {lv bn td : Value} (he : W.heap = (wq.alloc o).heap) (hP : PB wq pb s n lv bn td) (hg : W.grownBy w' lv.ownBlock) (hne : ∀ g, lv.ownBlock = some g → g ≠ pb) : PB w' pb s n lv bn td := by
  have h1 : W.heap[pb]? = some (.cells #[.int .i64 n, .string s, lv, bn, td] 178 (0, 0)) := by rw [he]; exact hP.alloc o
  exact (hg.block pb (lt_of_heap h1) (fun e => hne pb e.symm rfl)).trans h1

/-- The append at the end of line, and the store behind it. -/
theorem line_end {W wq w' : World} {B pb : Nat} {s : ByteArray} {n : Nat} {lv v' : Value} {lines : List (ByteArray × PT)} {rows : List (ByteArray × Addr)} {bad deep : Option Nat} {nm : ByteArray} {a : Addr} {t : PT} {o : Obj} (he : W.heap = (wq.alloc o).heap) (hos : W.os = wq.os) (htp : W.tape = wq.tape) (hou : W.output = wq.output)
    (hO : wq.ownsRow 0 180 2 lv rows.length (rowCells rows)) (hL : LinesR wq (XO (One pb) lv) rows lines) (hS : PS wq (XO (One pb) lv) pb s n lv lines bad deep) (ht : TR wq (XO (One pb) lv) a t)
    (hlv : ∀ g, lv.ownBlock = some g → B ≤ g ∧ g ≠ pb) (hpb : B ≤ pb) (_hB : B ≤ wq.heap.size)
    (hO2 : w'.ownsRow 0 180 2 v' (rows.length + 1) (rowCells rows ++ [.string nm, .pointer (some a)])) (hg : W.grownBy w' lv.ownBlock) (hv : ∃ g cap, v' = .slice (some ⟨g, 0, none⟩) (rows.length + 1) cap ∧ (lv.ownBlock = some g ∨ W.heap.size ≤ g)) :
    PS (w'.setCell ⟨pb, 2, none⟩ v') (XO (One pb) v') pb s n v' (lines ++ [(nm, t)]) bad deep ∧ (∀ g, v'.ownBlock = some g → B ≤ g ∧ g ≠ pb) ∧ Fr (fun k => B ≤ k) wq (w'.setCell ⟨pb, 2, none⟩ v') := by
  have hF0 : Fr Zero wq W := ⟨hos, htp, hou, by rw [he]; simp, fun k hk _ => by rw [he]; exact Below.heap_alloc _ _ _ hk⟩
  have hX : XO (One pb) lv pb := .inl rfl
  have hS1 := PS.keep0 hX hS hF0
  have hL1 := hL.keep (hF0.of0 (X := XO (One pb) lv))
  have ht1 := ht.keep (hF0.of0 (X := XO (One pb) lv))
  have hO1 := ownsRow_keep hO hF0 (fun _ _ h => h)
  obtain ⟨g, cap, rfl, hgg⟩ := hv
  have hpW : pb < W.heap.size := by
    obtain ⟨bn, td, _, hP, _⟩ := hS1
    exact lt_of_heap hP
  have hgp : g ≠ pb := by
    rcases hgg with h | h
    · exact (hlv g h).2
    · omega
  have hgB : B ≤ g := by
    rcases hgg with h | h
    · exact (hlv g h).1
    · have := hF0.size; omega
  have hZ1 : ∀ b, b < W.heap.size → (XO (One pb) lv b ∨ W.heap.size ≤ b) → XO (One pb) lv b := fun b hb h => by
    rcases h with h | h
    · exact h
    · omega
  have hZ2 : ∀ b, b < w'.heap.size → XO (One pb) (.slice (some ⟨g, 0, none⟩) (rows.length + 1) cap) b → (XO (One pb) lv b ∨ W.heap.size ≤ b) := fun b _ h => by
    rcases h with h | h
    · exact .inl (.inl h)
    · simp [Value.ownBlock] at h
      subst h
      rcases hgg with h | h
      · exact .inl (.inr h)
      · exact .inr h
  have hfZ : Fr (fun b => XO (One pb) lv b ∨ W.heap.size ≤ b) W w' := Fr.grown hg (fun k e _ => .inl (.inr e))
  have hL2 : LinesR w' (XO (One pb) (.slice (some ⟨g, 0, none⟩) (rows.length + 1) cap)) (rows ++ [(nm, a)]) (lines ++ [(nm, t)]) := (((hL1.snoc ht1).avoid hZ1).keep hfZ).avoid hZ2
  have hfL : Fr (fun k => lv.ownBlock = some k) W w' := Fr.grown hg (fun k e _ => e)
  have hfS : Fr (One pb) w' (w'.setCell ⟨pb, 2, none⟩ (.slice (some ⟨g, 0, none⟩) (rows.length + 1) cap)) := Fr.setCell _ _ _ _ rfl
  obtain ⟨bn, td, rows1, hP, hOl, hlx, _, hb, hd⟩ := hS1
  have hPw : PB w' pb s n lv bn td := hfL.keep hP (fun e => (hlv pb e).2 rfl)
  have hRef : ∀ errno v r, RefV W errno v r → RefV w' errno v r := by
    intro errno v r hr
    cases r with
    | none => exact hr
    | some m =>
      obtain ⟨b, hv, hb⟩ := hr
      refine ⟨b, hv, hfL.keep hb (fun e => ?_)⟩
      obtain ⟨cur, hh⟩ := own_type hO1 e
      rw [hb] at hh
      simp at hh
  refine ⟨⟨bn, td, rows ++ [(nm, a)], hPw.set2 _, ?_, fun g' hg' => .inr hg', hL2.keep (hfS.one (.inl rfl)), (hRef _ _ _ hb).keep hPw hfS, (hRef _ _ _ hd).keep hPw hfS⟩, ?_, ?_⟩
  · rw [rowCells_snoc, List.length_append]
    exact ownsRow_keep hO2 hfS (fun g' hg' e => by simp [Value.ownBlock] at hg'; subst hg'; exact hgp e)
  · intro g' hg'
    simp [Value.ownBlock] at hg'
    subst hg'
    exact ⟨hgB, hgp⟩
  · exact (hF0.of0 (X := fun k => B ≤ k)).trans ((hfL.mono (fun k _ e => (hlv k e).1)).trans (hfS.mono (fun k _ e => by have e' : k = pb := e; omega)))

/-- A line, read: the part, and how deep. -/
def lineR (s : ByteArray) (lines : List (ByteArray × PT)) (n : Nat) (bad : Option Nat) : Res := pPart (pTyp s lines (s.size + 1)) s (lines.map (·.1)) 61 n bad
def lineDeep (r : Res) (n : Nat) (deep : Option Nat) : Option Nat := if 12 < r.t.depth then orElse deep n else deep

/-- What line leaves: the parser stands behind it; if it is one, it is among the lines. -/
def LinePost (w : World) (B pb : Nat) (s : ByteArray) (n : Nat) (lines : List (ByteArray × PT)) (deep : Option Nat) (r : Res) (e : Ending) (w' : World) : Prop :=
  Fr (fun k => B ≤ k) w w' ∧ r.n ≤ s.size ∧ e = .returned (.bool r.ok) ∧
    (r.ok = false → ∃ lv X bad' deep', PS w' X pb s r.n lv lines bad' deep') ∧
    (r.ok = true → ∃ lv, PS w' (XO (One pb) lv) pb s r.n lv (lines ++ [(nameAt s n, r.t)]) r.bad (lineDeep r n deep) ∧ ∀ g, lv.ownBlock = some g → B ≤ g ∧ g ≠ pb)

set_option maxHeartbeats 8000000 in
theorem line_any {w : World} {B pb : Nat} {s : ByteArray} {n : Nat} {lv : Value} {lines : List (ByteArray × PT)} {bad deep : Option Nat} (h : PS w (XO (One pb) lv) pb s n lv lines bad deep) (hpb : B ≤ pb) (hlv : ∀ g, lv.ownBlock = some g → B ≤ g ∧ g ≠ pb) (hw : Words w) (hs : s.size ≤ 400) (hle : n ≤ s.size)
    (hD : ∀ q ∈ lines, q.2.depth ≤ 500000) (hll : lines.length ≤ 1000) :
    Calls Tryz.prog 164 #[.pointer (some ⟨pb, 0, none⟩)] w fun e w' => LinePost w B pb s n lines deep (lineR s lines n bad) e w' := by
  have hsm : s.size ≤ maxLen := by unfold maxLen; omega
  have h0 := h.at0
  have hn1 := hide (h.not1 hw)
  have HS := hide h
  have HW := hide hw
  have HLV := hide hlv
  obtain ⟨bn, td, rows, hP, hO, hlx, hL, hbn, htd⟩ := h
  have c2 := hP.at2
  have hpl := lt_of_heap hP
  have HO := hide hO
  have hrl : rows.length = lines.length := hL.length
  have HRN := hide hL.1
  have HNE := hide (owned_ne hP hO)
  have HT := hide (typ_all hsm hD hll (s.size + 1) (by omega))
  have hXlt : Hid (∀ b, XO (One pb) lv b → b < w.heap.size) := fun b hb => by
    rcases hb with h | h
    · have h' : b = pb := h
      omega
    · exact (hO.lt b h).2
  have hX : XO (One pb) lv pb := .inl rfl
  have hrd : Hid ((lineR s lines n bad).t.depth ≤ 1000000) := by
    show (lineR s lines n bad).t.depth ≤ 1000000
    unfold lineR pPart
    split
    · exact Nat.zero_le _
    · split
      · have := pTyp_depth s lines 500000 hD (s.size + 1) (lettersTo s n 6 + 1) (nameBad s (lines.map (·.1)) n bad); omega
      · exact Nat.zero_le _
  have HRL := hide hrl
  clear hw hlv hP hO hlx hL hbn htd hD hrl
  go_enter Tryz.func164, Tryz.ntmps164
  go_wp2_with fail
  refine (at_any pb n _ h0).mono ?_
  rintro e w0 ⟨rfl, e0⟩
  obtain rfl := e0.symm
  clear h0
  go_wp2_with fail
  refine (part_at HT hX HS HW hXlt hsm hle (by omega) lv rows (by have := HRL.out; omega) HO HNE 61 61 (by omega) rfl).mono ?_
  rw [HRN.out]
  rw [show pPart (pTyp s lines (s.size + 1)) s (lines.map (·.1)) 61 n bad = lineR s lines n bad from rfl]
  generalize hre : lineR s lines n bad = r at *
  have HRE := hide hre
  clear hre
  rintro e w1 ⟨hF1, hrs, ⟨bad1, hS1, hb1⟩, nm, a, rfl, hok⟩
  have HF1 := hide hF1
  have HS1 := hide hS1
  clear hF1 hS1 c2
  rcases hr : r.ok with _ | _
  · have HR := hide hr
    clear hr hok hb1
    go_wp2_with fail
    go_ret
    rw [HRE.out]
    refine ⟨(HF1.out.mono (fun k _ e => by have e' : k = pb := e; omega)).trans (Fr.alloc _ _ _), hrs, by rw [HR.out]; rfl, fun _ => ⟨lv, _, bad1, deep, PS.keep0 hX HS1 (Fr.alloc _ _ _)⟩, fun h => by rw [HR.out] at h; cases h⟩
  · obtain ⟨hnm, a', rfl, ht⟩ := hok hr
    have hbb := hb1 hr
    subst hnm
    subst hbb
    obtain ⟨b, hb, hbl, hbx, hdc⟩ := ht.depth
    subst hb
    have HTR := hide ht
    have HR := hide hr
    clear hr hok hb1 ht
    generalize hnm : nameAt s n = nm at *
    have HNM := hide hnm
    clear hnm
    have hbw : w1.cell? ⟨b, 2, none⟩ = some (.int .i64 r.t.depth) := hdc
    have hlbp : w1.heap.size ≠ pb := by
      have := HF1.out.size
      omega
    by_cases h12 : 12 < r.t.depth
    · have HDP : Hid (lineDeep r n deep = orElse deep n) := by show lineDeep r n deep = _; unfold lineDeep; rw [if_pos h12]
      go_wp2_with fail
      refine (psRefuseDepth hX (PS.keep0 hX HS1 (Fr.alloc _ _ _)) n).mono ?_
      rintro e wq ⟨rfl, hF2, hS2⟩
      have HSq := hide hS2
      have HFz := hide hF2
      have HTq := hide ((HTR.out.keep ((Fr.alloc _ _ _))).keep (hF2.one hX))
      have HFq : Hid (Fr (fun k => B ≤ k) w wq) := (HF1.out.trans ((Fr.alloc _ _ _).trans hF2)).mono (fun k _ e => by have e' : k = pb := e; omega)
      have hBq : Hid (B ≤ wq.heap.size) := by show B ≤ wq.heap.size; have := HFq.out.size; omega
      have hlb : wq.heap[w1.heap.size]? = some (.cells #[.string nm, .pointer (some ⟨b, 0, none⟩)] 180 (0, 0)) := hF2.keep (heap_new_at rfl _) hlbp
      have l0 : wq.cell? ⟨w1.heap.size, 0, none⟩ = some (.string nm) := by rw [cell_of_heap hlb]; rfl
      have l1 : wq.cell? ⟨w1.heap.size, 1, none⟩ = some (.pointer (some ⟨b, 0, none⟩)) := by rw [cell_of_heap hlb]; rfl
      have hwq := True.intro
      clear hF2 hS2 hlb h12 hdc hbw hbl hbx
      go_wp2_with fail
      have HWQ := hide hwq
      clear hwq
      obtain ⟨bq, tq, rq, hPq, hOq, _, hLq, _, _⟩ := HSq.out
      have k2 := hPq.at2
      have kf := hPq.free 2
      have hpq := lt_of_heap hPq
      have k2a := (hPq.alloc (.cells #[.string nm, .pointer (some ⟨b, 0, none⟩)] 180)).at2
      have hrq : rq.length ≤ 1000 := by rw [hLq.length]; exact hll
      have HPq := hide hPq
      have HOq := hide hOq
      have HLq := hide hLq
      have HNEq : Hid (∀ g, lv.ownBlock = some g → g ≠ pb) := fun g hg => (HLV.out g hg).2
      clear hPq hOq hLq
      obtain ⟨i0, hi, hz0, hz1, hz2⟩ := info_parts Tryz.info67
      have m1 : Hid (rq.length + 1 ≤ maxLen) := by show rq.length + 1 ≤ maxLen; unfold maxLen; omega
      have m2 : Hid ((rq.length + 1) * 24 ≤ 140737488355328) := by show (rq.length + 1) * 24 ≤ 140737488355328; omega
      have m3 : Hid (∀ u ∈ [Value.string nm, Value.pointer (some ⟨b, 0, none⟩)], u.oneCell' = true) := by intro u hu; simp at hu; rcases hu with rfl | rfl <;> rfl
      go_region_law (refine step_append_mine rfl (.tmp 35) (.tmp 37) 176 rfl 0 180 i0 (.agg #[.string ⟨#[]⟩, .pointer none]) 2 24 Tryz.underlying176 hi hz0 hz1 hz2 rfl (by decide) lv rq.length (rowCells rq) (by simp [Act.eval]) (by exact ownsRow_heap (o := .cells #[.string nm, .pointer (some ⟨b, 0, none⟩)] 180) HOq.out (by rfl)) ⟨wq.heap.size, 0, none⟩ 1 1 (by omega) [.string nm, .pointer (some ⟨b, 0, none⟩)] (by simp [Act.eval]) rfl (by exact news_heap (w := wq) (t := 180) (by rfl)) m3.out m1.out m2.out (Nat.zero_le _) ?_; intro v' w' hO2 hg2 hv2; obtain ⟨gn, capn, rfl, hgn⟩ := hv2; have hPw := after_append (o := .cells #[.string nm, .pointer (some ⟨b, 0, none⟩)] 180) (by rfl) HPq.out hg2 HNEq.out; have k2' := hPw.at2; have kf' := hPw.free 2; have HE := hide (line_end (o := .cells #[.string nm, .pointer (some ⟨b, 0, none⟩)] 180) (by rfl) (by rfl) (by rfl) (by rfl) HOq.out HLq.out HSq.out HTq.out HLV.out hpb hBq.out hO2 hg2 ⟨gn, capn, rfl, hgn⟩); clear hO2 hg2 hgn hPw)
      all_goals
        go_wp2_with fail
        go_ret
        rw [HRE.out]
        refine ⟨HFq.out.trans HE.out.2.2, hrs, (by rw [HR.out]; rfl), (fun h => by rw [HR.out] at h; cases h), fun _ => ⟨_, ?_, HE.out.2.1⟩⟩
        rw [HNM.out, HDP.out]
        exact HE.out.1
    · have HDP : Hid (lineDeep r n deep = deep) := by show lineDeep r n deep = _; unfold lineDeep; rw [if_neg h12]
      have HSq := hide (PS.keep0 hX HS1 (Fr.alloc _ _ (.cells #[.string nm, .pointer (some ⟨b, 0, none⟩)] 180)))
      have HTq := hide (HTR.out.keep (Fr.alloc _ _ (.cells #[.string nm, .pointer (some ⟨b, 0, none⟩)] 180)))
      have HFq : Hid (Fr (fun k => B ≤ k) w (w1.alloc (.cells #[.string nm, .pointer (some ⟨b, 0, none⟩)] 180))) := (HF1.out.trans (Fr.alloc _ _ _)).mono (fun k _ e => by have e' : k = pb := e; omega)
      have hBq : Hid (B ≤ (w1.alloc (.cells #[.string nm, .pointer (some ⟨b, 0, none⟩)] 180)).heap.size) := by
        show B ≤ _
        have := HFq.out.size
        omega
      have hlb : (w1.alloc (.cells #[.string nm, .pointer (some ⟨b, 0, none⟩)] 180)).heap[w1.heap.size]? = some (.cells #[.string nm, .pointer (some ⟨b, 0, none⟩)] 180 (0, 0)) := heap_new_at rfl _
      have l0 : (w1.alloc (.cells #[.string nm, .pointer (some ⟨b, 0, none⟩)] 180)).cell? ⟨w1.heap.size, 0, none⟩ = some (.string nm) := by rw [cell_of_heap hlb]; rfl
      have l1 : (w1.alloc (.cells #[.string nm, .pointer (some ⟨b, 0, none⟩)] 180)).cell? ⟨w1.heap.size, 1, none⟩ = some (.pointer (some ⟨b, 0, none⟩)) := by rw [cell_of_heap hlb]; rfl
      clear hlb
      have HL0 := hide l0
      have HL1 := hide l1
      clear l0 l1
      go_wp2_with fail
      have l0 := HL0.out
      have l1 := HL1.out
      clear HL0 HL1
      generalize hwq : w1.alloc (.cells #[.string nm, .pointer (some ⟨b, 0, none⟩)] 180) = wq at *
      clear hbw hdc hbl hbx h12
      have HWQ := hide hwq
      clear hwq
      obtain ⟨bq, tq, rq, hPq, hOq, _, hLq, _, _⟩ := HSq.out
      have k2 := hPq.at2
      have kf := hPq.free 2
      have hpq := lt_of_heap hPq
      have k2a := (hPq.alloc (.cells #[.string nm, .pointer (some ⟨b, 0, none⟩)] 180)).at2
      have hrq : rq.length ≤ 1000 := by rw [hLq.length]; exact hll
      have HPq := hide hPq
      have HOq := hide hOq
      have HLq := hide hLq
      have HNEq : Hid (∀ g, lv.ownBlock = some g → g ≠ pb) := fun g hg => (HLV.out g hg).2
      clear hPq hOq hLq
      obtain ⟨i0, hi, hz0, hz1, hz2⟩ := info_parts Tryz.info67
      have m1 : Hid (rq.length + 1 ≤ maxLen) := by show rq.length + 1 ≤ maxLen; unfold maxLen; omega
      have m2 : Hid ((rq.length + 1) * 24 ≤ 140737488355328) := by show (rq.length + 1) * 24 ≤ 140737488355328; omega
      have m3 : Hid (∀ u ∈ [Value.string nm, Value.pointer (some ⟨b, 0, none⟩)], u.oneCell' = true) := by intro u hu; simp at hu; rcases hu with rfl | rfl <;> rfl
      go_region_law (refine step_append_mine rfl (.tmp 35) (.tmp 37) 176 rfl 0 180 i0 (.agg #[.string ⟨#[]⟩, .pointer none]) 2 24 Tryz.underlying176 hi hz0 hz1 hz2 rfl (by decide) lv rq.length (rowCells rq) (by simp [Act.eval]) (by exact ownsRow_heap (o := .cells #[.string nm, .pointer (some ⟨b, 0, none⟩)] 180) HOq.out (by rfl)) ⟨wq.heap.size, 0, none⟩ 1 1 (by omega) [.string nm, .pointer (some ⟨b, 0, none⟩)] (by simp [Act.eval]) rfl (by exact news_heap (w := wq) (t := 180) (by rfl)) m3.out m1.out m2.out (Nat.zero_le _) ?_; intro v' w' hO2 hg2 hv2; obtain ⟨gn, capn, rfl, hgn⟩ := hv2; have hPw := after_append (o := .cells #[.string nm, .pointer (some ⟨b, 0, none⟩)] 180) (by rfl) HPq.out hg2 HNEq.out; have k2' := hPw.at2; have kf' := hPw.free 2; have HE := hide (line_end (o := .cells #[.string nm, .pointer (some ⟨b, 0, none⟩)] 180) (by rfl) (by rfl) (by rfl) (by rfl) HOq.out HLq.out HSq.out HTq.out HLV.out hpb hBq.out hO2 hg2 ⟨gn, capn, rfl, hgn⟩); clear hO2 hg2 hgn hPw)
      all_goals
        go_wp2_with fail
        go_ret
        rw [HRE.out]
        refine ⟨HFq.out.trans HE.out.2.2, hrs, (by rw [HR.out]; rfl), (fun h => by rw [HR.out] at h; cases h), fun _ => ⟨_, ?_, HE.out.2.1⟩⟩
        rw [HNM.out, HDP.out]
        exact HE.out.1

end Go.Proofs.YtapblkmlhoalgaaGreatDoor
