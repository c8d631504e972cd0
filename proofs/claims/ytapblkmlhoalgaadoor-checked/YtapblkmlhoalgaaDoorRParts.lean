/- The other reader's parts. -/
import Derived.Test.YtapblkmlhoalgaaDoorRGrow
namespace Go.Proofs.YtapblkmlhoalgaaDoor
open Go.RowKit

def RTypPost (w : World) (X : Nat → Prop) (db : Nat) (s : ByteArray) (tv lv av rv : Value) (r : RS × Nat) (e : Ending) (w' : World) : Prop :=
  e = .returned (.int .i64 r.2) ∧ Fr (Ch db tv) w w' ∧ r.1.n ≤ s.size ∧ ∃ tv', DS w' X db s r.1.n r.1.bad tv' lv av rv r.1.tab ∧ (∀ g, tv'.ownBlock = some g → tv.ownBlock = some g ∨ w.heap.size ≤ g)

def RTypSaid (s : ByteArray) (f : Nat) : Prop :=
  ∀ (w : World) (X : Nat → Prop) (db n : Nat) (bad : Bool) (tv lv av rv : Value) (tab : List RT), DS w X db s n bad tv lv av rv tab → X db → (∀ b, X b → b < w.heap.size) → n ≤ s.size → (bad = true ∨ s.size < n + f) → tab.length + (s.size - n) ≤ 5000 →
    Calls Tryd.prog 17 #[.pointer (some ⟨db, 0, none⟩)] w fun e w' => RTypPost w X db s tv lv av rv (rTyp s f ⟨n, bad, tab⟩) e w'

theorem Tryd.info3 : (Tryd.prog.info? 3).map (fun i => (i.zero, i.size, i.bytes)) = some (some (.int .i64 0), 1, 8) := by kernel_rfl
theorem Tryd.info9 : (Tryd.prog.info? 9).map (fun i => (i.zero, i.size, i.bytes)) = some (some (.string ⟨#[]⟩), 1, 16) := by kernel_rfl

theorem news1_heap {w w' : World} {x : Value} {t : TypeId} {k : Nat} (hk : w.heap.size = k) (he : w'.heap = (w.alloc (.cells #[x] t)).heap) : ∀ (j : Nat) (q : Value), [x][j]? = some q → w'.cell? ((⟨k, 0, none⟩ : Addr).add j) = some q := by
  subst hk
  have h : w'.heap[w.heap.size]? = some (.cells #[x] t (0, 0)) := by rw [he]; exact heap_new_at rfl _
  intro j q hj
  match j, hj with
  | 0, hj => simp at hj; subst hj; simp [Addr.add, World.cell?, h]
  | j + 1, hj => simp at hj

/-- How many parts the growing row has. -/
def ofLen (tb : Nat) (w : World) : Nat := match w.cell? ⟨tb, 1, none⟩ with
  | some (.slice _ n _) => n
  | _ => 0
theorem TB.ofLen {w : World} {B tb : Nat} {t : RT} {o nv a : Value} (h : TB w B tb t o nv a) : ofLen tb w = t.of.length := by
  unfold Proofs.YtapblkmlhoalgaaDoor.ofLen
  rw [h.cell.2.1]
  rcases h.so.2 with ⟨rfl, e⟩ | ⟨g, cap, cur, rfl, _⟩
  · exact e.symm
  · rfl

theorem heapF {w w' : World} {o : Obj} (he : w'.heap = (w.alloc o).heap) (hos : w'.os = w.os) (htp : w'.tape = w.tape) (hou : w'.output = w.output) : Fr Zero w w' :=
  ⟨hos, htp, hou, by rw [he]; simp, fun k hk _ => by rw [he]; exact Below.heap_alloc _ _ _ hk⟩

/-- The append to the places, and the store. -/
theorem ats_end {W wq w' : World} {X : Nat → Prop} {B tb db : Nat} {s : ByteArray} {n : Nat} {bad : Bool} {tv lv av rv o nv a v' : Value} {tab : List RT} {t : RT} {x : Nat} {ob : Obj} (he : W.heap = (wq.alloc ob).heap) (hos : W.os = wq.os) (htp : W.tape = wq.tape) (hou : W.output = wq.output)
    (hT : TB wq B tb t o nv a) (hS : DS wq (XT X tb o nv a) db s n bad tv lv av rv tab) (hXB : ∀ b, X b → b < B) (hX : X db) (htv : ∀ g, tv.ownBlock = some g → g ≠ tb)
    (hO2 : w'.ownsRow 0 3 1 v' (t.ats.length + 1) (ints t.ats ++ [.int .i64 x])) (hg : W.grownBy w' a.ownBlock) (hv : ∃ g cap, v' = .slice (some ⟨g, 0, none⟩) (t.ats.length + 1) cap ∧ (a.ownBlock = some g ∨ W.heap.size ≤ g)) (hB : B ≤ wq.heap.size) :
    TB (w'.setCell ⟨tb, 3, none⟩ v') B tb ⟨t.kind, t.of, t.names, t.ats ++ [x]⟩ o nv v' ∧ DS (w'.setCell ⟨tb, 3, none⟩ v') (XT X tb o nv v') db s n bad tv lv av rv tab ∧ Fr (fun k => B ≤ k) wq (w'.setCell ⟨tb, 3, none⟩ v') := by
  have hF := heapF he hos htp hou
  obtain ⟨h1, h2, h3⟩ := tb_grow_a x (hT.keep hF (fun _ _ h => h)) (hS.keep0 hF) hXB hX htv hO2 hg hv (Nat.le_trans hB hF.size)
  exact ⟨h1, h2, hF.of0.trans h3⟩

/-- The append to the names, and the store. -/
theorem names_end {W wq w' : World} {X : Nat → Prop} {B tb db : Nat} {s : ByteArray} {n : Nat} {bad : Bool} {tv lv av rv o nv a v' : Value} {tab : List RT} {t : RT} {x : ByteArray} {ob : Obj} (he : W.heap = (wq.alloc ob).heap) (hos : W.os = wq.os) (htp : W.tape = wq.tape) (hou : W.output = wq.output)
    (hT : TB wq B tb t o nv a) (hS : DS wq (XT X tb o nv a) db s n bad tv lv av rv tab) (hXB : ∀ b, X b → b < B) (hX : X db) (htv : ∀ g, tv.ownBlock = some g → g ≠ tb)
    (hO2 : w'.ownsRow 0 9 1 v' (t.names.length + 1) (texts t.names ++ [.string x])) (hg : W.grownBy w' nv.ownBlock) (hv : ∃ g cap, v' = .slice (some ⟨g, 0, none⟩) (t.names.length + 1) cap ∧ (nv.ownBlock = some g ∨ W.heap.size ≤ g)) (hB : B ≤ wq.heap.size) :
    TB (w'.setCell ⟨tb, 2, none⟩ v') B tb ⟨t.kind, t.of, t.names ++ [x], t.ats⟩ o v' a ∧ DS (w'.setCell ⟨tb, 2, none⟩ v') (XT X tb o v' a) db s n bad tv lv av rv tab ∧ Fr (fun k => B ≤ k) wq (w'.setCell ⟨tb, 2, none⟩ v') := by
  have hF := heapF he hos htp hou
  obtain ⟨h1, h2, h3⟩ := tb_grow_n x (hT.keep hF (fun _ _ h => h)) (hS.keep0 hF) hXB hX htv hO2 hg hv (Nat.le_trans hB hF.size)
  exact ⟨h1, h2, hF.of0.trans h3⟩

/-- The append to the of, and the store. -/
theorem of_end {W wq w' : World} {X : Nat → Prop} {B tb db : Nat} {s : ByteArray} {n : Nat} {bad : Bool} {tv lv av rv o nv a v' : Value} {tab : List RT} {t : RT} {x : Nat} {ob : Obj} (he : W.heap = (wq.alloc ob).heap) (hos : W.os = wq.os) (htp : W.tape = wq.tape) (hou : W.output = wq.output)
    (hT : TB wq B tb t o nv a) (hS : DS wq (XT X tb o nv a) db s n bad tv lv av rv tab) (hXB : ∀ b, X b → b < B) (hX : X db) (htv : ∀ g, tv.ownBlock = some g → g ≠ tb)
    (hO2 : w'.ownsRow 0 3 1 v' (t.of.length + 1) (ints t.of ++ [.int .i64 x])) (hg : W.grownBy w' o.ownBlock) (hv : ∃ g cap, v' = .slice (some ⟨g, 0, none⟩) (t.of.length + 1) cap ∧ (o.ownBlock = some g ∨ W.heap.size ≤ g)) (hB : B ≤ wq.heap.size) :
    TB (w'.setCell ⟨tb, 1, none⟩ v') B tb ⟨t.kind, t.of ++ [x], t.names, t.ats⟩ v' nv a ∧ DS (w'.setCell ⟨tb, 1, none⟩ v') (XT X tb v' nv a) db s n bad tv lv av rv tab ∧ Fr (fun k => B ≤ k) wq (w'.setCell ⟨tb, 1, none⟩ v') := by
  have hF := heapF he hos htp hou
  obtain ⟨h1, h2, h3⟩ := tb_grow_o x (hT.keep hF (fun _ _ h => h)) (hS.keep0 hF) hXB hX htv hO2 hg hv (Nat.le_trans hB hF.size)
  exact ⟨h1, h2, hF.of0.trans h3⟩

theorem box_after {W wq w' : World} {B tb : Nat} {t : RT} {o nv a : Value} {ob : Obj} {vb : Option Nat} (he : W.heap = (wq.alloc ob).heap) (hT : TB wq B tb t o nv a) (hg : W.grownBy w' vb) (hne : vb ≠ some tb) : w'.heap[tb]? = some (.cells #[.int .i64 t.kind, o, nv, a] 56 (0, 0)) := by
  have h1 : W.heap[tb]? = some (.cells #[.int .i64 t.kind, o, nv, a] 56 (0, 0)) := by rw [he, Below.heap_alloc _ _ _ (lt_of_heap hT.box)]; exact hT.box
  exact (hg.block tb (lt_of_heap h1) (fun e => hne e.symm)).trans h1

theorem Fr.trans2 {X Y : Nat → Prop} {a b c : World} (h : Fr X a b) (k : Fr Y b c) (hy : ∀ i, i < a.heap.size → Y i → X i) : Fr X a c :=
  ⟨k.os.trans h.os, k.tape.trans h.tape, k.output.trans h.output, Nat.le_trans h.size k.size, fun i hi hx => (k.block i (Nat.lt_of_lt_of_le hi h.size) (fun e => hx (hy i hi e))).trans (h.block i hi hx)⟩

set_option maxHeartbeats 16000000 in
theorem rparts_any {w : World} {X : Nat → Prop} {db : Nat} {s : ByteArray} {n f : Nat} {tv lv av rv : Value} {tab : List RT} (hT : RTypSaid s f) (h : DS w X db s n false tv lv av rv tab) (hX : X db) (hXlt : ∀ b, X b → b < w.heap.size) (hs : s.size ≤ 400) (hn : n + 1 ≤ s.size) (hf : s.size < n + 1 + f) (hl : tab.length + (s.size - n) ≤ 5000)
    (kI bI cI : Int) (kind btw close : Nat) (hk : kI = (kind : Int)) (hb : bI = (btw : Int)) (hc : cI = (close : Int)) (hbt : btw < 256) (hcl : close < 256) :
    Calls Tryd.prog 29 #[.pointer (some ⟨db, 0, none⟩), .agg #[.int .i64 kI, .slice none 0 0, .slice none 0 0, .slice none 0 0], .int .u8 bI, .int .u8 cI] w fun e w' => RTypPost w X db s tv lv av rv (rParts (rTyp s f) s kind btw close ⟨n, false, tab⟩) e w' := by
  subst hk hb hc
  have hsm : s.size ≤ maxLen := by unfold maxLen; omega
  have HT := hide hT
  have HX := hide hXlt
  have HS := hide h
  have HTL := hide h.lt
  have hdb : db < w.heap.size := hXlt db hX
  clear hT hXlt h
  go_enter Tryd.func29, Tryd.ntmps29
  go_wp2_with fail
  go_loopw [9] (fun mv wr => ∃ (b : Bool) (t : RT) (st : RS) (o nv a tv' : Value), mv = .bool b ∧ st.n ≤ s.size ∧ n ≤ st.n ∧ Hid (st.tab.length + (s.size - st.n) ≤ 5000) ∧ Hid (t.kind = kind) ∧ t.of.length ≤ 6 ∧
      Hid (b = true → st.bad = false ∧ st.n + 1 ≤ s.size ∧ ∃ k, k + 1 + t.of.length = 6 ∧ rLoop (rTyp s f) s btw 6 ⟨kind, [], [], []⟩ ⟨n, false, tab⟩ = rLoop (rTyp s f) s btw (k + 1) t st) ∧
      Hid (b = false → rLoop (rTyp s f) s btw 6 ⟨kind, [], [], []⟩ ⟨n, false, tab⟩ = (t, st)) ∧
      Hid (t.names.length = t.of.length ∧ t.ats.length = t.of.length) ∧
      Hid (TB wr w.heap.size w.heap.size t o nv a) ∧ Hid (DS wr (XT X w.heap.size o nv a) db s st.n st.bad tv' lv av rv st.tab) ∧ Hid (∀ g, tv'.ownBlock = some g → g ≠ w.heap.size) ∧ Hid (∀ g, tv'.ownBlock = some g → tv.ownBlock = some g ∨ w.heap.size ≤ g) ∧ Hid (Fr (Ch db tv) w wr)) (fun _ wr => 7 - ofLen w.heap.size wr)
  case atStart =>
    refine ⟨true, ⟨kind, [], [], []⟩, ⟨n, false, tab⟩, .slice none 0 0, .slice none 0 0, .slice none 0 0, tv, rfl, by show n ≤ _; omega, Nat.le_refl _, hl, rfl, by simp, fun _ => ⟨rfl, hn, 5, rfl, rfl⟩, (fun h => by cases h), ⟨rfl, rfl⟩, ⟨heap_new_at rfl _, World.ownsRow_nil _ _ _ _, World.ownsRow_nil _ _ _ _, World.ownsRow_nil _ _ _ _, (fun g hg => by simp [Value.ownBlock] at hg), Nat.le_refl _, (fun g hg => by simp [Value.ownBlock] at hg)⟩, ?_, (fun g hg => by have := HTL g hg; omega), (fun g hg => .inl hg), Fr.alloc _ _ _⟩
    refine ((DS.avoid HS.out (fun b hb hy => ?_)).keep0 (Fr.alloc _ _ _))
    rcases hy with h | h | h | h | h
    · exact h
    · omega
    · simp [Value.ownBlock] at h
    · simp [Value.ownBlock] at h
    · simp [Value.ownBlock] at h
  case round =>
    obtain ⟨b, t, st, o, nv, a, tv', rfl, hsn, hns, HL, HKD, hof, HY, HNo, HLN, HTB, HDS, HTV, HTVN, HF⟩ := hrel
    cases b with
    | false =>
      have HR := hide (HNo.out rfl)
      clear HY HNo
      go_wp2_with fail
      refine (must_any HDS.out.1 hsm hsn close close rfl hcl).mono ?_
      rintro e w1 ⟨rfl, hF1, hD1, hn1⟩
      have HDB1 := hide hD1
      have HDS1 := hide (HDS.out.self (.inl hX) hF1 hD1)
      have hnd : ∀ g, (g = w.heap.size ∨ o.ownBlock = some g ∨ nv.ownBlock = some g ∨ a.ownBlock = some g) → ¬ One db g := fun g hg e => by
        have e' : g = db := e
        rcases hg with h | h
        · omega
        · have := HTB.out.base.2 g h; omega
      have HTB1 := hide (HTB.out.keep hF1 hnd)
      have HF1 := hide (HF.out.trans (hF1.mono (fun k _ e => .inl e)))
      have tc := HTB1.out.cell
      have t0 := tc.1
      have t1 := tc.2.1
      have t2 := tc.2.2.1
      have t3 := tc.2.2.2
      have HAV : Hid (∀ g, (o.ownBlock = some g ∨ nv.ownBlock = some g ∨ a.ownBlock = some g) → ¬ XO X tv' g) := fun g hg hx => by
        rcases hx with hx | hx
        · have := HX g hx; have := HTB1.out.base.2 g hg; omega
        · rcases hg with h | h | h
          · exact HDS1.out.tvne HTB1.out.so (by decide) g h hx
          · exact HDS1.out.tvne HTB1.out.sn (by decide) g h hx
          · exact HDS1.out.tvne HTB1.out.sa (by decide) g h hx
      have HRTR : Hid (RTR w1 (XO X tv') ⟨t.kind, o, nv, a⟩ t) := ⟨rfl, ⟨by rw [ints_length]; exact HTB1.out.so, fun g hg => HAV g (.inl hg)⟩, ⟨by rw [texts_length]; exact HTB1.out.sn, fun g hg => HAV g (.inr (.inl hg))⟩, ⟨by rw [ints_length]; exact HTB1.out.sa, fun g hg => HAV g (.inr (.inr hg))⟩⟩
      clear hF1 hD1 hnd tc
      go_wp2_with fail
      refine (add_any (HDS1.out.avoid (fun b _ hb => .inl hb)) hX (by have := HL.out; omega) t.kind ⟨t.kind, o, nv, a⟩ t rfl HRTR).mono ?_
      rintro e w2 ⟨rfl, hF2, tv2, hD2, htv2⟩
      have HD2 := hide hD2
      have HTV2 := hide htv2
      have HF2 := hide hF2
      clear hF2 hD2 htv2
      go_wp2_with fail
      go_ret
      have eR : rParts (rTyp s f) s kind btw close ⟨n, false, tab⟩ = (⟨mustN s st.n st.bad close, mustB s st.n st.bad close, st.tab ++ [t]⟩, st.tab.length) := by
        unfold rParts
        rw [HR.out]
        rfl
      rw [eR]
      refine ⟨rfl, ?_, hn1, tv2, HD2, fun g hg => ?_⟩
      · refine HF1.out.trans2 HF2.out (fun k hk hc => ?_)
        rcases hc with h | h
        · exact .inl h
        · rcases HTVN.out k h with h' | h'
          · exact .inr h'
          · omega
      · rcases HTV2.out g hg with h | h
        · exact HTVN.out g h
        · have := HF1.out.size; exact .inr (by omega)
    | true =>
      obtain ⟨hbad, hn1, k, hk6, hrl⟩ := HY.out rfl
      have HOL0 := hide HTB.out.ofLen
      have HRL := hide hrl
      have HBAD := hide hbad
      clear hrl HY HNo
      have hD0 := HDS.out.1
      rw [hbad] at hD0
      have c1 := hD0.at1
      have c6 := hD0.at6
      have f1 := hD0.free 1
      have hsn64 : (st.n : Int) < 1000 := by omega
      have tc := HTB.out.cell
      have tc3 := tc.2.2.2
      have tf3 := HTB.out.free 3
      have htl := HTB.out.lt w.heap.size (.inl rfl)
      have hdl := lt_of_heap hD0
      clear tc hbad
      go_wp2_with fail
      have hFq : Fr (One db) wr (wr.setCell ⟨db, 1, none⟩ (.int .i64 ((st.n : Int) + 1))) := Fr.setCell _ _ _ _ rfl
      have hDq : DB (wr.setCell ⟨db, 1, none⟩ (.int .i64 ((st.n : Int) + 1))) db s (st.n + 1) false tv' lv av rv := hD0.set1 (st.n + 1)
      have hnd : ∀ g, (g = w.heap.size ∨ o.ownBlock = some g ∨ nv.ownBlock = some g ∨ a.ownBlock = some g) → ¬ One db g := fun g hg e => by
        have e' : g = db := e
        rcases hg with h | h
        · omega
        · have := HTB.out.base.2 g h; omega
      have HTq := hide (HTB.out.keep hFq hnd)
      have HSq := hide (HDS.out.self (.inl hX) hFq hDq)
      have HFq := hide (HF.out.trans (hFq.mono (fun k _ e => .inl e)))
      generalize wr.setCell ⟨db, 1, none⟩ (.int .i64 ((st.n : Int) + 1)) = wq at *
      clear c1 c6 f1 tc3 tf3 htl hdl hD0 hnd hFq
      have c1 : wq.cell? ⟨db, 1, none⟩ = some (.int .i64 ((st.n : Int) + 1)) := hDq.at1
      have HDq := hide hDq
      have tc := HTq.out.cell
      have tc3 := tc.2.2.2
      have tf3 := HTq.out.free 3
      have htl := HTq.out.lt w.heap.size (.inl rfl)
      have hdl := lt_of_heap hDq
      have HBq : Hid (w.heap.size ≤ wq.heap.size) := HFq.out.size
      have HNA : Hid (a.ownBlock ≠ some w.heap.size) := fun e => HTq.out.tbne _ (.inr (.inr e)) rfl
      have HNN : Hid (nv.ownBlock ≠ some w.heap.size) := fun e => HTq.out.tbne _ (.inr (.inl e)) rfl
      have HNO : Hid (o.ownBlock ≠ some w.heap.size) := fun e => HTq.out.tbne _ (.inl e) rfl
      clear tc hDq
      have m1 : Hid (t.ats.length + 1 ≤ maxLen) := by show _ ≤ _; have := HLN.out; unfold maxLen; omega
      have m2 : Hid ((t.ats.length + 1) * 8 ≤ 140737488355328) := by show _ ≤ _; have := HLN.out; omega
      have m3 : Hid (∀ u ∈ [Value.int .i64 ((st.n : Int) + 1)], u.oneCell' = true) := by intro u hu; simp at hu; subst hu; rfl
      obtain ⟨i0, hi, hz0, hz1, hz2⟩ := info_parts Tryd.info3
      go_region_law (refine step_append_mine rfl (.tmp 28) (.tmp 33) 37 rfl 0 3 i0 (.int .i64 0) 1 8 Tryd.underlying37 hi hz0 hz1 hz2 rfl (by decide) a t.ats.length (ints t.ats) (by simp [Act.eval]) (by exact ownsRow_heap (o := .cells #[.int .i64 ((st.n : Int) + 1)] 3) HTq.out.sa (by rfl)) ⟨wq.heap.size, 0, none⟩ 1 1 (by omega) [.int .i64 ((st.n : Int) + 1)] (by simp [Act.eval]) rfl (by exact news1_heap (w := wq) (t := 3) (x := .int .i64 ((st.n : Int) + 1)) rfl (by rfl)) m3.out m1.out m2.out (Nat.zero_le _) ?_; intro v' w' hO2 hg2 hv2; obtain ⟨gn, capn, rfl, hgn⟩ := hv2; have hbx := box_after (ob := .cells #[.int .i64 ((st.n : Int) + 1)] 3) (by rfl) HTq.out hg2 HNA.out; have q3 := cell_of_heap (o := 3) hbx; have qf := free_of_heap (o := 3) hbx; have HE := hide (ats_end (x := st.n + 1) (ob := .cells #[.int .i64 ((st.n : Int) + 1)] 3) (by rfl) (by rfl) (by rfl) (by rfl) HTq.out HSq.out HX.out hX HTV.out hO2 hg2 ⟨gn, capn, rfl, hgn⟩ HBq.out); clear hO2 hg2 hgn hbx)
      all_goals
        obtain ⟨hT2, hS2, hF2⟩ := HE.out
        have HT2 := hide hT2
        have HS2 := hide hS2
        have HF2 := hide (HFq.out.past hF2)
        clear HE hT2 hS2 hF2 q3 qf
        generalize w'.setCell ⟨w.heap.size, 3, none⟩ (.slice (some ⟨gn, 0, none⟩) (t.ats.length + 1) capn) = w2 at *
        generalize (Value.slice (some ⟨gn, 0, none⟩) (t.ats.length + 1) capn) = a2 at *
        clear HTq HSq HFq HDq HBq HNA HNO HNN m1 m2 m3 hi hz0 hz1 hz2 HTB HDS HF c1 tc3 tf3 htl hdl
        go_wp2_with fail
        refine (name_any HS2.out.1 hsm hn1).mono ?_
        rintro e w3 ⟨rfl, hF3, hD3, hn3⟩
        have hnd : ∀ g, (g = w.heap.size ∨ o.ownBlock = some g ∨ nv.ownBlock = some g ∨ a2.ownBlock = some g) → ¬ One db g := fun g hg e => by
          have e' : g = db := e
          rcases hg with h | h
          · omega
          · have := HT2.out.base.2 g h; omega
        have HT3 := hide (HT2.out.keep hF3 hnd)
        have HS3 := hide (HS2.out.self (.inl hX) hF3 hD3)
        have HF3 := hide (HF2.out.trans (hF3.mono (fun k _ e => .inl e)))
        clear hF3 hD3 hnd HT2 HS2 HF2
        generalize hnm : wordS s (st.n + 1) false = nm at *
        have HNM := hide hnm
        clear hnm
        have HB3 : Hid (w.heap.size ≤ w3.heap.size) := HF3.out.size
        have HNN : Hid (nv.ownBlock ≠ some w.heap.size) := fun e => HT3.out.tbne _ (.inr (.inl e)) rfl
        have tc2 := HT3.out.cell.2.2.1
        have tf2 := HT3.out.free 2
        have htl := HT3.out.lt w.heap.size (.inl rfl)
        have m1 : Hid (t.names.length + 1 ≤ maxLen) := by show _ ≤ _; have := HLN.out; unfold maxLen; omega
        have m2 : Hid ((t.names.length + 1) * 16 ≤ 140737488355328) := by show _ ≤ _; have := HLN.out; omega
        have m3 : Hid (∀ u ∈ [Value.string nm], u.oneCell' = true) := by intro u hu; simp at hu; subst hu; rfl
        obtain ⟨i9, hi, hz0, hz1, hz2⟩ := info_parts Tryd.info9
        go_wp2_with (at_builtin; refine wpList_append_mine _ rfl _ _ 36 rfl 0 9 i9 (.string ⟨#[]⟩) 1 16 Tryd.underlying36 hi hz0 hz1 hz2 rfl (by decide) nv t.names.length (texts t.names) rfl (by exact ownsRow_heap (o := .cells #[.string nm] 9) HT3.out.sn (by rfl)) ⟨w3.heap.size, 0, none⟩ 1 1 (by omega) [.string nm] rfl rfl (by exact news1_heap (w := w3) (t := 9) (x := .string nm) rfl (by rfl)) m3.out m1.out m2.out (Nat.zero_le _) ?_; intro v4 w4 hO4 hg4 hv4; obtain ⟨g4, cap4, rfl, hgn4⟩ := hv4; have hbx := box_after (ob := .cells #[.string nm] 9) (by rfl) HT3.out hg4 HNN.out; have q2 := cell_of_heap (o := 2) hbx; have qf2 := free_of_heap (o := 2) hbx; have HE4 := hide (names_end (x := nm) (ob := .cells #[.string nm] 9) (by rfl) (by rfl) (by rfl) (by rfl) HT3.out HS3.out HX.out hX HTV.out hO4 hg4 ⟨g4, cap4, rfl, by simpa using hgn4⟩ HB3.out); clear hO4 hg4 hgn4 hbx)
        obtain ⟨hT5, hS5, hF5⟩ := HE4.out
        have HT5 := hide hT5
        have HS5 := hide hS5
        have HF5 := hide (HF3.out.past hF5)
        clear HE4 hT5 hS5 hF5 q2 qf2
        generalize w4.setCell ⟨w.heap.size, 2, none⟩ (.slice (some ⟨g4, 0, none⟩) (t.names.length + 1) cap4) = w5 at *
        generalize (Value.slice (some ⟨g4, 0, none⟩) (t.names.length + 1) cap4) = n2 at *
        clear HT3 HS3 HF3 HB3 HNN m1 m2 m3 hi hz0 hz1 hz2 tc2 tf2 htl
        refine (must_any HS5.out.1 hsm hn3 58 58 rfl (by omega)).mono ?_
        rintro e w6 ⟨rfl, hF6, hD6, hn6⟩
        have hnd : ∀ g, (g = w.heap.size ∨ o.ownBlock = some g ∨ n2.ownBlock = some g ∨ a2.ownBlock = some g) → ¬ One db g := fun g hg e => by
          have e' : g = db := e
          rcases hg with h | h
          · omega
          · have := HT5.out.base.2 g h; omega
        have HT6 := hide (HT5.out.keep hF6 hnd)
        have HS6 := hide (HS5.out.self (.inl hX) hF6 hD6)
        have HF6 := hide (HF5.out.trans (hF6.mono (fun k _ e => .inl e)))
        clear hF6 hD6 hnd HT5 HS5 HF5
        have hge6 := Nat.le_trans (wordN_ge s (st.n + 1) false) (mustN_ge s (wordN s (st.n + 1) false) (nameB s (st.n + 1) false) 58)
        go_wp2_with fail
        refine (HT.out w6 (XT X w.heap.size o n2 a2) db _ _ tv' lv av rv st.tab HS6 (.inl hX) (fun b hb => ?_) hn6 (.inr (by omega)) (by have := HL.out; omega)).mono ?_
        · rcases hb with h | h
          · exact Nat.lt_of_lt_of_le (HX b h) HF6.out.size
          · exact HT6.out.lt b h
        have hgr := rTyp_grows s f ⟨mustN s (wordN s (st.n + 1) false) (nameB s (st.n + 1) false) 58, mustB s (wordN s (st.n + 1) false) (nameB s (st.n + 1) false) 58, st.tab⟩
        simp only at hgr
        have HRS : Hid (rLoop (rTyp s f) s btw (k + 1) t st = 
            if rIs s (rTyp s f ⟨mustN s (wordN s (st.n + 1) false) (nameB s (st.n + 1) false) 58, mustB s (wordN s (st.n + 1) false) (nameB s (st.n + 1) false) 58, st.tab⟩).1.n (rTyp s f ⟨mustN s (wordN s (st.n + 1) false) (nameB s (st.n + 1) false) 58, mustB s (wordN s (st.n + 1) false) (nameB s (st.n + 1) false) 58, st.tab⟩).1.bad btw = true ∧ t.of.length + 1 ≠ 6 then
            rLoop (rTyp s f) s btw k ⟨t.kind, t.of ++ [(rTyp s f ⟨mustN s (wordN s (st.n + 1) false) (nameB s (st.n + 1) false) 58, mustB s (wordN s (st.n + 1) false) (nameB s (st.n + 1) false) 58, st.tab⟩).2], t.names ++ [wordS s (st.n + 1) false], t.ats ++ [st.n + 1]⟩ (rTyp s f ⟨mustN s (wordN s (st.n + 1) false) (nameB s (st.n + 1) false) 58, mustB s (wordN s (st.n + 1) false) (nameB s (st.n + 1) false) 58, st.tab⟩).1
            else (⟨t.kind, t.of ++ [(rTyp s f ⟨mustN s (wordN s (st.n + 1) false) (nameB s (st.n + 1) false) 58, mustB s (wordN s (st.n + 1) false) (nameB s (st.n + 1) false) 58, st.tab⟩).2], t.names ++ [wordS s (st.n + 1) false], t.ats ++ [st.n + 1]⟩, (rTyp s f ⟨mustN s (wordN s (st.n + 1) false) (nameB s (st.n + 1) false) 58, mustB s (wordN s (st.n + 1) false) (nameB s (st.n + 1) false) 58, st.tab⟩).1)) := rfl
        rw [HNM.out] at HRS
        generalize rTyp s f ⟨mustN s (wordN s (st.n + 1) false) (nameB s (st.n + 1) false) 58, mustB s (wordN s (st.n + 1) false) (nameB s (st.n + 1) false) 58, st.tab⟩ = r at *
        rintro e w7 ⟨rfl, hF7, hn7, tv7, hD7, htv7⟩
        have htl6 := HT6.out.lt w.heap.size (.inl rfl)
        have HT7 := hide (HT6.out.keep hF7 (fun g hg e => by
          rcases e with e | e
          · rcases hg with h | h
            · omega
            · have := HT6.out.base.2 g h; omega
          · rcases hg with h | h | h | h
            · exact HTV.out g e h
            · exact HS6.out.tvne HT6.out.so (by decide) g h e
            · exact HS6.out.tvne HT6.out.sn (by decide) g h e
            · exact HS6.out.tvne HT6.out.sa (by decide) g h e))
        have HTV7 : Hid (∀ g, tv7.ownBlock = some g → g ≠ w.heap.size) := fun g hg => by
          rcases htv7 g hg with h | h
          · exact HTV.out g h
          · omega
        have HTVN7 : Hid (∀ g, tv7.ownBlock = some g → tv.ownBlock = some g ∨ w.heap.size ≤ g) := fun g hg => by
          rcases htv7 g hg with h | h
          · exact HTVN.out g h
          · exact .inr (by omega)
        have HF7 : Hid (Fr (Ch db tv) w w7) := HF6.out.trans2 hF7 (fun i hi hc => by
          rcases hc with h | h
          · exact .inl h
          · rcases HTVN.out i h with h' | h'
            · exact .inr h'
            · omega)
        have HS7 := hide hD7
        clear hF7 hD7 htv7 HT6 HS6 HF6 HTV HTVN htl6
        have HB7 : Hid (w.heap.size ≤ w7.heap.size) := HF7.out.size
        have HNO : Hid (o.ownBlock ≠ some w.heap.size) := fun e => HT7.out.tbne _ (.inl e) rfl
        have tc1 := HT7.out.cell.2.1
        have tf1 := HT7.out.free 1
        have htl := HT7.out.lt w.heap.size (.inl rfl)
        have m1 : Hid (t.of.length + 1 ≤ maxLen) := by show _ ≤ _; unfold maxLen; omega
        have m2 : Hid ((t.of.length + 1) * 8 ≤ 140737488355328) := by show _ ≤ _; omega
        have m3 : Hid (∀ u ∈ [Value.int .i64 (r.2 : Int)], u.oneCell' = true) := by intro u hu; simp at hu; subst hu; rfl
        obtain ⟨i3, hi, hz0, hz1, hz2⟩ := info_parts Tryd.info3
        go_wp2_with (at_builtin; refine wpList_append_mine _ rfl _ _ 37 rfl 0 3 i3 (.int .i64 0) 1 8 Tryd.underlying37 hi hz0 hz1 hz2 rfl (by decide) o t.of.length (ints t.of) rfl (by exact ownsRow_heap (o := .cells #[.int .i64 (r.2 : Int)] 3) HT7.out.so (by rfl)) ⟨w7.heap.size, 0, none⟩ 1 1 (by omega) [.int .i64 (r.2 : Int)] rfl rfl (by exact news1_heap (w := w7) (t := 3) (x := .int .i64 (r.2 : Int)) rfl (by rfl)) m3.out m1.out m2.out (Nat.zero_le _) ?_; intro v8 w8 hO8 hg8 hv8; obtain ⟨g8, cap8, rfl, hgn8⟩ := hv8; have hbx := box_after (ob := .cells #[.int .i64 (r.2 : Int)] 3) (by rfl) HT7.out hg8 HNO.out; have q1 := cell_of_heap (o := 1) hbx; have qf1 := free_of_heap (o := 1) hbx; have HE8 := hide (of_end (x := r.2) (ob := .cells #[.int .i64 (r.2 : Int)] 3) (by rfl) (by rfl) (by rfl) (by rfl) HT7.out HS7.out HX.out hX HTV7.out hO8 hg8 ⟨g8, cap8, rfl, by simpa using hgn8⟩ HB7.out); clear hO8 hg8 hgn8 hbx)
        obtain ⟨hT9, hS9, hF9⟩ := HE8.out
        have HT9 := hide hT9
        have HS9 := hide hS9
        have HF9 := hide (HF7.out.past hF9)
        clear HE8 hT9 hS9 hF9 q1 qf1
        generalize w8.setCell ⟨w.heap.size, 1, none⟩ (.slice (some ⟨g8, 0, none⟩) (t.of.length + 1) cap8) = w9 at *
        clear HT7 HS7 HF7 HB7 HNO m1 m2 m3 hi hz0 hz1 hz2 tc1 tf1 htl
        refine (is_any HS9.out.1 hsm hn7 btw btw rfl hbt).mono ?_
        rintro e w10 ⟨rfl, kk, hw10⟩
        have hz : Fr Zero w9 w10 := by rw [hw10]; exact Fr.drewN _ _ _
        have HT10 := hide (HT9.out.keep hz (fun _ _ h => h))
        have HS10 := hide (HS9.out.keep0 hz)
        have HF10 := hide (HF9.out.trans hz.of0)
        have tc1 := HT10.out.cell.2.1
        clear hw10 hz HT9 HS9 HF9
        have HLEN : Hid ((t.names ++ [nm]).length = (t.of ++ [r.2]).length ∧ (t.ats ++ [st.n + 1]).length = (t.of ++ [r.2]).length) := by
          have := HLN.out
          show _ ∧ _
          simp only [List.length_append, List.length_cons, List.length_nil]
          omega
        have HOL : Hid (t.of.length + 1 ≤ 6) := by show _ ≤ _; omega
        have HMEAS : Hid (7 - ofLen w.heap.size w10 < 7 - ofLen w.heap.size wr) := by
          show _ < _
          rw [HT10.out.ofLen, HOL0.out]
          simp only [List.length_append, List.length_cons, List.length_nil]
          omega
        by_cases h6 : t.of.length + 1 = 6
        · have hq : ((t.of.length : Int) + 1 == 6) = true := beq_iff_eq.2 (by omega)
          have HFIN : Hid (rLoop (rTyp s f) s btw 6 ⟨kind, [], [], []⟩ ⟨n, false, tab⟩ = (⟨t.kind, t.of ++ [r.2], t.names ++ [nm], t.ats ++ [st.n + 1]⟩, r.1)) := HRL.out.trans (HRS.out.trans (by rw [if_neg (by omega)]))
          clear h6 HRS HRL
          go_wp2_with fail
          go_roundw
          case rel => exact ⟨false, ⟨t.kind, t.of ++ [r.2], t.names ++ [nm], t.ats ++ [st.n + 1]⟩, r.1, _, n2, a2, tv7, rfl, hn7, by omega, (by have := HL.out; show _ ≤ _; omega), HKD, (by simp only [List.length_append, List.length_cons, List.length_nil]; exact HOL), (fun h => by cases h), (fun _ => HFIN), HLEN, HT10, HS10, HTV7, HTVN7, HF10⟩
          case measure => exact HMEAS
        · have hq : ((t.of.length : Int) + 1 == 6) = false := beq_eq_false_iff_ne.2 (by omega)
          rcases hi : rIs s r.1.n r.1.bad btw with _ | _
          · have HFIN : Hid (rLoop (rTyp s f) s btw 6 ⟨kind, [], [], []⟩ ⟨n, false, tab⟩ = (⟨t.kind, t.of ++ [r.2], t.names ++ [nm], t.ats ++ [st.n + 1]⟩, r.1)) := HRL.out.trans (HRS.out.trans (by rw [if_neg (by rw [hi]; simp)]))
            clear h6 HRS HRL hi
            go_wp2_with fail
            go_roundw
            case rel => exact ⟨false, ⟨t.kind, t.of ++ [r.2], t.names ++ [nm], t.ats ++ [st.n + 1]⟩, r.1, _, n2, a2, tv7, rfl, hn7, by omega, (by have := HL.out; show _ ≤ _; omega), HKD, (by simp only [List.length_append, List.length_cons, List.length_nil]; exact HOL), (fun h => by cases h), (fun _ => HFIN), HLEN, HT10, HS10, HTV7, HTVN7, HF10⟩
            case measure => exact HMEAS
          · have HFIN : Hid (rLoop (rTyp s f) s btw 6 ⟨kind, [], [], []⟩ ⟨n, false, tab⟩ = rLoop (rTyp s f) s btw k ⟨t.kind, t.of ++ [r.2], t.names ++ [nm], t.ats ++ [st.n + 1]⟩ r.1) := HRL.out.trans (HRS.out.trans (by rw [if_pos ⟨hi, h6⟩]))
            have hbn : r.1.bad = false ∧ r.1.n + 1 ≤ s.size := by
              unfold rIs at hi
              simp at hi
              exact ⟨hi.1, byteAt_in (by omega)⟩
            have HBN := hide hbn
            have H6 := hide h6
            clear h6 HRS HRL hi hbn
            go_wp2_with fail
            go_roundw
            case rel =>
              have := H6.out
              exact ⟨true, ⟨t.kind, t.of ++ [r.2], t.names ++ [nm], t.ats ++ [st.n + 1]⟩, r.1, _, n2, a2, tv7, rfl, hn7, by omega, (by have := HL.out; show _ ≤ _; omega), HKD, (by simp only [List.length_append, List.length_cons, List.length_nil]; exact HOL), (fun _ => ⟨HBN.out.1, HBN.out.2, k - 1, (by simp only [List.length_append, List.length_cons, List.length_nil]; omega), (by rw [show k - 1 + 1 = k by omega]; exact HFIN)⟩), (fun h => by cases h), HLEN, HT10, HS10, HTV7, HTVN7, HF10⟩
            case measure => exact HMEAS

end Go.Proofs.YtapblkmlhoalgaaDoor
