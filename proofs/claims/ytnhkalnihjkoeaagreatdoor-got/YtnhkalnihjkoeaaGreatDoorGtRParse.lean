/- The other reader's parse. The other reader's parse. The other reader's named. The other reader's wrong. -/
import Derived.Test.YtnhkalnihjkoeaaGreatDoorGtRTyp
namespace Go.Proofs.YtnhkalnihjkoeaaGreatDoor
open Go.RowKit

structure RD where
  n : Nat
  bad : Bool
  tab : List RT
  lines : List ByteArray
  ats : List Nat
  roots : List Nat

def rLineR (s : ByteArray) (d : RD) : RS × Nat := rTyp s (s.size + 2) (rMust s 61 ⟨wordN s d.n false, nameB s d.n false, d.tab⟩)
def rLineD (s : ByteArray) (d : RD) : RD := ⟨(rLineR s d).1.n, (rLineR s d).1.bad, (rLineR s d).1.tab, d.lines ++ [wordS s d.n false], d.ats ++ [d.n], d.roots ++ [(rLineR s d).2]⟩
def rMark (d : RD) : RD := ⟨d.n, true, d.tab, d.lines, d.ats, d.roots⟩
def rFeed (s : ByteArray) (d : RD) : RD := ⟨mustN s d.n d.bad 10, mustB s d.n d.bad 10, d.tab, d.lines, d.ats, d.roots⟩

def rDesc (s : ByteArray) : Nat → RD → RD
  | 0, d => d
  | k + 1, d =>
    if (rLineD s d).bad = true ∨ (rLineD s d).n = s.size then rLineD s d else
    if (rLineD s d).lines.length = 10 then rMark (rLineD s d) else
    if (rFeed s (rLineD s d)).bad = true then rFeed s (rLineD s d) else rDesc s k (rFeed s (rLineD s d))

/-- The lists of lines, places and roots in memory. -/
structure LD (w : World) (B : Nat) (lv av rv : Value) (lines : List ByteArray) (ats roots : List Nat) : Prop where
  sl : w.ownsRow 0 9 1 lv lines.length (texts lines)
  sa : w.ownsRow 0 3 1 av ats.length (ints ats)
  sr : w.ownsRow 0 3 1 rv roots.length (ints roots)
  ne : ∀ g, av.ownBlock = some g → rv.ownBlock ≠ some g
  base : ∀ g, (lv.ownBlock = some g ∨ av.ownBlock = some g ∨ rv.ownBlock = some g) → B ≤ g

def XL (db : Nat) (lv av rv : Value) : Nat → Prop := fun k => k = db ∨ lv.ownBlock = some k ∨ av.ownBlock = some k ∨ rv.ownBlock = some k

theorem LD.lt {w : World} {B : Nat} {lv av rv : Value} {lines : List ByteArray} {ats roots : List Nat} (h : LD w B lv av rv lines ats roots) : ∀ g, (lv.ownBlock = some g ∨ av.ownBlock = some g ∨ rv.ownBlock = some g) → g < w.heap.size := by
  rintro g (hg | hg | hg)
  · exact (h.sl.lt g hg).2
  · exact (h.sa.lt g hg).2
  · exact (h.sr.lt g hg).2

theorem LD.keep {w w' : World} {Y : Nat → Prop} {B : Nat} {lv av rv : Value} {lines : List ByteArray} {ats roots : List Nat} (h : LD w B lv av rv lines ats roots) (hf : Fr Y w w') (hy : ∀ g, (lv.ownBlock = some g ∨ av.ownBlock = some g ∨ rv.ownBlock = some g) → ¬ Y g) : LD w' B lv av rv lines ats roots :=
  ⟨ownsRow_keep h.sl hf (fun g hg => hy g (.inl hg)), ownsRow_keep h.sa hf (fun g hg => hy g (.inr (.inl hg))), ownsRow_keep h.sr hf (fun g hg => hy g (.inr (.inr hg))), h.ne, h.base⟩

theorem DS.field {w w' : World} {X : Nat → Prop} {db : Nat} {s : ByteArray} {n : Nat} {bad : Bool} {tv lv av rv lv' av' rv' : Value} {tab : List RT} (h : DS w X db s n bad tv lv av rv tab) (hX : X db) (hf : Fr (One db) w w') (hD' : DB w' db s n bad tv lv' av' rv') : DS w' X db s n bad tv lv' av' rv' tab := by
  obtain ⟨hD, rows, hO, hT⟩ := h
  exact ⟨hD', rows, ownsRow_keep hO hf (fun g hg e => owned_neD hD hO (by decide) g hg e), hT.keep (hf.mono (fun k _ hk => by have e : k = db := hk; rw [e]; exact .inl hX))⟩

theorem ld_a {W wq w' : World} {B db : Nat} {s : ByteArray} {n : Nat} {bad : Bool} {tv lv av rv v' : Value} {tab : List RT} {lines : List ByteArray} {ats roots : List Nat} {x : Nat} {ob : Obj} (he : W.heap = (wq.alloc ob).heap) (hos : W.os = wq.os) (htp : W.tape = wq.tape) (hou : W.output = wq.output)
    (hLq : LD wq B lv av rv lines ats roots) (hSq : DS wq (XL db lv av rv) db s n bad tv lv av rv tab) (hdb : B ≤ db)
    (hO2 : w'.ownsRow 0 3 1 v' (ats.length + 1) (ints ats ++ [.int .i64 x])) (hg : W.grownBy w' av.ownBlock) (hv : ∃ g cap, v' = .slice (some ⟨g, 0, none⟩) (ats.length + 1) cap ∧ (av.ownBlock = some g ∨ W.heap.size ≤ g)) (hB : B ≤ wq.heap.size) :
    LD (w'.setCell ⟨db, 4, none⟩ v') B lv v' rv lines (ats ++ [x]) roots ∧ DS (w'.setCell ⟨db, 4, none⟩ v') (XL db lv v' rv) db s n bad tv lv v' rv tab ∧ Fr (fun k => B ≤ k) wq (w'.setCell ⟨db, 4, none⟩ v') := by
  have hF := heapF he hos htp hou
  have hL := hLq.keep hF (fun _ _ h => h)
  have hS := hSq.keep0 hF
  have hf : Fr (fun k => av.ownBlock = some k) W w' := Fr.grown hg (fun k e _ => e)
  have hvd : ∀ g, av.ownBlock = some g → g ≠ db := owned_neD hS.1 hL.sa (by decide)
  have hvt := hS.tvne hL.sa (by decide)
  have hlt := hL.lt
  have hfS : Fr (One db) w' (w'.setCell ⟨db, 4, none⟩ v') := Fr.setCell _ _ _ _ rfl
  obtain ⟨g, cap, rfl, hgg⟩ := hv
  have hgd : g ≠ db := by
    rcases hgg with h | h
    · exact hvd g h
    · have := lt_of_heap hS.1; omega
  have hgB : B ≤ g := by
    rcases hgg with h | h
    · exact hL.base g (.inr (.inl h))
    · have := hF.size; omega
  have hkl := ownsRow_keep (ownsRow_keep hL.sl hf (fun g' hg' e => by obtain ⟨c1, q1⟩ := own_type hL.sl hg'; obtain ⟨c2, q2⟩ := own_type hL.sa e; rw [q1] at q2; simp at q2)) hfS (fun g' hg' e => owned_neD hS.1 hL.sl (by decide) g' hg' e)
  have hkr := ownsRow_keep (ownsRow_keep hL.sr hf (fun g' hg' e => hL.ne g' e hg')) hfS (fun g' hg' e => owned_neD hS.1 hL.sr (by decide) g' hg' e)
  have hkv := ownsRow_keep hO2 hfS (fun g' hg' e => by simp [Value.ownBlock] at hg'; subst hg'; exact hgd e)
  refine ⟨⟨hkl, (by rw [ints_snoc, List.length_append]; exact hkv), hkr, ?_, ?_⟩, ?_, ?_⟩
  · intro g' hg' e
    simp [Value.ownBlock] at hg'
    subst hg'
    rcases hgg with h | h
    · exact hL.ne _ h e
    · have := hlt g (.inr (.inr e)); omega
  · intro g' hg'
    rcases hg' with h | h | h
    · exact hL.base g' (.inl h)
    · simp [Value.ownBlock] at h; subst h; exact hgB
    · exact hL.base g' (.inr (.inr h))
  · refine DS.field (DS.grow hS hg (fun k e => ⟨(.inr (.inr (.inl e))), hvd k e, hvt k e⟩) (fun b hb => ?_)) (.inl rfl) hfS ?_
    · rcases hb with h | h | h | h
      · exact .inl (.inl h)
      · exact .inl (.inr (.inl h))
      · simp [Value.ownBlock] at h
        subst h
        rcases hgg with h | h
        · exact .inl (.inr (.inr (.inl h)))
        · exact .inr h
      · exact .inl (.inr (.inr (.inr h)))
    · exact DB.set4 (hf.keep hS.1 (fun e => hvd db e rfl)) _
  · exact (hF.of0 (X := fun k => B ≤ k)).trans ((hf.mono (fun k _ e => hL.base k (.inr (.inl e)))).trans (hfS.mono (fun k _ e => by have e' : k = db := e; omega)))

theorem ld_l {W wq w' : World} {B db : Nat} {s : ByteArray} {n : Nat} {bad : Bool} {tv lv av rv v' : Value} {tab : List RT} {lines : List ByteArray} {ats roots : List Nat} {x : ByteArray} {ob : Obj} (he : W.heap = (wq.alloc ob).heap) (hos : W.os = wq.os) (htp : W.tape = wq.tape) (hou : W.output = wq.output)
    (hLq : LD wq B lv av rv lines ats roots) (hSq : DS wq (XL db lv av rv) db s n bad tv lv av rv tab) (hdb : B ≤ db)
    (hO2 : w'.ownsRow 0 9 1 v' (lines.length + 1) (texts lines ++ [.string x])) (hg : W.grownBy w' lv.ownBlock) (hv : ∃ g cap, v' = .slice (some ⟨g, 0, none⟩) (lines.length + 1) cap ∧ (lv.ownBlock = some g ∨ W.heap.size ≤ g)) (hB : B ≤ wq.heap.size) :
    LD (w'.setCell ⟨db, 3, none⟩ v') B v' av rv (lines ++ [x]) ats roots ∧ DS (w'.setCell ⟨db, 3, none⟩ v') (XL db v' av rv) db s n bad tv v' av rv tab ∧ Fr (fun k => B ≤ k) wq (w'.setCell ⟨db, 3, none⟩ v') := by
  have hF := heapF he hos htp hou
  have hL := hLq.keep hF (fun _ _ h => h)
  have hS := hSq.keep0 hF
  have hf : Fr (fun k => lv.ownBlock = some k) W w' := Fr.grown hg (fun k e _ => e)
  have hvd : ∀ g, lv.ownBlock = some g → g ≠ db := owned_neD hS.1 hL.sl (by decide)
  have hvt := hS.tvne hL.sl (by decide)
  have hlt := hL.lt
  have hfS : Fr (One db) w' (w'.setCell ⟨db, 3, none⟩ v') := Fr.setCell _ _ _ _ rfl
  obtain ⟨g, cap, rfl, hgg⟩ := hv
  have hgd : g ≠ db := by
    rcases hgg with h | h
    · exact hvd g h
    · have := lt_of_heap hS.1; omega
  have hgB : B ≤ g := by
    rcases hgg with h | h
    · exact hL.base g (.inl h)
    · have := hF.size; omega
  have hka := ownsRow_keep (ownsRow_keep hL.sa hf (fun g' hg' e => by obtain ⟨c1, q1⟩ := own_type hL.sa hg'; obtain ⟨c2, q2⟩ := own_type hL.sl e; rw [q1] at q2; simp at q2)) hfS (fun g' hg' e => owned_neD hS.1 hL.sa (by decide) g' hg' e)
  have hkr := ownsRow_keep (ownsRow_keep hL.sr hf (fun g' hg' e => by obtain ⟨c1, q1⟩ := own_type hL.sr hg'; obtain ⟨c2, q2⟩ := own_type hL.sl e; rw [q1] at q2; simp at q2)) hfS (fun g' hg' e => owned_neD hS.1 hL.sr (by decide) g' hg' e)
  have hkv := ownsRow_keep hO2 hfS (fun g' hg' e => by simp [Value.ownBlock] at hg'; subst hg'; exact hgd e)
  refine ⟨⟨(by rw [texts_snoc, List.length_append]; exact hkv), hka, hkr, ?_, ?_⟩, ?_, ?_⟩
  · exact hL.ne
  · intro g' hg'
    rcases hg' with h | h | h
    · simp [Value.ownBlock] at h; subst h; exact hgB
    · exact hL.base g' (.inr (.inl h))
    · exact hL.base g' (.inr (.inr h))
  · refine DS.field (DS.grow hS hg (fun k e => ⟨(.inr (.inl e)), hvd k e, hvt k e⟩) (fun b hb => ?_)) (.inl rfl) hfS ?_
    · rcases hb with h | h | h | h
      · exact .inl (.inl h)
      · simp [Value.ownBlock] at h
        subst h
        rcases hgg with h | h
        · exact .inl (.inr (.inl h))
        · exact .inr h
      · exact .inl (.inr (.inr (.inl h)))
      · exact .inl (.inr (.inr (.inr h)))
    · exact DB.set3 (hf.keep hS.1 (fun e => hvd db e rfl)) _
  · exact (hF.of0 (X := fun k => B ≤ k)).trans ((hf.mono (fun k _ e => hL.base k (.inl e))).trans (hfS.mono (fun k _ e => by have e' : k = db := e; omega)))

theorem ld_r {W wq w' : World} {B db : Nat} {s : ByteArray} {n : Nat} {bad : Bool} {tv lv av rv v' : Value} {tab : List RT} {lines : List ByteArray} {ats roots : List Nat} {x : Nat} {ob : Obj} (he : W.heap = (wq.alloc ob).heap) (hos : W.os = wq.os) (htp : W.tape = wq.tape) (hou : W.output = wq.output)
    (hLq : LD wq B lv av rv lines ats roots) (hSq : DS wq (XL db lv av rv) db s n bad tv lv av rv tab) (hdb : B ≤ db)
    (hO2 : w'.ownsRow 0 3 1 v' (roots.length + 1) (ints roots ++ [.int .i64 x])) (hg : W.grownBy w' rv.ownBlock) (hv : ∃ g cap, v' = .slice (some ⟨g, 0, none⟩) (roots.length + 1) cap ∧ (rv.ownBlock = some g ∨ W.heap.size ≤ g)) (hB : B ≤ wq.heap.size) :
    LD (w'.setCell ⟨db, 5, none⟩ v') B lv av v' lines ats (roots ++ [x]) ∧ DS (w'.setCell ⟨db, 5, none⟩ v') (XL db lv av v') db s n bad tv lv av v' tab ∧ Fr (fun k => B ≤ k) wq (w'.setCell ⟨db, 5, none⟩ v') := by
  have hF := heapF he hos htp hou
  have hL := hLq.keep hF (fun _ _ h => h)
  have hS := hSq.keep0 hF
  have hf : Fr (fun k => rv.ownBlock = some k) W w' := Fr.grown hg (fun k e _ => e)
  have hvd : ∀ g, rv.ownBlock = some g → g ≠ db := owned_neD hS.1 hL.sr (by decide)
  have hvt := hS.tvne hL.sr (by decide)
  have hlt := hL.lt
  have hfS : Fr (One db) w' (w'.setCell ⟨db, 5, none⟩ v') := Fr.setCell _ _ _ _ rfl
  obtain ⟨g, cap, rfl, hgg⟩ := hv
  have hgd : g ≠ db := by
    rcases hgg with h | h
    · exact hvd g h
    · have := lt_of_heap hS.1; omega
  have hgB : B ≤ g := by
    rcases hgg with h | h
    · exact hL.base g (.inr (.inr h))
    · have := hF.size; omega
  have hkl := ownsRow_keep (ownsRow_keep hL.sl hf (fun g' hg' e => by obtain ⟨c1, q1⟩ := own_type hL.sl hg'; obtain ⟨c2, q2⟩ := own_type hL.sr e; rw [q1] at q2; simp at q2)) hfS (fun g' hg' e => owned_neD hS.1 hL.sl (by decide) g' hg' e)
  have hka := ownsRow_keep (ownsRow_keep hL.sa hf (fun g' hg' e => hL.ne g' hg' e)) hfS (fun g' hg' e => owned_neD hS.1 hL.sa (by decide) g' hg' e)
  have hkv := ownsRow_keep hO2 hfS (fun g' hg' e => by simp [Value.ownBlock] at hg'; subst hg'; exact hgd e)
  refine ⟨⟨hkl, hka, (by rw [ints_snoc, List.length_append]; exact hkv), ?_, ?_⟩, ?_, ?_⟩
  · intro g' hg' e
    simp [Value.ownBlock] at e
    subst e
    rcases hgg with h | h
    · exact hL.ne _ hg' h
    · have := hlt g (.inr (.inl hg')); omega
  · intro g' hg'
    rcases hg' with h | h | h
    · exact hL.base g' (.inl h)
    · exact hL.base g' (.inr (.inl h))
    · simp [Value.ownBlock] at h; subst h; exact hgB
  · refine DS.field (DS.grow hS hg (fun k e => ⟨(.inr (.inr (.inr e))), hvd k e, hvt k e⟩) (fun b hb => ?_)) (.inl rfl) hfS ?_
    · rcases hb with h | h | h | h
      · exact .inl (.inl h)
      · exact .inl (.inr (.inl h))
      · exact .inl (.inr (.inr (.inl h)))
      · simp [Value.ownBlock] at h
        subst h
        rcases hgg with h | h
        · exact .inl (.inr (.inr (.inr h)))
        · exact .inr h
    · exact DB.set5 (hf.keep hS.1 (fun e => hvd db e rfl)) _
  · exact (hF.of0 (X := fun k => B ≤ k)).trans ((hf.mono (fun k _ e => hL.base k (.inr (.inr e)))).trans (hfS.mono (fun k _ e => by have e' : k = db := e; omega)))

end Go.Proofs.YtnhkalnihjkoeaaGreatDoor

namespace Go.Proofs.YtnhkalnihjkoeaaGreatDoor
open Go.RowKit

def linesLen (db : Nat) (w : World) : Nat := match w.cell? ⟨db, 3, none⟩ with
  | some (.slice _ n _) => n
  | _ => 0
theorem LD.linesLen {w : World} {B db : Nat} {s : ByteArray} {n : Nat} {bad : Bool} {tv lv av rv : Value} {lines : List ByteArray} {ats roots : List Nat} (h : LD w B lv av rv lines ats roots) (hD : DB w db s n bad tv lv av rv) : linesLen db w = lines.length := by
  unfold Proofs.YtnhkalnihjkoeaaGreatDoor.linesLen
  rw [hD.at3]
  rcases h.sl.2 with ⟨rfl, e⟩ | ⟨g, cap, cur, rfl, _⟩
  · exact e.symm
  · rfl

def RDPost (w : World) (s : ByteArray) (d : RD) (w' : World) : Prop :=
  Fr Zero w w' ∧ d.n ≤ s.size ∧ ∃ tv lv av rv, DS w' (XL w.heap.size lv av rv) w.heap.size s d.n d.bad tv lv av rv d.tab ∧ LD w' w.heap.size lv av rv d.lines d.ats d.roots ∧ (∀ g, tv.ownBlock = some g → w.heap.size ≤ g) ∧ d.lines.length ≤ 10 ∧ d.ats.length = d.lines.length ∧ d.roots.length = d.lines.length ∧ d.tab.length ≤ 1000

set_option maxRecDepth 100000 in
set_option maxHeartbeats 16000000 in
theorem rparse_any (s : ByteArray) (w : World) (hs : s.size ≤ 400) :
    Calls Tryz.prog 102 #[.string s] w fun e w' => e = .returned (.pointer (some ⟨w.heap.size, 0, none⟩)) ∧ RDPost w s (rDesc s 10 ⟨0, false, [], [], [], []⟩) w' := by
  have hsm : s.size ≤ maxLen := by unfold maxLen; omega
  go_enter Tryz.func102, Tryz.ntmps102
  go_wp2_with fail
  go_loopw [2] (fun v wr => v = .pointer none ∧ ∃ (d : RD) (tv lv av rv : Value), d.n ≤ s.size ∧ Hid (d.bad = false → ∃ k, k + 1 + d.lines.length = 10 ∧ rDesc s 10 ⟨0, false, [], [], [], []⟩ = rDesc s (k + 1) d) ∧ Hid (d.bad = true → rDesc s 10 ⟨0, false, [], [], [], []⟩ = d) ∧
      Hid (d.tab.length + (s.size - d.n) ≤ 401 + d.lines.length) ∧ d.lines.length ≤ 10 ∧ Hid (d.ats.length = d.lines.length ∧ d.roots.length = d.lines.length) ∧
      Hid (DS wr (XL w.heap.size lv av rv) w.heap.size s d.n d.bad tv lv av rv d.tab) ∧ Hid (LD wr w.heap.size lv av rv d.lines d.ats d.roots) ∧ Hid (∀ g, tv.ownBlock = some g → w.heap.size ≤ g) ∧ Hid (Fr Zero w wr)) (fun _ wr => 11 - linesLen w.heap.size wr)
  case atStart =>
    refine ⟨rfl, ⟨0, false, [], [], [], []⟩, .slice none 0 0, .slice none 0 0, .slice none 0 0, .slice none 0 0, Nat.zero_le _, (fun _ => ⟨9, rfl, rfl⟩), (fun h => by cases h), (by show _ ≤ _; simp; omega), by simp, ⟨rfl, rfl⟩, ⟨heap_new_at rfl _, [], World.ownsRow_nil _ _ _ _, rfl, fun j r t hr => by simp at hr⟩, ⟨World.ownsRow_nil _ _ _ _, World.ownsRow_nil _ _ _ _, World.ownsRow_nil _ _ _ _, (fun g hg => by simp [Value.ownBlock] at hg), (fun g hg => by simp [Value.ownBlock] at hg)⟩, (fun g hg => by simp [Value.ownBlock] at hg), Fr.alloc _ _ _⟩
  case round =>
    obtain ⟨rfl, d, tv, lv, av, rv, hdn, HY, HNo, HTL, hll, HLN, HS, HL, HTV, HF⟩ := hrel
    have hD0 := HS.out.1
    have hX0 : XL w.heap.size lv av rv w.heap.size := .inl rfl
    rcases hb : d.bad with _ | _
    · obtain ⟨k, hk, hrd⟩ := HY.out hb
      have HRD := hide hrd
      rw [hb] at hD0 HS
      have c1 := hD0.at1
      have c4 := hD0.at4
      have f4 := hD0.free 4
      have c6 := hD0.at6
      have hdl := lt_of_heap hD0
      have HLL0 := hide (HL.out.linesLen hD0)
      have c1a := (hD0.alloc (.cells #[.int .i64 (d.n : Int)] 3)).at1
      have c4a := (hD0.alloc (.cells #[.int .i64 (d.n : Int)] 3)).at4
      have HB0 : Hid (w.heap.size ≤ wr.heap.size) := HF.out.size
      have HD0 := hide hD0
      clear HY HNo hb hrd hD0
      have HNA : Hid (∀ g, av.ownBlock = some g → g ≠ w.heap.size) := owned_neD HD0.out HL.out.sa (by decide)
      have m1 : Hid (d.ats.length + 1 ≤ maxLen) := by show _ ≤ _; have := HLN.out; unfold maxLen; omega
      have m2 : Hid ((d.ats.length + 1) * 8 ≤ 140737488355328) := by show _ ≤ _; have := HLN.out; omega
      have m3 : Hid (∀ u ∈ [Value.int .i64 (d.n : Int)], u.oneCell' = true) := by intro u hu; simp at hu; subst hu; rfl
      obtain ⟨i0, hi, hz0, hz1, hz2⟩ := info_parts Tryz.info3
      go_wp2_with fail
      go_region_law (refine step_append_mine rfl (.tmp 18) (.tmp 23) 38 rfl 0 3 i0 (.int .i64 0) 1 8 Tryz.underlying38 hi hz0 hz1 hz2 rfl (by decide) av d.ats.length (ints d.ats) (by simp [Act.eval]) (by exact ownsRow_heap (o := .cells #[.int .i64 (d.n : Int)] 3) HL.out.sa (by rfl)) ⟨wr.heap.size, 0, none⟩ 1 1 (by omega) [.int .i64 (d.n : Int)] (by simp [Act.eval]) rfl (by exact news1_heap (w := wr) (t := 3) (x := .int .i64 (d.n : Int)) rfl (by rfl)) m3.out m1.out m2.out (Nat.zero_le _) ?_; intro v' w' hO2 hg2 hv2; obtain ⟨gn, capn, rfl, hgn⟩ := hv2; have hDw := dAfter (o := .cells #[.int .i64 (d.n : Int)] 3) (by rfl) HD0.out hg2 HNA.out; have q4 := hDw.at4; have qf := hDw.free 4; have HE := hide (ld_a (x := d.n) (ob := .cells #[.int .i64 (d.n : Int)] 3) (by rfl) (by rfl) (by rfl) (by rfl) HL.out HS.out (Nat.le_refl _) hO2 hg2 ⟨gn, capn, rfl, hgn⟩ HB0.out); clear hO2 hg2 hgn hDw)
      all_goals
        obtain ⟨hL2, hS2, hF2⟩ := HE.out
        have HL2 := hide hL2
        have HS2 := hide hS2
        have HF2 := hide (HF.out.past hF2)
        clear HE hL2 hS2 hF2 q4 qf
        generalize w'.setCell ⟨w.heap.size, 4, none⟩ (.slice (some ⟨gn, 0, none⟩) (d.ats.length + 1) capn) = w2 at *
        generalize (Value.slice (some ⟨gn, 0, none⟩) (d.ats.length + 1) capn) = a2 at *
        clear HD0 HS HL HF HB0 HNA m1 m2 m3 hi hz0 hz1 hz2 c1 c4 f4 c6 hdl c1a c4a hX0
        go_wp2_with fail
        refine (name_any HS2.out.1 hsm hdn).mono ?_
        rintro e w3 ⟨rfl, hF3, hD3, hn3⟩
        have HL3 := hide (HL2.out.keep hF3 (fun g hg e => by
          rcases hg with h | h | h
          · exact owned_neD HS2.out.1 HL2.out.sl (by decide) g h e
          · exact owned_neD HS2.out.1 HL2.out.sa (by decide) g h e
          · exact owned_neD HS2.out.1 HL2.out.sr (by decide) g h e))
        have HS3 := hide (HS2.out.self (.inl rfl) hF3 hD3)
        have HF3 := hide (HF2.out.past (hF3.mono (fun k _ e => by have e' : k = w.heap.size := e; omega)))
        clear hF3 hD3 HL2 HS2 HF2
        go_wp2_with fail
        refine (must_any HS3.out.1 hsm hn3 61 61 rfl (by omega)).mono ?_
        rintro e w4 ⟨rfl, hF4, hD4, hn4⟩
        have HL4 := hide (HL3.out.keep hF4 (fun g hg e => by
          rcases hg with h | h | h
          · exact owned_neD HS3.out.1 HL3.out.sl (by decide) g h e
          · exact owned_neD HS3.out.1 HL3.out.sa (by decide) g h e
          · exact owned_neD HS3.out.1 HL3.out.sr (by decide) g h e))
        have HS4 := hide (HS3.out.self (.inl rfl) hF4 hD4)
        have HF4 := hide (HF3.out.past (hF4.mono (fun k _ e => by have e' : k = w.heap.size := e; omega)))
        clear hF4 hD4 HL3 HS3 HF3
        have hge4 := Nat.le_trans (wordN_ge s d.n false) (mustN_ge s (wordN s d.n false) (nameB s d.n false) 61)
        go_wp2_with fail
        refine (rtyp_all hs (s.size + 1) w4 (XL w.heap.size lv a2 rv) w.heap.size _ _ tv lv a2 rv d.tab HS4 (.inl rfl) (fun b hb => ?_) hn4 (.inr (by omega)) (by have := HTL.out; omega)).mono ?_
        · rcases hb with h | h
          · have := lt_of_heap HS4.out.1; omega
          · exact HL4.out.lt b h
        have hgr := rTyp_grows s (s.size + 2) ⟨mustN s (wordN s d.n false) (nameB s d.n false) 61, mustB s (wordN s d.n false) (nameB s d.n false) 61, d.tab⟩
        simp only at hgr
        have HLR : Hid (rLineR s d = rTyp s (s.size + 2) ⟨mustN s (wordN s d.n false) (nameB s d.n false) 61, mustB s (wordN s d.n false) (nameB s d.n false) 61, d.tab⟩) := rfl
        generalize rTyp s (s.size + 2) ⟨mustN s (wordN s d.n false) (nameB s d.n false) 61, mustB s (wordN s d.n false) (nameB s d.n false) 61, d.tab⟩ = r at *
        rintro e w5 ⟨rfl, hF5, hn5, tv5, hD5, htv5⟩
        have HL5 := hide (HL4.out.keep hF5 (fun g hg e => by
          rcases e with e | e
          · rcases hg with h | h | h
            · exact owned_neD HS4.out.1 HL4.out.sl (by decide) g h e
            · exact owned_neD HS4.out.1 HL4.out.sa (by decide) g h e
            · exact owned_neD HS4.out.1 HL4.out.sr (by decide) g h e
          · rcases hg with h | h | h
            · exact HS4.out.tvne HL4.out.sl (by decide) g h e
            · exact HS4.out.tvne HL4.out.sa (by decide) g h e
            · exact HS4.out.tvne HL4.out.sr (by decide) g h e))
        have HTV5 : Hid (∀ g, tv5.ownBlock = some g → w.heap.size ≤ g) := fun g hg => by
          rcases htv5 g hg with h | h
          · exact HTV.out g h
          · have := HF4.out.size; omega
        have HF5 := hide (HF4.out.past (hF5.mono (fun k _ e => by
          rcases e with e | e
          · omega
          · exact HTV.out k e)))
        have HS5 := hide hD5
        have hD := hD5.1
        have c3 := hD.at3
        have f3 := hD.free 3
        have hdl := lt_of_heap hD
        have HDB5 := hide hD
        have HB5 : Hid (w.heap.size ≤ w5.heap.size) := HF5.out.size
        have HNL : Hid (∀ g, lv.ownBlock = some g → g ≠ w.heap.size) := owned_neD hD HL5.out.sl (by decide)
        have m1 : Hid (d.lines.length + 1 ≤ maxLen) := by show _ ≤ _; unfold maxLen; omega
        have m2 : Hid ((d.lines.length + 1) * 16 ≤ 140737488355328) := by show _ ≤ _; omega
        generalize hnm : wordS s d.n false = nm at *
        have HNM := hide hnm
        have m3 : Hid (∀ u ∈ [Value.string nm], u.oneCell' = true) := by intro u hu; simp at hu; subst hu; rfl
        obtain ⟨i9, hi, hz0, hz1, hz2⟩ := info_parts Tryz.info9
        clear hF5 hD5 htv5 hD hnm HL4 HS4 HF4 HTV
        have p1 : Hid (d.roots.length + 1 ≤ maxLen) := by show _ ≤ _; have := HLN.out; unfold maxLen; omega
        have p2 : Hid ((d.roots.length + 1) * 8 ≤ 140737488355328) := by show _ ≤ _; have := HLN.out; omega
        have p3 : Hid (∀ u ∈ [Value.int .i64 (r.2 : Int)], u.oneCell' = true) := by intro u hu; simp at hu; subst hu; rfl
        obtain ⟨i3, gi, gz0, gz1, gz2⟩ := info_parts Tryz.info3
        have HLD : Hid (rLineD s d = ⟨r.1.n, r.1.bad, r.1.tab, d.lines ++ [nm], d.ats ++ [d.n], d.roots ++ [r.2]⟩) := by
          show _ = _
          unfold rLineD
          rw [HLR.out, HNM.out]
        have HST : Hid (rDesc s (k + 1) d = if (rLineD s d).bad = true ∨ (rLineD s d).n = s.size then rLineD s d else
            if (rLineD s d).lines.length = 10 then rMark (rLineD s d) else
            if (rFeed s (rLineD s d)).bad = true then rFeed s (rLineD s d) else rDesc s k (rFeed s (rLineD s d))) := rfl
        rw [HLD.out] at HST
        have HLEN : Hid ((d.ats ++ [d.n]).length = (d.lines ++ [nm]).length ∧ (d.roots ++ [r.2]).length = (d.lines ++ [nm]).length ∧ (d.lines ++ [nm]).length ≤ 10) := by
          have := HLN.out
          show _ ∧ _ ∧ _
          simp only [List.length_append, List.length_cons, List.length_nil]
          omega
        have HTB : Hid (r.1.tab.length ≤ 1000) := by show _ ≤ _; have := HTL.out; omega
        have HTL2 : Hid (r.1.tab.length + (s.size - r.1.n) ≤ 401 + (d.lines ++ [nm]).length) := by
          have := HTL.out
          show _ ≤ _
          simp only [List.length_append, List.length_cons, List.length_nil]
          omega
        clear HLR
        rcases hbb : r.1.bad with _ | _
        · rw [hbb] at HS5 HDB5
          by_cases hend : r.1.n = s.size
          · have hq : ((r.1.n : Int) == (s.size : Int)) = true := beq_iff_eq.2 (by omega)
            have HT : Hid (rDesc s 10 ⟨0, false, [], [], [], []⟩ = ⟨r.1.n, r.1.bad, r.1.tab, d.lines ++ [nm], d.ats ++ [d.n], d.roots ++ [r.2]⟩) := HRD.out.trans (HST.out.trans (by rw [if_pos (.inr hend)]))
            have HBB := hide hbb
            clear hend hbb HST HRD
            go_wp2_with (first | (at_builtin; refine wpList_append_mine _ rfl (.tmp 37) (.tmp 39) 35 rfl 0 9 i9 (.string ⟨#[]⟩) 1 16 Tryz.underlying35 hi hz0 hz1 hz2 rfl (by decide) lv d.lines.length (texts d.lines) rfl (by exact ownsRow_heap (o := .cells #[.string nm] 9) HL5.out.sl (by rfl)) ⟨w5.heap.size, 0, none⟩ 1 1 (by omega) [.string nm] rfl rfl (by exact news1_heap (w := w5) (t := 9) (x := .string nm) rfl (by rfl)) m3.out m1.out m2.out (Nat.zero_le _) ?_; intro v6 w6 hO6 hg6 hv6; obtain ⟨g6, cap6, rfl, hgn6⟩ := hv6; have hDw := dAfter (o := .cells #[.string nm] 9) (by rfl) HDB5.out hg6 HNL.out; have q3 := hDw.at3; have qf := hDw.free 3; have HE6 := hide (ld_l (x := nm) (ob := .cells #[.string nm] 9) (by rfl) (by rfl) (by rfl) (by rfl) HL5.out HS5.out (Nat.le_refl _) hO6 hg6 ⟨g6, cap6, rfl, by simpa using hgn6⟩ HB5.out); have q5 := HE6.out.2.1.1.at5; have q5f := HE6.out.2.1.1.free 5; have HB7 : Hid (w.heap.size ≤ (w6.setCell ⟨w.heap.size, 3, none⟩ (.slice (some ⟨g6, 0, none⟩) (d.lines.length + 1) cap6)).heap.size) := Nat.le_trans HB5.out HE6.out.2.2.size; have HNR : Hid (∀ g, rv.ownBlock = some g → g ≠ w.heap.size) := owned_neD HE6.out.2.1.1 HE6.out.1.sr (by decide); clear hO6 hg6 hgn6 hDw) | (at_builtin; refine wpList_append_mine _ rfl (.tmp 47) (.tmp 49) 38 rfl 0 3 i3 (.int .i64 0) 1 8 Tryz.underlying38 gi gz0 gz1 gz2 rfl (by decide) rv d.roots.length (ints d.roots) rfl (by exact ownsRow_heap (o := .cells #[.int .i64 (r.2 : Int)] 3) HE6.out.1.sr (by rfl)) ⟨w6.heap.size, 0, none⟩ 1 1 (by omega) [.int .i64 (r.2 : Int)] rfl rfl (by exact news1_heap (w := (w6.setCell ⟨w.heap.size, 3, none⟩ (.slice (some ⟨g6, 0, none⟩) (d.lines.length + 1) cap6))) (t := 3) (x := .int .i64 (r.2 : Int)) (by simp [World.setCell]) (by rfl)) p3.out p1.out p2.out (Nat.zero_le _) ?_; intro v8 w8 hO8 hg8 hv8; obtain ⟨g8, cap8, rfl, hgn8⟩ := hv8; have hDw8 := dAfter (o := .cells #[.int .i64 (r.2 : Int)] 3) (by rfl) HE6.out.2.1.1 hg8 HNR.out; have r5 := hDw8.at5; have r5f := hDw8.free 5; have HE8 := hide (ld_r (x := r.2) (ob := .cells #[.int .i64 (r.2 : Int)] 3) (by rfl) (by rfl) (by rfl) (by rfl) HE6.out.1 HE6.out.2.1 (Nat.le_refl _) hO8 hg8 ⟨g8, cap8, rfl, by simpa using hgn8⟩ HB7.out); have r6 := HE8.out.2.1.1.at6; have r1 := HE8.out.2.1.1.at1; have r3 := HE8.out.2.1.1.at3; have r6f := HE8.out.2.1.1.free 6; clear hO8 hg8 hgn8 hDw8))
            go_ret
            obtain ⟨hL9, hS9, hF9⟩ := HE8.out
            have HF9 := hide ((HF5.out.past HE6.out.2.2).past hF9)
            rw [HT.out, HBB.out]
            exact ⟨rfl, HF9, hn5, tv5, _, a2, _, hS9, hL9, HTV5, HLEN.out.2.2, HLEN.out.1, HLEN.out.2.1, HTB⟩
          · have hq : ((r.1.n : Int) == (s.size : Int)) = false := beq_eq_false_iff_ne.2 (by omega)
            have HST2 : Hid (rDesc s 10 ⟨0, false, [], [], [], []⟩ = if (⟨r.1.n, r.1.bad, r.1.tab, d.lines ++ [nm], d.ats ++ [d.n], d.roots ++ [r.2]⟩ : RD).lines.length = 10 then rMark ⟨r.1.n, r.1.bad, r.1.tab, d.lines ++ [nm], d.ats ++ [d.n], d.roots ++ [r.2]⟩ else
                if (rFeed s ⟨r.1.n, r.1.bad, r.1.tab, d.lines ++ [nm], d.ats ++ [d.n], d.roots ++ [r.2]⟩).bad = true then rFeed s ⟨r.1.n, r.1.bad, r.1.tab, d.lines ++ [nm], d.ats ++ [d.n], d.roots ++ [r.2]⟩ else rDesc s k (rFeed s ⟨r.1.n, r.1.bad, r.1.tab, d.lines ++ [nm], d.ats ++ [d.n], d.roots ++ [r.2]⟩)) := HRD.out.trans (HST.out.trans (by rw [if_neg (by rw [hbb]; simp; exact hend)]))
            have HBB := hide hbb
            clear hend hbb HST HRD
            by_cases h10 : d.lines.length + 1 = 10
            · have hq2 : ((d.lines.length : Int) + 1 == 10) = true := beq_iff_eq.2 (by omega)
              have HT : Hid (rDesc s 10 ⟨0, false, [], [], [], []⟩ = rMark ⟨r.1.n, r.1.bad, r.1.tab, d.lines ++ [nm], d.ats ++ [d.n], d.roots ++ [r.2]⟩) := HST2.out.trans (by rw [if_pos (by simp only [List.length_append, List.length_cons, List.length_nil]; omega)])
              clear h10 HST2
              go_wp2_with (first | (at_builtin; refine wpList_append_mine _ rfl (.tmp 37) (.tmp 39) 35 rfl 0 9 i9 (.string ⟨#[]⟩) 1 16 Tryz.underlying35 hi hz0 hz1 hz2 rfl (by decide) lv d.lines.length (texts d.lines) rfl (by exact ownsRow_heap (o := .cells #[.string nm] 9) HL5.out.sl (by rfl)) ⟨w5.heap.size, 0, none⟩ 1 1 (by omega) [.string nm] rfl rfl (by exact news1_heap (w := w5) (t := 9) (x := .string nm) rfl (by rfl)) m3.out m1.out m2.out (Nat.zero_le _) ?_; intro v6 w6 hO6 hg6 hv6; obtain ⟨g6, cap6, rfl, hgn6⟩ := hv6; have hDw := dAfter (o := .cells #[.string nm] 9) (by rfl) HDB5.out hg6 HNL.out; have q3 := hDw.at3; have qf := hDw.free 3; have HE6 := hide (ld_l (x := nm) (ob := .cells #[.string nm] 9) (by rfl) (by rfl) (by rfl) (by rfl) HL5.out HS5.out (Nat.le_refl _) hO6 hg6 ⟨g6, cap6, rfl, by simpa using hgn6⟩ HB5.out); have q5 := HE6.out.2.1.1.at5; have q5f := HE6.out.2.1.1.free 5; have HB7 : Hid (w.heap.size ≤ (w6.setCell ⟨w.heap.size, 3, none⟩ (.slice (some ⟨g6, 0, none⟩) (d.lines.length + 1) cap6)).heap.size) := Nat.le_trans HB5.out HE6.out.2.2.size; have HNR : Hid (∀ g, rv.ownBlock = some g → g ≠ w.heap.size) := owned_neD HE6.out.2.1.1 HE6.out.1.sr (by decide); clear hO6 hg6 hgn6 hDw) | (at_builtin; refine wpList_append_mine _ rfl (.tmp 47) (.tmp 49) 38 rfl 0 3 i3 (.int .i64 0) 1 8 Tryz.underlying38 gi gz0 gz1 gz2 rfl (by decide) rv d.roots.length (ints d.roots) rfl (by exact ownsRow_heap (o := .cells #[.int .i64 (r.2 : Int)] 3) HE6.out.1.sr (by rfl)) ⟨w6.heap.size, 0, none⟩ 1 1 (by omega) [.int .i64 (r.2 : Int)] rfl rfl (by exact news1_heap (w := (w6.setCell ⟨w.heap.size, 3, none⟩ (.slice (some ⟨g6, 0, none⟩) (d.lines.length + 1) cap6))) (t := 3) (x := .int .i64 (r.2 : Int)) (by simp [World.setCell]) (by rfl)) p3.out p1.out p2.out (Nat.zero_le _) ?_; intro v8 w8 hO8 hg8 hv8; obtain ⟨g8, cap8, rfl, hgn8⟩ := hv8; have hDw8 := dAfter (o := .cells #[.int .i64 (r.2 : Int)] 3) (by rfl) HE6.out.2.1.1 hg8 HNR.out; have r5 := hDw8.at5; have r5f := hDw8.free 5; have HE8 := hide (ld_r (x := r.2) (ob := .cells #[.int .i64 (r.2 : Int)] 3) (by rfl) (by rfl) (by rfl) (by rfl) HE6.out.1 HE6.out.2.1 (Nat.le_refl _) hO8 hg8 ⟨g8, cap8, rfl, by simpa using hgn8⟩ HB7.out); have r6 := HE8.out.2.1.1.at6; have r1 := HE8.out.2.1.1.at1; have r3 := HE8.out.2.1.1.at3; have r6f := HE8.out.2.1.1.free 6; clear hO8 hg8 hgn8 hDw8))
              go_ret
              obtain ⟨hL9, hS9, hF9⟩ := HE8.out
              have HF9 := hide ((HF5.out.past HE6.out.2.2).past hF9)
              have hfS : Fr (One w.heap.size) (w8.setCell ⟨w.heap.size, 5, none⟩ (.slice (some ⟨g8, 0, none⟩) (d.roots.length + 1) cap8)) ((w8.setCell ⟨w.heap.size, 5, none⟩ (.slice (some ⟨g8, 0, none⟩) (d.roots.length + 1) cap8)).setCell ⟨w.heap.size, 6, none⟩ (.bool true)) := Fr.setCell _ _ _ _ rfl
              rw [HT.out]
              refine ⟨rfl, HF9.out.past (hfS.mono (fun k _ e => by have e' : k = w.heap.size := e; omega)), hn5, tv5, _, a2, _, hS9.self (.inl rfl) hfS (hS9.1.set6 true), hL9.keep hfS (fun g hg e => ?_), HTV5, HLEN.out.2.2, HLEN.out.1, HLEN.out.2.1, HTB⟩
              rcases hg with h | h | h
              · exact owned_neD hS9.1 hL9.sl (by decide) g h e
              · exact owned_neD hS9.1 hL9.sa (by decide) g h e
              · exact owned_neD hS9.1 hL9.sr (by decide) g h e
            · have hq2 : ((d.lines.length : Int) + 1 == 10) = false := beq_eq_false_iff_ne.2 (by omega)
              have HST3 : Hid (rDesc s 10 ⟨0, false, [], [], [], []⟩ = if (rFeed s ⟨r.1.n, r.1.bad, r.1.tab, d.lines ++ [nm], d.ats ++ [d.n], d.roots ++ [r.2]⟩).bad = true then rFeed s ⟨r.1.n, r.1.bad, r.1.tab, d.lines ++ [nm], d.ats ++ [d.n], d.roots ++ [r.2]⟩ else rDesc s k (rFeed s ⟨r.1.n, r.1.bad, r.1.tab, d.lines ++ [nm], d.ats ++ [d.n], d.roots ++ [r.2]⟩)) := HST2.out.trans (by rw [if_neg (by simp only [List.length_append, List.length_cons, List.length_nil]; omega)])
              have H10 := hide h10
              clear h10 HST2
              go_wp2_with (first | (at_builtin; refine wpList_append_mine _ rfl (.tmp 37) (.tmp 39) 35 rfl 0 9 i9 (.string ⟨#[]⟩) 1 16 Tryz.underlying35 hi hz0 hz1 hz2 rfl (by decide) lv d.lines.length (texts d.lines) rfl (by exact ownsRow_heap (o := .cells #[.string nm] 9) HL5.out.sl (by rfl)) ⟨w5.heap.size, 0, none⟩ 1 1 (by omega) [.string nm] rfl rfl (by exact news1_heap (w := w5) (t := 9) (x := .string nm) rfl (by rfl)) m3.out m1.out m2.out (Nat.zero_le _) ?_; intro v6 w6 hO6 hg6 hv6; obtain ⟨g6, cap6, rfl, hgn6⟩ := hv6; have hDw := dAfter (o := .cells #[.string nm] 9) (by rfl) HDB5.out hg6 HNL.out; have q3 := hDw.at3; have qf := hDw.free 3; have HE6 := hide (ld_l (x := nm) (ob := .cells #[.string nm] 9) (by rfl) (by rfl) (by rfl) (by rfl) HL5.out HS5.out (Nat.le_refl _) hO6 hg6 ⟨g6, cap6, rfl, by simpa using hgn6⟩ HB5.out); have q5 := HE6.out.2.1.1.at5; have q5f := HE6.out.2.1.1.free 5; have HB7 : Hid (w.heap.size ≤ (w6.setCell ⟨w.heap.size, 3, none⟩ (.slice (some ⟨g6, 0, none⟩) (d.lines.length + 1) cap6)).heap.size) := Nat.le_trans HB5.out HE6.out.2.2.size; have HNR : Hid (∀ g, rv.ownBlock = some g → g ≠ w.heap.size) := owned_neD HE6.out.2.1.1 HE6.out.1.sr (by decide); clear hO6 hg6 hgn6 hDw) | (at_builtin; refine wpList_append_mine _ rfl (.tmp 47) (.tmp 49) 38 rfl 0 3 i3 (.int .i64 0) 1 8 Tryz.underlying38 gi gz0 gz1 gz2 rfl (by decide) rv d.roots.length (ints d.roots) rfl (by exact ownsRow_heap (o := .cells #[.int .i64 (r.2 : Int)] 3) HE6.out.1.sr (by rfl)) ⟨w6.heap.size, 0, none⟩ 1 1 (by omega) [.int .i64 (r.2 : Int)] rfl rfl (by exact news1_heap (w := (w6.setCell ⟨w.heap.size, 3, none⟩ (.slice (some ⟨g6, 0, none⟩) (d.lines.length + 1) cap6))) (t := 3) (x := .int .i64 (r.2 : Int)) (by simp [World.setCell]) (by rfl)) p3.out p1.out p2.out (Nat.zero_le _) ?_; intro v8 w8 hO8 hg8 hv8; obtain ⟨g8, cap8, rfl, hgn8⟩ := hv8; have hDw8 := dAfter (o := .cells #[.int .i64 (r.2 : Int)] 3) (by rfl) HE6.out.2.1.1 hg8 HNR.out; have r5 := hDw8.at5; have r5f := hDw8.free 5; have HE8 := hide (ld_r (x := r.2) (ob := .cells #[.int .i64 (r.2 : Int)] 3) (by rfl) (by rfl) (by rfl) (by rfl) HE6.out.1 HE6.out.2.1 (Nat.le_refl _) hO8 hg8 ⟨g8, cap8, rfl, by simpa using hgn8⟩ HB7.out); have r6 := HE8.out.2.1.1.at6; have r1 := HE8.out.2.1.1.at1; have r3 := HE8.out.2.1.1.at3; have r6f := HE8.out.2.1.1.free 6; clear hO8 hg8 hgn8 hDw8))
              obtain ⟨hL9, hS9, hF9⟩ := HE8.out
              have HF9 := hide ((HF5.out.past HE6.out.2.2).past hF9)
              refine (must_any hS9.1 hsm hn5 10 10 rfl (by omega)).mono ?_
              rintro e w10 ⟨rfl, hF10, hD10, hn10⟩
              have HL10 := hide (hL9.keep hF10 (fun g hg e => by
                rcases hg with h | h | h
                · exact owned_neD hS9.1 hL9.sl (by decide) g h e
                · exact owned_neD hS9.1 hL9.sa (by decide) g h e
                · exact owned_neD hS9.1 hL9.sr (by decide) g h e))
              have HS10 := hide (hS9.self (.inl rfl) hF10 hD10)
              have HF10 := hide (HF9.out.past (hF10.mono (fun k _ e => by have e' : k = w.heap.size := e; omega)))
              clear hL9 hS9 hF9 hF10 hD10 HE8 HE6 HF9 HL5 HS5 HF5 HDB5 q3 qf q5 q5f r5 r5f r6 r1 r3 r6f HB5 HB7 HNL HNR m1 m2 m3 p1 p2 p3 hi hz0 hz1 hz2 gi gz0 gz1 gz2 c3 f3 hdl
              go_wp2_with fail
              go_roundw
              case rel =>
                have hmg := mustN_ge s r.1.n r.1.bad 10
                have := H10.out
                have hfe : rFeed s ⟨r.1.n, r.1.bad, r.1.tab, d.lines ++ [nm], d.ats ++ [d.n], d.roots ++ [r.2]⟩ = ⟨mustN s r.1.n r.1.bad 10, mustB s r.1.n r.1.bad 10, r.1.tab, d.lines ++ [nm], d.ats ++ [d.n], d.roots ++ [r.2]⟩ := rfl
                refine ⟨rfl, rFeed s ⟨r.1.n, r.1.bad, r.1.tab, d.lines ++ [nm], d.ats ++ [d.n], d.roots ++ [r.2]⟩, tv5, _, a2, _, (by rw [hfe, HBB.out]; exact hn10), (fun hf => ⟨k - 1, (by rw [hfe]; simp only [List.length_append, List.length_cons, List.length_nil]; omega), ?_⟩), (fun hf => HST3.out.trans (by rw [if_pos hf])), ?_, HLEN.out.2.2, ⟨HLEN.out.1, HLEN.out.2.1⟩, (by rw [hfe, HBB.out]; exact HS10), HL10, HTV5, HF10⟩
                · rw [show k - 1 + 1 = k by omega]
                  exact HST3.out.trans (by rw [if_neg (by rw [hf]; simp)])
                · show _ ≤ _
                  have := HTL2.out
                  rw [hfe]
                  show r.1.tab.length + (s.size - mustN s r.1.n r.1.bad 10) ≤ 401 + (d.lines ++ [nm]).length
                  omega
              case measure =>
                show 11 - linesLen w.heap.size w10 < 11 - linesLen w.heap.size wr
                rw [HLL0.out, HL10.out.linesLen HS10.out.1]
                simp only [List.length_append, List.length_cons, List.length_nil]
                omega
        · rw [hbb] at HS5 HDB5
          have HT : Hid (rDesc s 10 ⟨0, false, [], [], [], []⟩ = ⟨r.1.n, r.1.bad, r.1.tab, d.lines ++ [nm], d.ats ++ [d.n], d.roots ++ [r.2]⟩) := HRD.out.trans (HST.out.trans (by rw [if_pos (.inl hbb)]))
          have HBB := hide hbb
          clear hbb HST HRD
          go_wp2_with (first | (at_builtin; refine wpList_append_mine _ rfl (.tmp 37) (.tmp 39) 35 rfl 0 9 i9 (.string ⟨#[]⟩) 1 16 Tryz.underlying35 hi hz0 hz1 hz2 rfl (by decide) lv d.lines.length (texts d.lines) rfl (by exact ownsRow_heap (o := .cells #[.string nm] 9) HL5.out.sl (by rfl)) ⟨w5.heap.size, 0, none⟩ 1 1 (by omega) [.string nm] rfl rfl (by exact news1_heap (w := w5) (t := 9) (x := .string nm) rfl (by rfl)) m3.out m1.out m2.out (Nat.zero_le _) ?_; intro v6 w6 hO6 hg6 hv6; obtain ⟨g6, cap6, rfl, hgn6⟩ := hv6; have hDw := dAfter (o := .cells #[.string nm] 9) (by rfl) HDB5.out hg6 HNL.out; have q3 := hDw.at3; have qf := hDw.free 3; have HE6 := hide (ld_l (x := nm) (ob := .cells #[.string nm] 9) (by rfl) (by rfl) (by rfl) (by rfl) HL5.out HS5.out (Nat.le_refl _) hO6 hg6 ⟨g6, cap6, rfl, by simpa using hgn6⟩ HB5.out); have q5 := HE6.out.2.1.1.at5; have q5f := HE6.out.2.1.1.free 5; have HB7 : Hid (w.heap.size ≤ (w6.setCell ⟨w.heap.size, 3, none⟩ (.slice (some ⟨g6, 0, none⟩) (d.lines.length + 1) cap6)).heap.size) := Nat.le_trans HB5.out HE6.out.2.2.size; have HNR : Hid (∀ g, rv.ownBlock = some g → g ≠ w.heap.size) := owned_neD HE6.out.2.1.1 HE6.out.1.sr (by decide); clear hO6 hg6 hgn6 hDw) | (at_builtin; refine wpList_append_mine _ rfl (.tmp 47) (.tmp 49) 38 rfl 0 3 i3 (.int .i64 0) 1 8 Tryz.underlying38 gi gz0 gz1 gz2 rfl (by decide) rv d.roots.length (ints d.roots) rfl (by exact ownsRow_heap (o := .cells #[.int .i64 (r.2 : Int)] 3) HE6.out.1.sr (by rfl)) ⟨w6.heap.size, 0, none⟩ 1 1 (by omega) [.int .i64 (r.2 : Int)] rfl rfl (by exact news1_heap (w := (w6.setCell ⟨w.heap.size, 3, none⟩ (.slice (some ⟨g6, 0, none⟩) (d.lines.length + 1) cap6))) (t := 3) (x := .int .i64 (r.2 : Int)) (by simp [World.setCell]) (by rfl)) p3.out p1.out p2.out (Nat.zero_le _) ?_; intro v8 w8 hO8 hg8 hv8; obtain ⟨g8, cap8, rfl, hgn8⟩ := hv8; have hDw8 := dAfter (o := .cells #[.int .i64 (r.2 : Int)] 3) (by rfl) HE6.out.2.1.1 hg8 HNR.out; have r5 := hDw8.at5; have r5f := hDw8.free 5; have HE8 := hide (ld_r (x := r.2) (ob := .cells #[.int .i64 (r.2 : Int)] 3) (by rfl) (by rfl) (by rfl) (by rfl) HE6.out.1 HE6.out.2.1 (Nat.le_refl _) hO8 hg8 ⟨g8, cap8, rfl, by simpa using hgn8⟩ HB7.out); have r6 := HE8.out.2.1.1.at6; have r1 := HE8.out.2.1.1.at1; have r3 := HE8.out.2.1.1.at3; have r6f := HE8.out.2.1.1.free 6; clear hO8 hg8 hgn8 hDw8))
          go_ret
          obtain ⟨hL9, hS9, hF9⟩ := HE8.out
          have HF9 := hide ((HF5.out.past HE6.out.2.2).past hF9)
          rw [HT.out, HBB.out]
          exact ⟨rfl, HF9, hn5, tv5, _, a2, _, hS9, hL9, HTV5, HLEN.out.2.2, HLEN.out.1, HLEN.out.2.1, HTB⟩
    · have HR := hide (HNo.out hb)
      rw [hb] at hD0 HS
      have c6 := hD0.at6
      have HBD := hide hb
      clear HY HNo hb hD0
      go_wp2_with fail
      go_ret
      rw [HR.out]
      exact ⟨rfl, HF, hdn, tv, lv, av, rv, (by rw [HBD.out]; exact HS), HL, HTV, hll, HLN.out.1, HLN.out.2, by have := HTL.out; omega⟩

end Go.Proofs.YtnhkalnihjkoeaaGreatDoor

namespace Go.Proofs.YtnhkalnihjkoeaaGreatDoor
open Go.RowKit

/-- The root of the first line of a name. -/
def rFind (nm : ByteArray) : List (ByteArray × Nat) → Option Nat
  | [] => none
  | p :: r => if p.1 = nm then some p.2 else rFind nm r
def rNamed (lines : List ByteArray) (roots : List Nat) (nm : ByteArray) (i : Nat) : Option Nat := rFind nm ((lines.zip roots).take i)
def intOr (o : Option Nat) : Int := match o with
  | some x => (x : Int)
  | none => -1

theorem rFind_none {nm : ByteArray} {l : List (ByteArray × Nat)} : (∀ (j : Nat) (q : ByteArray × Nat), l[j]? = some q → q.1 ≠ nm) → rFind nm l = none := by
  induction l with
  | nil => intro _; rfl
  | cons p r ih =>
    intro h
    rw [rFind, if_neg (h 0 p rfl)]
    exact ih (fun j q hq => h (j + 1) q (by simpa using hq))
theorem rFind_some {nm : ByteArray} {l : List (ByteArray × Nat)} : ∀ (k : Nat) (p : ByteArray × Nat), l[k]? = some p → p.1 = nm → (∀ (j : Nat) (q : ByteArray × Nat), j < k → l[j]? = some q → q.1 ≠ nm) → rFind nm l = some p.2 := by
  induction l with
  | nil => intro k p h; simp at h
  | cons q r ih =>
    intro k p h he hn
    cases k with
    | zero => simp at h; subst h; rw [rFind, if_pos he]
    | succ k =>
      rw [rFind, if_neg (hn 0 q (by omega) rfl)]
      exact ih k p (by simpa using h) he (fun j q' hj hq => hn (j + 1) q' (by omega) (by simpa using hq))

theorem sl_cell {w : World} {e : TypeId} {g n cap k : Nat} {xs : List Value} {base : Nat} (h : w.ownsRow base e 1 (.slice (some ⟨g, 0, none⟩) n cap) n xs) (hk : k < n) : w.cell? ⟨g, k, none⟩ = xs[k]? := h.cellAt k (by omega)

set_option maxHeartbeats 2000000 in
theorem named_any {w : World} {B db : Nat} {s : ByteArray} {n : Nat} {bad : Bool} {tv lv av rv : Value} {lines : List ByteArray} {ats roots : List Nat} (hD : DB w db s n bad tv lv av rv) (hL : LD w B lv av rv lines ats roots) (hr : roots.length = lines.length) (hl : lines.length ≤ 1000) (nm : ByteArray) (i : Nat) (hi : i ≤ lines.length) :
    Calls Tryz.prog 103 #[.pointer (some ⟨db, 0, none⟩), .string nm, .int .i64 i] w fun e w' => e = .returned (.int .i64 (intOr (rNamed lines roots nm i))) ∧ w' = w := by
  have c3 := hD.at3
  have c5 := hD.at5
  have HL := hide hL
  have HR := hide hr
  clear hD hL hr
  by_cases h0 : lines = []
  · have hi0 : i = 0 := by rw [h0] at hi; simpa using hi
    have HE : Hid (rNamed lines roots nm i = none) := by show _ = _; rw [h0, hi0]; rfl
    subst hi0
    clear hi
    go_enter Tryz.func103, Tryz.ntmps103
    go_wp2_with fail
    refine wp_loop_rounds 1 ?_
    rw [rounds_succ]
    go_wp2_with fail
    go_ret
    rw [HE.out]
    exact ⟨rfl, rfl⟩
  · have hpos : 0 < lines.length := List.length_pos_iff.2 h0
    rcases HL.out.sl.2 with ⟨_, e⟩ | ⟨gl, cl, curl, el, _⟩
    · omega
    rcases HL.out.sr.2 with ⟨_, e⟩ | ⟨gr, cr, curr, er, _⟩
    · have := HR.out; omega
    have hol := HL.out.sl
    have hor := HL.out.sr
    subst el er
    have HOL := hide hol
    have HOR := hide hor
    clear hol hor HL h0
    go_enter Tryz.func103, Tryz.ntmps103
    go_wp2_with fail
    go_loop [7] (fun kv => ∃ k : Nat, k ≤ i ∧ kv = .int .i64 k ∧ Hid (∀ (j : Nat) (q : ByteArray × Nat), j < k → (lines.zip roots)[j]? = some q → q.1 ≠ nm)) (fun kv => i - (intOf kv).toNat)
    case atStart => exact ⟨0, by omega, rfl, fun j q hj => by omega⟩
    case round =>
      obtain ⟨k, hk, rfl, HN⟩ := hrel
      by_cases hlt : k < i
      · have hkl : k < lines.length := by omega
        have hkr : k < roots.length := by have := HR.out; omega
        have hcl : w.cell? ⟨gl, k, none⟩ = some (.string lines[k]) := by rw [sl_cell HOL.out hkl]; simp [texts, hkl]
        have hcr : w.cell? ⟨gr, k, none⟩ = some (.int .i64 (roots[k] : Nat)) := by rw [sl_cell HOR.out hkr]; simp [ints, hkr]
        have hrI : ((k : Nat) : Int) < ((roots.length : Nat) : Int) := by omega
        have hlI : ((k : Nat) : Int) < ((lines.length : Nat) : Int) := by omega
        have HZ : Hid ((lines.zip roots)[k]? = some (lines[k], roots[k])) := by show _ = _; rw [List.getElem?_eq_getElem (by simp; omega)]; simp
        by_cases hq : lines[k] = nm
        · have hb : (lines[k].toList == nm.toList) = true := by rw [strEq]; simp [hq]
          have HQ := hide hq
          clear hq
          generalize lines[k] = a at *
          generalize roots[k] = b at *
          go_wp2_with fail
          go_ret
          have e : rNamed lines roots nm i = some b := by
            unfold rNamed
            refine rFind_some k (a, b) ?_ HQ.out (fun j q hj hq => ?_)
            · rw [List.getElem?_take_of_lt hlt]; exact HZ.out
            · rw [List.getElem?_take_of_lt (by omega)] at hq; exact HN.out j q hj hq
          rw [e]
          exact ⟨rfl, rfl⟩
        · have hb : (lines[k].toList == nm.toList) = false := by rw [strEq]; simp [hq]
          have HQ := hide hq
          clear hq
          generalize lines[k] = a at *
          generalize roots[k] = b at *
          go_wp2_with fail
          go_round
          case rel =>
            refine ⟨k + 1, by omega, by go_num, fun j q hj hq => ?_⟩
            by_cases e : j < k
            · exact HN.out j q e hq
            · have : j = k := by omega
              subst this
              rw [HZ.out] at hq
              cases hq
              exact HQ.out
          case measure => simp [intOf]; omega
      · have hki : k = i := by omega
        subst hki
        have e : Hid (rNamed lines roots nm k = none) := by
          show _ = _
          unfold rNamed
          refine rFind_none (fun j q hq => ?_)
          by_cases hj : j < k
          · rw [List.getElem?_take_of_lt hj] at hq; exact HN.out j q hj hq
          · rw [List.getElem?_eq_none (by rw [List.length_take]; omega)] at hq; cases hq
        go_wp2_with fail
        go_ret
        rw [e.out]
        exact ⟨rfl, rfl⟩

end Go.Proofs.YtnhkalnihjkoeaaGreatDoor

namespace Go.Proofs.YtnhkalnihjkoeaaGreatDoor
open Go.RowKit

def rowAt (tab : List RT) (x : Nat) : RT := (tab[x]?).getD ⟨0, [], [], []⟩
def textAt (l : List ByteArray) (k : Nat) : ByteArray := (l[k]?).getD ⟨#[]⟩
def numAt (l : List Nat) (k : Nat) : Nat := (l[k]?).getD 0

/-- Is the k-th name one of those ahead of it, from the j-th on? -/
def dupFrom (l : List ByteArray) (k : Nat) : Nat → Nat → Bool
  | 0, _ => false
  | m + 1, j => decide (textAt l j = textAt l k) || dupFrom l k m (j + 1)
def dup (l : List ByteArray) (k : Nat) : Bool := !l.isEmpty && dupFrom l k k 0

def rLoopW (rd : List RT → Nat → Option Nat × List RT) (t : RT) : Nat → Nat → List RT → Option Nat × List RT
  | 0, _, tab => (none, tab)
  | m + 1, k, tab =>
    if dup t.names k = true then (some (numAt t.ats k), tab) else
    match (rd tab (numAt t.of k)).1 with
    | some a => (some a, (rd tab (numAt t.of k)).2)
    | none => rLoopW rd t m (k + 1) (rd tab (numAt t.of k)).2

def rWrong (lines : List ByteArray) (roots : List Nat) (i : Nat) : Nat → List RT → Nat → Option Nat × List RT
  | 0 => fun tab _ => (none, tab)
  | f + 1 => fun tab x =>
    if (rowAt tab x).kind = 11 then
      match rNamed lines roots (textAt (rowAt tab x).names 0) i with
      | none => (some (numAt (rowAt tab x).ats 0), tab)
      | some to => (none, tab.set x ⟨11, [to], (rowAt tab x).names, (rowAt tab x).ats⟩)
    else rLoopW (rWrong lines roots i f) (rowAt tab x) (rowAt tab x).of.length 0 tab

/-- What a table must be, so that no look into it fails. -/
def W1 (tab : List RT) : Prop := ∀ (x : Nat) (t : RT), tab[x]? = some t → (t.kind ≠ 11 → (∀ y ∈ t.of, y < x) ∧ ((t.names = [] ∧ t.kind ≤ 8) ∨ (t.names.length = t.of.length ∧ t.ats.length = t.of.length))) ∧ (t.kind = 11 → t.names.length = 1 ∧ t.ats.length = 1)

theorem W1.set {tab : List RT} (h : W1 tab) {x to : Nat} {t : RT} (hx : tab[x]? = some t) (hk : t.kind = 11) : W1 (tab.set x ⟨11, [to], t.names, t.ats⟩) := by
  intro y u hu
  by_cases e : y = x
  · subst e
    have hlt : y < tab.length := (List.getElem?_eq_some_iff.1 hx).1
    rw [List.getElem?_set_self hlt] at hu
    cases hu
    exact ⟨fun h => absurd rfl h, fun _ => (h y t hx).2 hk⟩
  · rw [List.getElem?_set_ne (fun e' => e e'.symm)] at hu
    exact h y u hu

/-- The table keeps its length and form. -/
theorem rWrong_keeps (lines : List ByteArray) (roots : List Nat) (i : Nat) : ∀ (f : Nat) (tab : List RT) (x : Nat), W1 tab → x < tab.length → W1 (rWrong lines roots i f tab x).2 ∧ (rWrong lines roots i f tab x).2.length = tab.length := by
  intro f
  induction f with
  | zero => intro tab x h _; exact ⟨h, rfl⟩
  | succ f ih =>
    intro tab x h hx
    have hg : tab[x]? = some (rowAt tab x) := by unfold rowAt; simp [hx]
    simp only [rWrong]
    split
    · rename_i hk
      split
      · exact ⟨h, rfl⟩
      · exact ⟨h.set hg hk, by simp⟩
    · rename_i hk
      have hof := ((h x _ hg).1 hk).1
      have key : ∀ (m k : Nat) (tb : List RT), W1 tb → tb.length = tab.length → k + m = (rowAt tab x).of.length → W1 (rLoopW (rWrong lines roots i f) (rowAt tab x) m k tb).2 ∧ (rLoopW (rWrong lines roots i f) (rowAt tab x) m k tb).2.length = tab.length := by
        intro m
        induction m with
        | zero => intro k tb h1 h2 _; exact ⟨h1, h2⟩
        | succ m ihm =>
          intro k tb h1 h2 hm
          have hkl : k < (rowAt tab x).of.length := by omega
          have hy : numAt (rowAt tab x).of k < tb.length := by
            have : numAt (rowAt tab x).of k ∈ (rowAt tab x).of := by unfold numAt; simp [hkl]
            have := hof _ this
            omega
          have h3 := ih tb (numAt (rowAt tab x).of k) h1 hy
          simp only [rLoopW]
          split
          · exact ⟨h1, h2⟩
          · split
            · exact ⟨h3.1, h3.2.trans h2⟩
            · exact ihm (k + 1) _ h3.1 (h3.2.trans h2) (by omega)
      exact key _ 0 tab h rfl (by simp)

/-! ### Memory -/
theorem rvCells_set (l : List RV) : ∀ (x : Nat) (r : RV) (o : Value), l[x]? = some r → rvCells (l.set x ⟨r.k, o, r.n, r.a⟩) = (rvCells l).set (x * 4 + 1) o := by
  induction l with
  | nil => intro x r o h; simp at h
  | cons q l ih =>
    intro x r o h
    have e : ∀ (z : RV) (m : List RV), rvCells (z :: m) = .int .i64 z.k :: z.o :: z.n :: z.a :: rvCells m := fun z m => rfl
    cases x with
    | zero => simp at h; subst h; rfl
    | succ x =>
      rw [List.set_cons_succ, e, e, ih x r o (by simpa using h), show (x + 1) * 4 + 1 = (x * 4 + 1) + 1 + 1 + 1 + 1 by omega]
      rfl

theorem TabR.set {w : World} {X : Nat → Prop} {rows : List RV} {tab : List RT} (h : TabR w X rows tab) (x : Nat) {r : RV} {t : RT} (hr : RTR w X r t) : TabR w X (rows.set x r) (tab.set x t) := by
  refine ⟨by simp [h.1], fun j p q hp hq => ?_⟩
  by_cases e : j = x
  · subst e
    have h1 : j < rows.length := by
      have := (List.getElem?_eq_some_iff.1 hp).1
      simpa using this
    rw [List.getElem?_set_self h1] at hp
    rw [List.getElem?_set_self (by rw [← h.1]; exact h1)] at hq
    cases hp; cases hq
    exact hr
  · rw [List.getElem?_set_ne (fun e' => e e'.symm)] at hp hq
    exact h.2 j p q hp hq

/-- A row of the table, in memory. -/
theorem DS.row {w : World} {X : Nat → Prop} {db : Nat} {s : ByteArray} {n : Nat} {bad : Bool} {tv lv av rv : Value} {tab : List RT} (h : DS w X db s n bad tv lv av rv tab) {x : Nat} (hx : x < tab.length) :
    ∃ (g cap : Nat) (o nv a : Value), tv = .slice (some ⟨g, 0, none⟩) tab.length cap ∧ w.cell? ⟨g, x * 4, none⟩ = some (.int .i64 (rowAt tab x).kind) ∧ w.cell? ⟨g, x * 4 + 1, none⟩ = some o ∧ w.cell? ⟨g, x * 4 + 2, none⟩ = some nv ∧ w.cell? ⟨g, x * 4 + 3, none⟩ = some a ∧
      RTR w (XO X tv) ⟨(rowAt tab x).kind, o, nv, a⟩ (rowAt tab x) ∧ (∀ i, w.frozen? ⟨g, i, none⟩ = false) ∧
      (∀ (w' : World) (o' : Value) (t' : RT), Fr Zero w w' → RTR w' (XO X tv) ⟨(rowAt tab x).kind, o', nv, a⟩ t' → DS (w'.setCell ⟨g, x * 4 + 1, none⟩ o') X db s n bad tv lv av rv (tab.set x t')) := by
  obtain ⟨hD, rows, hO, hT⟩ := h
  have hxr : x < rows.length := by rw [hT.1]; exact hx
  obtain ⟨r, hr⟩ : ∃ r, rows[x]? = some r := ⟨rows[x], by simp [hxr]⟩
  have htx : tab[x]? = some (rowAt tab x) := by unfold rowAt; simp [hx]
  have hrt := hT.2 x r _ hr htx
  obtain ⟨rk, ro, rn, ra⟩ := r
  have hrk : rk = (rowAt tab x).kind := hrt.1
  subst hrk
  obtain ⟨q0, q1, q2, q3⟩ := rvCells_get rows x _ hr
  have hne := owned_neD hD hO (by decide)
  rcases hO.2 with ⟨_, e⟩ | ⟨g, cap, cur, htv, hbb, hcur, hrest⟩
  · omega
  · subst htv
    have hlen : ∀ j, j < 4 → x * 4 + j < rows.length * 4 := fun j hj => by omega
    refine ⟨g, cap, ro, rn, ra, by rw [hT.1], ?_, ?_, ?_, ?_, hrt, fun i => hO.frozenAt i, ?_⟩
    · rw [hO.cellAt (x * 4) (hlen 0 (by omega))]; exact q0
    · rw [hO.cellAt _ (hlen 1 (by omega))]; exact q1
    · rw [hO.cellAt _ (hlen 2 (by omega))]; exact q2
    · rw [hO.cellAt _ (hlen 3 (by omega))]; exact q3
    · intro w' o' t' hf hr'
      have hO' := ownsRow_keep hO hf (fun _ _ h => h)
      have hfS : Fr (One g) w' (w'.setCell ⟨g, x * 4 + 1, none⟩ o') := Fr.setCell _ _ _ _ rfl
      refine ⟨hfS.keep (hf.keep hD (fun h => h)) (fun e => hne g rfl e.symm), rows.set x ⟨(rowAt tab x).kind, o', rn, ra⟩, ?_, ?_⟩
      · rw [rvCells_set rows x ⟨(rowAt tab x).kind, ro, rn, ra⟩ o' hr, List.length_set]
        exact (hO'.stored (x * 4 + 1) o').1
      · exact ((hT.keep hf.of0).set x hr').keep (hfS.mono (fun k _ e => .inr (by have e' : k = g := e; rw [e']; rfl)))

end Go.Proofs.YtnhkalnihjkoeaaGreatDoor
