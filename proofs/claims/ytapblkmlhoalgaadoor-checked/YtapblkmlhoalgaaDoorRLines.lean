/- The other reader's parse. -/
import Derived.Test.YtapblkmlhoalgaaDoorRTyp
namespace Go.Proofs.YtapblkmlhoalgaaDoor
open Go.RowKit

structure RD where
  n : Nat
  bad : Bool
  tab : List RT
  lines : List ByteArray
  ats : List Nat
  roots : List Nat

def rLineR (s : ByteArray) (d : RD) : RS × Nat := rTyp s (s.size + 2) (rMust s 61 ⟨wordN s d.n false, nameB s d.n false, d.tab⟩)
def rLineD (s : ByteArray) (d : RD) : RD := ⟨(rLineR s d).1.n, (rLineR s d).1.bad, (rLineR s d).1.tab, d.lines ++ [wordS s d.n false], d.ats ++ [d.n], d.roots ++ [(rLineR s d).2]⟩
def rMark (d : RD) : RD := ⟨d.n, true, d.tab, d.lines, d.ats, d.roots⟩
def rFeed (s : ByteArray) (d : RD) : RD := ⟨mustN s d.n d.bad 10, mustB s d.n d.bad 10, d.tab, d.lines, d.ats, d.roots⟩

def rDesc (s : ByteArray) : Nat → RD → RD
  | 0, d => d
  | k + 1, d =>
    if (rLineD s d).bad = true ∨ (rLineD s d).n = s.size then rLineD s d else
    if (rLineD s d).lines.length = 10 then rMark (rLineD s d) else
    if (rFeed s (rLineD s d)).bad = true then rFeed s (rLineD s d) else rDesc s k (rFeed s (rLineD s d))

/-- The lists of lines, places and roots in memory. -/
structure LD (w : World) (B : Nat) (lv av rv : Value) (lines : List ByteArray) (ats roots : List Nat) : Prop where
  sl : w.ownsRow 0 9 1 lv lines.length (texts lines)
  sa : w.ownsRow 0 3 1 av ats.length (ints ats)
  sr : w.ownsRow 0 3 1 rv roots.length (ints roots)
  ne : ∀ g, av.ownBlock = some g → rv.ownBlock ≠ some g
  base : ∀ g, (lv.ownBlock = some g ∨ av.ownBlock = some g ∨ rv.ownBlock = some g) → B ≤ g

def XL (db : Nat) (lv av rv : Value) : Nat → Prop := fun k => k = db ∨ lv.ownBlock = some k ∨ av.ownBlock = some k ∨ rv.ownBlock = some k

theorem LD.lt {w : World} {B : Nat} {lv av rv : Value} {lines : List ByteArray} {ats roots : List Nat} (h : LD w B lv av rv lines ats roots) : ∀ g, (lv.ownBlock = some g ∨ av.ownBlock = some g ∨ rv.ownBlock = some g) → g < w.heap.size := by
  rintro g (hg | hg | hg)
  · exact (h.sl.lt g hg).2
  · exact (h.sa.lt g hg).2
  · exact (h.sr.lt g hg).2

theorem LD.keep {w w' : World} {Y : Nat → Prop} {B : Nat} {lv av rv : Value} {lines : List ByteArray} {ats roots : List Nat} (h : LD w B lv av rv lines ats roots) (hf : Fr Y w w') (hy : ∀ g, (lv.ownBlock = some g ∨ av.ownBlock = some g ∨ rv.ownBlock = some g) → ¬ Y g) : LD w' B lv av rv lines ats roots :=
  ⟨ownsRow_keep h.sl hf (fun g hg => hy g (.inl hg)), ownsRow_keep h.sa hf (fun g hg => hy g (.inr (.inl hg))), ownsRow_keep h.sr hf (fun g hg => hy g (.inr (.inr hg))), h.ne, h.base⟩

theorem DS.field {w w' : World} {X : Nat → Prop} {db : Nat} {s : ByteArray} {n : Nat} {bad : Bool} {tv lv av rv lv' av' rv' : Value} {tab : List RT} (h : DS w X db s n bad tv lv av rv tab) (hX : X db) (hf : Fr (One db) w w') (hD' : DB w' db s n bad tv lv' av' rv') : DS w' X db s n bad tv lv' av' rv' tab := by
  obtain ⟨hD, rows, hO, hT⟩ := h
  exact ⟨hD', rows, ownsRow_keep hO hf (fun g hg e => owned_neD hD hO (by decide) g hg e), hT.keep (hf.mono (fun k _ hk => by have e : k = db := hk; rw [e]; exact .inl hX))⟩

theorem ld_a {W wq w' : World} {B db : Nat} {s : ByteArray} {n : Nat} {bad : Bool} {tv lv av rv v' : Value} {tab : List RT} {lines : List ByteArray} {ats roots : List Nat} {x : Nat} {ob : Obj} (he : W.heap = (wq.alloc ob).heap) (hos : W.os = wq.os) (htp : W.tape = wq.tape) (hou : W.output = wq.output)
    (hLq : LD wq B lv av rv lines ats roots) (hSq : DS wq (XL db lv av rv) db s n bad tv lv av rv tab) (hdb : B ≤ db)
    (hO2 : w'.ownsRow 0 3 1 v' (ats.length + 1) (ints ats ++ [.int .i64 x])) (hg : W.grownBy w' av.ownBlock) (hv : ∃ g cap, v' = .slice (some ⟨g, 0, none⟩) (ats.length + 1) cap ∧ (av.ownBlock = some g ∨ W.heap.size ≤ g)) (hB : B ≤ wq.heap.size) :
    LD (w'.setCell ⟨db, 4, none⟩ v') B lv v' rv lines (ats ++ [x]) roots ∧ DS (w'.setCell ⟨db, 4, none⟩ v') (XL db lv v' rv) db s n bad tv lv v' rv tab ∧ Fr (fun k => B ≤ k) wq (w'.setCell ⟨db, 4, none⟩ v') := by
  have hF := heapF he hos htp hou
  have hL := hLq.keep hF (fun _ _ h => h)
  have hS := hSq.keep0 hF
  have hf : Fr (fun k => av.ownBlock = some k) W w' := Fr.grown hg (fun k e _ => e)
  have hvd : ∀ g, av.ownBlock = some g → g ≠ db := owned_neD hS.1 hL.sa (by decide)
  have hvt := hS.tvne hL.sa (by decide)
  have hlt := hL.lt
  have hfS : Fr (One db) w' (w'.setCell ⟨db, 4, none⟩ v') := Fr.setCell _ _ _ _ rfl
  obtain ⟨g, cap, rfl, hgg⟩ := hv
  have hgd : g ≠ db := by
    rcases hgg with h | h
    · exact hvd g h
    · have := lt_of_heap hS.1; omega
  have hgB : B ≤ g := by
    rcases hgg with h | h
    · exact hL.base g (.inr (.inl h))
    · have := hF.size; omega
  have hkl := ownsRow_keep (ownsRow_keep hL.sl hf (fun g' hg' e => by obtain ⟨c1, q1⟩ := own_type hL.sl hg'; obtain ⟨c2, q2⟩ := own_type hL.sa e; rw [q1] at q2; simp at q2)) hfS (fun g' hg' e => owned_neD hS.1 hL.sl (by decide) g' hg' e)
  have hkr := ownsRow_keep (ownsRow_keep hL.sr hf (fun g' hg' e => hL.ne g' e hg')) hfS (fun g' hg' e => owned_neD hS.1 hL.sr (by decide) g' hg' e)
  have hkv := ownsRow_keep hO2 hfS (fun g' hg' e => by simp [Value.ownBlock] at hg'; subst hg'; exact hgd e)
  refine ⟨⟨hkl, (by rw [ints_snoc, List.length_append]; exact hkv), hkr, ?_, ?_⟩, ?_, ?_⟩
  · intro g' hg' e
    simp [Value.ownBlock] at hg'
    subst hg'
    rcases hgg with h | h
    · exact hL.ne _ h e
    · have := hlt g (.inr (.inr e)); omega
  · intro g' hg'
    rcases hg' with h | h | h
    · exact hL.base g' (.inl h)
    · simp [Value.ownBlock] at h; subst h; exact hgB
    · exact hL.base g' (.inr (.inr h))
  · refine DS.field (DS.grow hS hg (fun k e => ⟨(.inr (.inr (.inl e))), hvd k e, hvt k e⟩) (fun b hb => ?_)) (.inl rfl) hfS ?_
    · rcases hb with h | h | h | h
      · exact .inl (.inl h)
      · exact .inl (.inr (.inl h))
      · simp [Value.ownBlock] at h
        subst h
        rcases hgg with h | h
        · exact .inl (.inr (.inr (.inl h)))
        · exact .inr h
      · exact .inl (.inr (.inr (.inr h)))
    · exact DB.set4 (hf.keep hS.1 (fun e => hvd db e rfl)) _
  · exact (hF.of0 (X := fun k => B ≤ k)).trans ((hf.mono (fun k _ e => hL.base k (.inr (.inl e)))).trans (hfS.mono (fun k _ e => by have e' : k = db := e; omega)))

theorem ld_l {W wq w' : World} {B db : Nat} {s : ByteArray} {n : Nat} {bad : Bool} {tv lv av rv v' : Value} {tab : List RT} {lines : List ByteArray} {ats roots : List Nat} {x : ByteArray} {ob : Obj} (he : W.heap = (wq.alloc ob).heap) (hos : W.os = wq.os) (htp : W.tape = wq.tape) (hou : W.output = wq.output)
    (hLq : LD wq B lv av rv lines ats roots) (hSq : DS wq (XL db lv av rv) db s n bad tv lv av rv tab) (hdb : B ≤ db)
    (hO2 : w'.ownsRow 0 9 1 v' (lines.length + 1) (texts lines ++ [.string x])) (hg : W.grownBy w' lv.ownBlock) (hv : ∃ g cap, v' = .slice (some ⟨g, 0, none⟩) (lines.length + 1) cap ∧ (lv.ownBlock = some g ∨ W.heap.size ≤ g)) (hB : B ≤ wq.heap.size) :
    LD (w'.setCell ⟨db, 3, none⟩ v') B v' av rv (lines ++ [x]) ats roots ∧ DS (w'.setCell ⟨db, 3, none⟩ v') (XL db v' av rv) db s n bad tv v' av rv tab ∧ Fr (fun k => B ≤ k) wq (w'.setCell ⟨db, 3, none⟩ v') := by
  have hF := heapF he hos htp hou
  have hL := hLq.keep hF (fun _ _ h => h)
  have hS := hSq.keep0 hF
  have hf : Fr (fun k => lv.ownBlock = some k) W w' := Fr.grown hg (fun k e _ => e)
  have hvd : ∀ g, lv.ownBlock = some g → g ≠ db := owned_neD hS.1 hL.sl (by decide)
  have hvt := hS.tvne hL.sl (by decide)
  have hlt := hL.lt
  have hfS : Fr (One db) w' (w'.setCell ⟨db, 3, none⟩ v') := Fr.setCell _ _ _ _ rfl
  obtain ⟨g, cap, rfl, hgg⟩ := hv
  have hgd : g ≠ db := by
    rcases hgg with h | h
    · exact hvd g h
    · have := lt_of_heap hS.1; omega
  have hgB : B ≤ g := by
    rcases hgg with h | h
    · exact hL.base g (.inl h)
    · have := hF.size; omega
  have hka := ownsRow_keep (ownsRow_keep hL.sa hf (fun g' hg' e => by obtain ⟨c1, q1⟩ := own_type hL.sa hg'; obtain ⟨c2, q2⟩ := own_type hL.sl e; rw [q1] at q2; simp at q2)) hfS (fun g' hg' e => owned_neD hS.1 hL.sa (by decide) g' hg' e)
  have hkr := ownsRow_keep (ownsRow_keep hL.sr hf (fun g' hg' e => by obtain ⟨c1, q1⟩ := own_type hL.sr hg'; obtain ⟨c2, q2⟩ := own_type hL.sl e; rw [q1] at q2; simp at q2)) hfS (fun g' hg' e => owned_neD hS.1 hL.sr (by decide) g' hg' e)
  have hkv := ownsRow_keep hO2 hfS (fun g' hg' e => by simp [Value.ownBlock] at hg'; subst hg'; exact hgd e)
  refine ⟨⟨(by rw [texts_snoc, List.length_append]; exact hkv), hka, hkr, ?_, ?_⟩, ?_, ?_⟩
  · exact hL.ne
  · intro g' hg'
    rcases hg' with h | h | h
    · simp [Value.ownBlock] at h; subst h; exact hgB
    · exact hL.base g' (.inr (.inl h))
    · exact hL.base g' (.inr (.inr h))
  · refine DS.field (DS.grow hS hg (fun k e => ⟨(.inr (.inl e)), hvd k e, hvt k e⟩) (fun b hb => ?_)) (.inl rfl) hfS ?_
    · rcases hb with h | h | h | h
      · exact .inl (.inl h)
      · simp [Value.ownBlock] at h
        subst h
        rcases hgg with h | h
        · exact .inl (.inr (.inl h))
        · exact .inr h
      · exact .inl (.inr (.inr (.inl h)))
      · exact .inl (.inr (.inr (.inr h)))
    · exact DB.set3 (hf.keep hS.1 (fun e => hvd db e rfl)) _
  · exact (hF.of0 (X := fun k => B ≤ k)).trans ((hf.mono (fun k _ e => hL.base k (.inl e))).trans (hfS.mono (fun k _ e => by have e' : k = db := e; omega)))

theorem ld_r {W wq w' : World} {B db : Nat} {s : ByteArray} {n : Nat} {bad : Bool} {tv lv av rv v' : Value} {tab : List RT} {lines : List ByteArray} {ats roots : List Nat} {x : Nat} {ob : Obj} (he : W.heap = (wq.alloc ob).heap) (hos : W.os = wq.os) (htp : W.tape = wq.tape) (hou : W.output = wq.output)
    (hLq : LD wq B lv av rv lines ats roots) (hSq : DS wq (XL db lv av rv) db s n bad tv lv av rv tab) (hdb : B ≤ db)
    (hO2 : w'.ownsRow 0 3 1 v' (roots.length + 1) (ints roots ++ [.int .i64 x])) (hg : W.grownBy w' rv.ownBlock) (hv : ∃ g cap, v' = .slice (some ⟨g, 0, none⟩) (roots.length + 1) cap ∧ (rv.ownBlock = some g ∨ W.heap.size ≤ g)) (hB : B ≤ wq.heap.size) :
    LD (w'.setCell ⟨db, 5, none⟩ v') B lv av v' lines ats (roots ++ [x]) ∧ DS (w'.setCell ⟨db, 5, none⟩ v') (XL db lv av v') db s n bad tv lv av v' tab ∧ Fr (fun k => B ≤ k) wq (w'.setCell ⟨db, 5, none⟩ v') := by
  have hF := heapF he hos htp hou
  have hL := hLq.keep hF (fun _ _ h => h)
  have hS := hSq.keep0 hF
  have hf : Fr (fun k => rv.ownBlock = some k) W w' := Fr.grown hg (fun k e _ => e)
  have hvd : ∀ g, rv.ownBlock = some g → g ≠ db := owned_neD hS.1 hL.sr (by decide)
  have hvt := hS.tvne hL.sr (by decide)
  have hlt := hL.lt
  have hfS : Fr (One db) w' (w'.setCell ⟨db, 5, none⟩ v') := Fr.setCell _ _ _ _ rfl
  obtain ⟨g, cap, rfl, hgg⟩ := hv
  have hgd : g ≠ db := by
    rcases hgg with h | h
    · exact hvd g h
    · have := lt_of_heap hS.1; omega
  have hgB : B ≤ g := by
    rcases hgg with h | h
    · exact hL.base g (.inr (.inr h))
    · have := hF.size; omega
  have hkl := ownsRow_keep (ownsRow_keep hL.sl hf (fun g' hg' e => by obtain ⟨c1, q1⟩ := own_type hL.sl hg'; obtain ⟨c2, q2⟩ := own_type hL.sr e; rw [q1] at q2; simp at q2)) hfS (fun g' hg' e => owned_neD hS.1 hL.sl (by decide) g' hg' e)
  have hka := ownsRow_keep (ownsRow_keep hL.sa hf (fun g' hg' e => hL.ne g' hg' e)) hfS (fun g' hg' e => owned_neD hS.1 hL.sa (by decide) g' hg' e)
  have hkv := ownsRow_keep hO2 hfS (fun g' hg' e => by simp [Value.ownBlock] at hg'; subst hg'; exact hgd e)
  refine ⟨⟨hkl, hka, (by rw [ints_snoc, List.length_append]; exact hkv), ?_, ?_⟩, ?_, ?_⟩
  · intro g' hg' e
    simp [Value.ownBlock] at e
    subst e
    rcases hgg with h | h
    · exact hL.ne _ hg' h
    · have := hlt g (.inr (.inl hg')); omega
  · intro g' hg'
    rcases hg' with h | h | h
    · exact hL.base g' (.inl h)
    · exact hL.base g' (.inr (.inl h))
    · simp [Value.ownBlock] at h; subst h; exact hgB
  · refine DS.field (DS.grow hS hg (fun k e => ⟨(.inr (.inr (.inr e))), hvd k e, hvt k e⟩) (fun b hb => ?_)) (.inl rfl) hfS ?_
    · rcases hb with h | h | h | h
      · exact .inl (.inl h)
      · exact .inl (.inr (.inl h))
      · exact .inl (.inr (.inr (.inl h)))
      · simp [Value.ownBlock] at h
        subst h
        rcases hgg with h | h
        · exact .inl (.inr (.inr (.inr h)))
        · exact .inr h
    · exact DB.set5 (hf.keep hS.1 (fun e => hvd db e rfl)) _
  · exact (hF.of0 (X := fun k => B ≤ k)).trans ((hf.mono (fun k _ e => hL.base k (.inr (.inr e)))).trans (hfS.mono (fun k _ e => by have e' : k = db := e; omega)))

end Go.Proofs.YtapblkmlhoalgaaDoor
