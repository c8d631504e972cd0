/- The other reader's parts. -/
import Derived.Test.YtapblkmlhoalgaaDoorRTree
namespace Go.Proofs.YtapblkmlhoalgaaDoor
open Go.RowKit

theorem texts_snoc (l : List ByteArray) (x : ByteArray) : texts (l ++ [x]) = texts l ++ [.string x] := by simp [texts]
theorem ints_snoc (l : List Nat) (x : Nat) : ints (l ++ [x]) = ints l ++ [.int .i64 x] := by simp [ints]
theorem ints_length (l : List Nat) : (ints l).length = l.length := by simp [ints]
theorem texts_length (l : List ByteArray) : (texts l).length = l.length := by simp [texts]

theorem TB.cell {w : World} {B tb : Nat} {t : RT} {o nv a : Value} (h : TB w B tb t o nv a) : w.cell? ⟨tb, 0, none⟩ = some (.int .i64 t.kind) ∧ w.cell? ⟨tb, 1, none⟩ = some o ∧ w.cell? ⟨tb, 2, none⟩ = some nv ∧ w.cell? ⟨tb, 3, none⟩ = some a := by
  refine ⟨?_, ?_, ?_, ?_⟩ <;> (rw [cell_of_heap h.box]; rfl)
theorem TB.free {w : World} {B tb : Nat} {t : RT} {o nv a : Value} (h : TB w B tb t o nv a) (i : Nat) : w.frozen? ⟨tb, i, none⟩ = false := free_of_heap h.box

theorem tb_grow_a {W w' : World} {X : Nat → Prop} {B tb db : Nat} {s : ByteArray} {n : Nat} {bad : Bool} {tv lv av rv o nv a v' : Value} {tab : List RT} {t : RT} (x : Nat) (hT : TB W B tb t o nv a) (hS : DS W (XT X tb o nv a) db s n bad tv lv av rv tab) (hXB : ∀ b, X b → b < B) (hX : X db) (htv : ∀ g, tv.ownBlock = some g → g ≠ tb)
    (hO2 : w'.ownsRow 0 3 1 v' (t.ats.length + 1) (ints t.ats ++ [.int .i64 x])) (hg : W.grownBy w' a.ownBlock) (hv : ∃ g cap, v' = .slice (some ⟨g, 0, none⟩) (t.ats.length + 1) cap ∧ (a.ownBlock = some g ∨ W.heap.size ≤ g)) (hB : B ≤ W.heap.size) :
    TB (w'.setCell ⟨tb, 3, none⟩ v') B tb ⟨t.kind, t.of, t.names, t.ats ++ [x]⟩ o nv v' ∧ DS (w'.setCell ⟨tb, 3, none⟩ v') (XT X tb o nv v') db s n bad tv lv av rv tab ∧ Fr (fun k => B ≤ k) W (w'.setCell ⟨tb, 3, none⟩ v') := by
  have hf : Fr (fun k => a.ownBlock = some k) W w' := Fr.grown hg (fun k e _ => e)
  have hdb : db ≠ tb := by have := hXB db hX; have := hT.base.1; omega
  have htbn : ∀ g, a.ownBlock = some g → g ≠ tb := fun g hg' => hT.tbne g (.inr (.inr hg'))
  have hbox : w'.heap[tb]? = some (.cells #[.int .i64 t.kind, o, nv, a] 56 (0, 0)) := hf.keep hT.box (fun e => htbn tb e rfl)
  have hfS : Fr (One tb) w' (w'.setCell ⟨tb, 3, none⟩ v') := Fr.setCell _ _ _ _ rfl
  have hvB : ∀ g, a.ownBlock = some g → B ≤ g := fun g hg' => hT.base.2 g (.inr (.inr hg'))
  have hvt := hS.tvne hT.sa (by decide)
  have hlt := hT.lt
  obtain ⟨g, cap, rfl, hgg⟩ := hv
  have hgtb : g ≠ tb := by
    rcases hgg with h | h
    · exact htbn g h
    · have := hlt tb (.inl rfl); omega
  have hgB : B ≤ g := by
    rcases hgg with h | h
    · exact hvB g h
    · omega
  have hko := ownsRow_keep (ownsRow_keep hT.so hf (fun g' hg' e => hT.ne g' hg' e)) hfS (fun g' hg' e => hT.tbne g' (.inl hg') e)
  have hkn := ownsRow_keep (ownsRow_keep hT.sn hf (fun g' hg' e => by obtain ⟨c1, q1⟩ := own_type hT.sn hg'; obtain ⟨c2, q2⟩ := own_type hT.sa e; rw [q1] at q2; simp at q2)) hfS (fun g' hg' e => hT.tbne g' (.inr (.inl hg')) e)
  have hkv := ownsRow_keep hO2 hfS (fun g' hg' e => by simp [Value.ownBlock] at hg'; subst hg'; exact hgtb e)
  refine ⟨⟨?_, hko, hkn, by rw [ints_snoc, List.length_append]; exact hkv, ?_, hT.base.1, ?_⟩, ?_, ?_⟩
  · rw [heap_setCell_same hbox]; rfl
  · exact fun g' hg' e => by
      simp [Value.ownBlock] at e
      subst e
      rcases hgg with h | h
      · exact hT.ne _ hg' h
      · have := hlt g (.inr (.inl hg')); omega
  · intro g' hg'
    rcases hg' with h | h | h
    · exact hT.base.2 g' (.inl h)
    · exact hT.base.2 g' (.inr (.inl h))
    · simp [Value.ownBlock] at h; subst h; exact hgB
  · refine DS.other (Y := One tb) (DS.grow hS hg (fun k e => ⟨(.inr (.inr (.inr (.inr e)))), ?_, hvt k e⟩) (fun b hb => ?_)) hfS (fun k e => by have e' : k = tb := e; rw [e']; exact .inr (.inl rfl)) (fun e => hdb e) (fun g' hg' e => htv g' hg' e)
    · have := hXB db hX; have := hvB k e; omega
    · rcases hb with h | h | h | h | h
      · exact .inl (.inl h)
      · exact .inl (.inr (.inl h))
      · exact .inl (.inr (.inr (.inl h)))
      · exact .inl (.inr (.inr (.inr (.inl h))))
      · simp [Value.ownBlock] at h
        subst h
        rcases hgg with h | h
        · exact .inl (.inr (.inr (.inr (.inr h))))
        · exact .inr h
  · exact (hf.mono (fun k _ e => hvB k e)).trans (hfS.mono (fun k _ e => by have e' : k = tb := e; have := hT.base.1; omega))

theorem tb_grow_n {W w' : World} {X : Nat → Prop} {B tb db : Nat} {s : ByteArray} {n : Nat} {bad : Bool} {tv lv av rv o nv a v' : Value} {tab : List RT} {t : RT} (x : ByteArray) (hT : TB W B tb t o nv a) (hS : DS W (XT X tb o nv a) db s n bad tv lv av rv tab) (hXB : ∀ b, X b → b < B) (hX : X db) (htv : ∀ g, tv.ownBlock = some g → g ≠ tb)
    (hO2 : w'.ownsRow 0 9 1 v' (t.names.length + 1) (texts t.names ++ [.string x])) (hg : W.grownBy w' nv.ownBlock) (hv : ∃ g cap, v' = .slice (some ⟨g, 0, none⟩) (t.names.length + 1) cap ∧ (nv.ownBlock = some g ∨ W.heap.size ≤ g)) (hB : B ≤ W.heap.size) :
    TB (w'.setCell ⟨tb, 2, none⟩ v') B tb ⟨t.kind, t.of, t.names ++ [x], t.ats⟩ o v' a ∧ DS (w'.setCell ⟨tb, 2, none⟩ v') (XT X tb o v' a) db s n bad tv lv av rv tab ∧ Fr (fun k => B ≤ k) W (w'.setCell ⟨tb, 2, none⟩ v') := by
  have hf : Fr (fun k => nv.ownBlock = some k) W w' := Fr.grown hg (fun k e _ => e)
  have hdb : db ≠ tb := by have := hXB db hX; have := hT.base.1; omega
  have htbn : ∀ g, nv.ownBlock = some g → g ≠ tb := fun g hg' => hT.tbne g (.inr (.inl hg'))
  have hbox : w'.heap[tb]? = some (.cells #[.int .i64 t.kind, o, nv, a] 56 (0, 0)) := hf.keep hT.box (fun e => htbn tb e rfl)
  have hfS : Fr (One tb) w' (w'.setCell ⟨tb, 2, none⟩ v') := Fr.setCell _ _ _ _ rfl
  have hvB : ∀ g, nv.ownBlock = some g → B ≤ g := fun g hg' => hT.base.2 g (.inr (.inl hg'))
  have hvt := hS.tvne hT.sn (by decide)
  have hlt := hT.lt
  obtain ⟨g, cap, rfl, hgg⟩ := hv
  have hgtb : g ≠ tb := by
    rcases hgg with h | h
    · exact htbn g h
    · have := hlt tb (.inl rfl); omega
  have hgB : B ≤ g := by
    rcases hgg with h | h
    · exact hvB g h
    · omega
  have hko := ownsRow_keep (ownsRow_keep hT.so hf (fun g' hg' e => by obtain ⟨c1, q1⟩ := own_type hT.so hg'; obtain ⟨c2, q2⟩ := own_type hT.sn e; rw [q1] at q2; simp at q2)) hfS (fun g' hg' e => hT.tbne g' (.inl hg') e)
  have hka := ownsRow_keep (ownsRow_keep hT.sa hf (fun g' hg' e => by obtain ⟨c1, q1⟩ := own_type hT.sa hg'; obtain ⟨c2, q2⟩ := own_type hT.sn e; rw [q1] at q2; simp at q2)) hfS (fun g' hg' e => hT.tbne g' (.inr (.inr hg')) e)
  have hkv := ownsRow_keep hO2 hfS (fun g' hg' e => by simp [Value.ownBlock] at hg'; subst hg'; exact hgtb e)
  refine ⟨⟨?_, hko, by rw [texts_snoc, List.length_append]; exact hkv, hka, ?_, hT.base.1, ?_⟩, ?_, ?_⟩
  · rw [heap_setCell_same hbox]; rfl
  · exact hT.ne
  · intro g' hg'
    rcases hg' with h | h | h
    · exact hT.base.2 g' (.inl h)
    · simp [Value.ownBlock] at h; subst h; exact hgB
    · exact hT.base.2 g' (.inr (.inr h))
  · refine DS.other (Y := One tb) (DS.grow hS hg (fun k e => ⟨(.inr (.inr (.inr (.inl e)))), ?_, hvt k e⟩) (fun b hb => ?_)) hfS (fun k e => by have e' : k = tb := e; rw [e']; exact .inr (.inl rfl)) (fun e => hdb e) (fun g' hg' e => htv g' hg' e)
    · have := hXB db hX; have := hvB k e; omega
    · rcases hb with h | h | h | h | h
      · exact .inl (.inl h)
      · exact .inl (.inr (.inl h))
      · exact .inl (.inr (.inr (.inl h)))
      · simp [Value.ownBlock] at h
        subst h
        rcases hgg with h | h
        · exact .inl (.inr (.inr (.inr (.inl h))))
        · exact .inr h
      · exact .inl (.inr (.inr (.inr (.inr h))))
  · exact (hf.mono (fun k _ e => hvB k e)).trans (hfS.mono (fun k _ e => by have e' : k = tb := e; have := hT.base.1; omega))

theorem tb_grow_o {W w' : World} {X : Nat → Prop} {B tb db : Nat} {s : ByteArray} {n : Nat} {bad : Bool} {tv lv av rv o nv a v' : Value} {tab : List RT} {t : RT} (x : Nat) (hT : TB W B tb t o nv a) (hS : DS W (XT X tb o nv a) db s n bad tv lv av rv tab) (hXB : ∀ b, X b → b < B) (hX : X db) (htv : ∀ g, tv.ownBlock = some g → g ≠ tb)
    (hO2 : w'.ownsRow 0 3 1 v' (t.of.length + 1) (ints t.of ++ [.int .i64 x])) (hg : W.grownBy w' o.ownBlock) (hv : ∃ g cap, v' = .slice (some ⟨g, 0, none⟩) (t.of.length + 1) cap ∧ (o.ownBlock = some g ∨ W.heap.size ≤ g)) (hB : B ≤ W.heap.size) :
    TB (w'.setCell ⟨tb, 1, none⟩ v') B tb ⟨t.kind, t.of ++ [x], t.names, t.ats⟩ v' nv a ∧ DS (w'.setCell ⟨tb, 1, none⟩ v') (XT X tb v' nv a) db s n bad tv lv av rv tab ∧ Fr (fun k => B ≤ k) W (w'.setCell ⟨tb, 1, none⟩ v') := by
  have hf : Fr (fun k => o.ownBlock = some k) W w' := Fr.grown hg (fun k e _ => e)
  have hdb : db ≠ tb := by have := hXB db hX; have := hT.base.1; omega
  have htbn : ∀ g, o.ownBlock = some g → g ≠ tb := fun g hg' => hT.tbne g (.inl hg')
  have hbox : w'.heap[tb]? = some (.cells #[.int .i64 t.kind, o, nv, a] 56 (0, 0)) := hf.keep hT.box (fun e => htbn tb e rfl)
  have hfS : Fr (One tb) w' (w'.setCell ⟨tb, 1, none⟩ v') := Fr.setCell _ _ _ _ rfl
  have hvB : ∀ g, o.ownBlock = some g → B ≤ g := fun g hg' => hT.base.2 g (.inl hg')
  have hvt := hS.tvne hT.so (by decide)
  have hlt := hT.lt
  obtain ⟨g, cap, rfl, hgg⟩ := hv
  have hgtb : g ≠ tb := by
    rcases hgg with h | h
    · exact htbn g h
    · have := hlt tb (.inl rfl); omega
  have hgB : B ≤ g := by
    rcases hgg with h | h
    · exact hvB g h
    · omega
  have hkn := ownsRow_keep (ownsRow_keep hT.sn hf (fun g' hg' e => by obtain ⟨c1, q1⟩ := own_type hT.sn hg'; obtain ⟨c2, q2⟩ := own_type hT.so e; rw [q1] at q2; simp at q2)) hfS (fun g' hg' e => hT.tbne g' (.inr (.inl hg')) e)
  have hka := ownsRow_keep (ownsRow_keep hT.sa hf (fun g' hg' e => hT.ne g' e hg')) hfS (fun g' hg' e => hT.tbne g' (.inr (.inr hg')) e)
  have hkv := ownsRow_keep hO2 hfS (fun g' hg' e => by simp [Value.ownBlock] at hg'; subst hg'; exact hgtb e)
  refine ⟨⟨?_, by rw [ints_snoc, List.length_append]; exact hkv, hkn, hka, ?_, hT.base.1, ?_⟩, ?_, ?_⟩
  · rw [heap_setCell_same hbox]; rfl
  · exact fun g' hg' e => by
      simp [Value.ownBlock] at hg'
      subst hg'
      rcases hgg with h | h
      · exact hT.ne _ h e
      · have := hlt g (.inr (.inr (.inr e))); omega
  · intro g' hg'
    rcases hg' with h | h | h
    · simp [Value.ownBlock] at h; subst h; exact hgB
    · exact hT.base.2 g' (.inr (.inl h))
    · exact hT.base.2 g' (.inr (.inr h))
  · refine DS.other (Y := One tb) (DS.grow hS hg (fun k e => ⟨(.inr (.inr (.inl e))), ?_, hvt k e⟩) (fun b hb => ?_)) hfS (fun k e => by have e' : k = tb := e; rw [e']; exact .inr (.inl rfl)) (fun e => hdb e) (fun g' hg' e => htv g' hg' e)
    · have := hXB db hX; have := hvB k e; omega
    · rcases hb with h | h | h | h | h
      · exact .inl (.inl h)
      · exact .inl (.inr (.inl h))
      · simp [Value.ownBlock] at h
        subst h
        rcases hgg with h | h
        · exact .inl (.inr (.inr (.inl h)))
        · exact .inr h
      · exact .inl (.inr (.inr (.inr (.inl h))))
      · exact .inl (.inr (.inr (.inr (.inr h))))
  · exact (hf.mono (fun k _ e => hvB k e)).trans (hfS.mono (fun k _ e => by have e' : k = tb := e; have := hT.base.1; omega))

end Go.Proofs.YtapblkmlhoalgaaDoor
