/- The script's world: rings of the program, beside each the document's. -/
import Derived.Test.YtnhkalnihjkoeaaGreatDoorRgSStep
namespace Go.Proofs.YtnhkalnihjkoeaaGreatDoor.Q
open Go.RowKit

def rptr (p : RP) : Value := .pointer (some ⟨p.sb, 0, none⟩)
def qptr (p : RP) : Value := .pointer (some ⟨p.qb, 0, none⟩)
structure WM (w : World) (B wb : Nat) (L : List RP) (M : Nat) (rv qv : Value) : Prop where
  blk : w.heap[wb]? = some (.cells #[rv, qv, .slice none 0 0, .slice none 0 0] 95 (0, 0))
  rs : PRow w 105 1 rv L.length (L.map rptr)
  qs : PRow w 103 1 qv L.length (L.map qptr)
  rB : ∀ g, blockOf rv = some g → B ≤ g
  qB : ∀ g, blockOf qv = some g → B ≤ g
  each : ∀ (i : Nat) (p : RP), L[i]? = some p → PM w p
  apart : ∀ (i j : Nat) (p q : RP), L[i]? = some p → L[j]? = some q → i ≠ j → ∀ k, PX w p k → ¬ PX w q k
  own : ∀ (i : Nat) (p : RP), L[i]? = some p → ∀ k, PX w p k → B ≤ k
  wB : B ≤ wb
  lens : ∀ (i : Nat) (p : RP), L[i]? = some p → p.Q.fs.length ≤ M

section
variable {w w' : World} {B wb M : Nat} {L : List RP} {rv qv : Value}
theorem WM.at0 (h : WM w B wb L M rv qv) : w.cell? ⟨wb, 0, none⟩ = some rv := by rw [cell_of_heap h.blk]; rfl
theorem WM.at1 (h : WM w B wb L M rv qv) : w.cell? ⟨wb, 1, none⟩ = some qv := by rw [cell_of_heap h.blk]; rfl
theorem WM.at2 (h : WM w B wb L M rv qv) : w.cell? ⟨wb, 2, none⟩ = some (.slice none 0 0) := by rw [cell_of_heap h.blk]; rfl
theorem WM.lt (h : WM w B wb L M rv qv) : wb < w.heap.size := lt_of_heap h.blk
theorem WM.size (h : WM w B wb L M rv qv) : B ≤ w.heap.size := Nat.le_of_lt (Nat.lt_of_le_of_lt h.wB h.lt)
theorem PM.other {p q : RP} (hq : PM w q) (hp : PM w p) (hf : Fr (PX w p) w w') (ha : ∀ k, PX w q k → ¬ PX w p k) : PM w' q ∧ ∀ k, PX w' q k ↔ PX w q k := by
  obtain ⟨fv, hr⟩ := hq.rq
  have a := hq.sm.keep hf (fun k cs t f e1 e2 => by
    rcases e2 with e2 | e2
    · exact hp.notX e1 (by rw [e2]; decide) (by rw [e2]; decide) (by rw [e2]; decide) (by rw [e2]; decide) (by rw [e2]; decide)
    · exact ha k (.inl e2))
  have b := hr.keep hf (fun k hk => ha k (.inr hk))
  refine ⟨⟨a.1, ⟨fv, b.1⟩, hq.same, hq.fit⟩, fun k => ?_⟩
  unfold PX
  rw [a.2 k, b.2 k]
theorem WM.quiet (h : WM w B wb L M rv qv) (hf : Fr Zero w w') : WM w' B wb L M rv qv := by
  have hx : ∀ (i : Nat) (p : RP), L[i]? = some p → PM w' p ∧ ∀ k, PX w' p k ↔ PX w p k := fun i p hp => by
    obtain ⟨fv, hr⟩ := (h.each i p hp).rq
    have a := (h.each i p hp).sm.keep hf (fun _ _ _ _ _ _ h => h)
    have b := hr.keep hf (fun _ _ h => h)
    refine ⟨⟨a.1, ⟨fv, b.1⟩, (h.each i p hp).same, (h.each i p hp).fit⟩, fun k => ?_⟩
    unfold PX
    rw [a.2 k, b.2 k]
  exact ⟨hf.keep h.blk (fun h => h), h.rs.keep hf (fun _ _ h => h), h.qs.keep hf (fun _ _ h => h), h.rB, h.qB, fun i p hp => (hx i p hp).1, fun i j p q hp hq hij k hk hk2 => h.apart i j p q hp hq hij k (((hx i p hp).2 k).1 hk) (((hx j q hq).2 k).1 hk2), fun i p hp k hk => h.own i p hp k (((hx i p hp).2 k).1 hk), h.wB, h.lens⟩
/-- A step on one of the rings. -/
theorem WM.step {i : Nat} {p p' : RP} (h : WM w B wb L M rv qv) (hi : L[i]? = some p) (hp : PM w' p') (hf : PFr p p' w w') {M' : Nat} (hM1 : M ≤ M') (hM2 : p'.Q.fs.length ≤ M') : WM w' B wb (L.set i p') M' rv qv ∧ Fr (From B) w w' := by
  have hP := h.each i p hi
  have hil : i < L.length := (List.getElem?_eq_some_iff.1 hi).1
  have hmap : ∀ (f : RP → Value), f p' = f p → (L.set i p').map f = L.map f := fun f hf' => by
    rw [List.map_set, hf']
    apply List.ext_getElem?
    intro j
    rw [List.getElem?_set]
    by_cases e : i = j
    · subst e
      rw [if_pos rfl, List.length_map, if_pos hil, List.getElem?_map, hi]
      rfl
    · rw [if_neg e]
  have hm1 := hmap rptr (by unfold rptr; rw [hf.sb])
  have hm2 := hmap qptr (by unfold qptr; rw [hf.qb])
  have hkeep : ∀ {ty : TypeId} {n : Nat} {v : Value} {xs : List Value}, PRow w ty 1 v n xs → ty ≠ 354 → ty ≠ 5 → ty ≠ 358 → ty ≠ 102 → ty ≠ 172 → PRow w' ty 1 v n xs := fun hr h1 h2 h3 h4 h5 => hr.keep hf.fr (fun g hg => by
    obtain ⟨c, e⟩ := hr.typed hg
    exact hP.notX e h1 h2 h3 h4 h5)
  have hoth : ∀ (j : Nat) (q : RP), L[j]? = some q → i ≠ j → PM w' q ∧ ∀ k, PX w' q k ↔ PX w q k := fun j q hq hij => (h.each j q hq).other hP hf.fr (fun k hk => h.apart j i q p hq hi (fun e => hij e.symm) k hk)
  have hset : ∀ (j : Nat) (q : RP), (L.set i p')[j]? = some q → (i = j ∧ q = p') ∨ (i ≠ j ∧ L[j]? = some q) := fun j q hq => by
    rw [List.getElem?_set] at hq
    by_cases e : i = j
    · rw [if_pos e, if_pos hil] at hq
      exact .inl ⟨e, (Option.some.inj hq).symm⟩
    · rw [if_neg e] at hq
      exact .inr ⟨e, hq⟩
  have hown : ∀ k, PX w' p' k → B ≤ k := fun k hk => by
    rcases Nat.lt_or_ge k w.heap.size with q | q
    · exact h.own i p hi k (hf.own k q hk)
    · exact Nat.le_trans h.size q
  refine ⟨⟨hf.fr.keep h.blk (hP.notX h.blk (by decide) (by decide) (by decide) (by decide) (by decide)), ?_, ?_, h.rB, h.qB, fun j q hq => ?_, fun j k p1 q1 hj hk hjk b hb1 hb2 => ?_, fun j q hq k hk => ?_, h.wB, fun j q hq => ?_⟩, hf.fr.mono (fun k _ e => h.own i p hi k e)⟩
  · rw [List.length_set, hm1]; exact hkeep h.rs (by decide) (by decide) (by decide) (by decide) (by decide)
  · rw [List.length_set, hm2]; exact hkeep h.qs (by decide) (by decide) (by decide) (by decide) (by decide)
  · rcases hset j q hq with ⟨_, rfl⟩ | ⟨hij, hq'⟩
    · exact hp
    · exact (hoth j q hq' hij).1
  · rcases hset j p1 hj with ⟨e1, rfl⟩ | ⟨hij, hp1⟩
    · rcases hset k q1 hk with ⟨e2, rfl⟩ | ⟨hik, hq1⟩
      · exact hjk (e1.symm.trans e2)
      · have hb2' := ((hoth k q1 hq1 hik).2 b).1 hb2
        obtain ⟨fq, hrq⟩ := (h.each k q1 hq1).rq
        rcases Nat.lt_or_ge b w.heap.size with q | q
        · exact h.apart i k p q1 hi hq1 hik b (hf.own b q hb1) hb2'
        · have : b < w.heap.size := by
            rcases hb2' with e | e
            · obtain ⟨fv, hr⟩ := (h.each k q1 hq1).sm.r
              rcases RX.of hr e with e | e | e
              · rw [e]; exact hr.lt
              · rw [e]; exact lt_of_heap hr.y
              · rcases hr.f with ⟨q2, _⟩ | ⟨fb, off, cap, cur, q2, q3, _⟩
                · rw [q2] at e; simp [blockOf] at e
                · rw [q2] at e; simp [blockOf] at e; rw [← e]; exact lt_of_heap q3
            · obtain ⟨cs, t, e1, _⟩ := qx_type hrq e
              exact lt_of_heap e1
          omega
    · rcases hset k q1 hk with ⟨e2, rfl⟩ | ⟨hik, hq1⟩
      · have hb1' := ((hoth j p1 hp1 hij).2 b).1 hb1
        obtain ⟨fq, hrq⟩ := (h.each j p1 hp1).rq
        rcases Nat.lt_or_ge b w.heap.size with q | q
        · exact h.apart i j p p1 hi hp1 hij b (hf.own b q hb2) hb1'
        · have : b < w.heap.size := by
            rcases hb1' with e | e
            · obtain ⟨fv, hr⟩ := (h.each j p1 hp1).sm.r
              rcases RX.of hr e with e | e | e
              · rw [e]; exact hr.lt
              · rw [e]; exact lt_of_heap hr.y
              · rcases hr.f with ⟨q2, _⟩ | ⟨fb, off, cap, cur, q2, q3, _⟩
                · rw [q2] at e; simp [blockOf] at e
                · rw [q2] at e; simp [blockOf] at e; rw [← e]; exact lt_of_heap q3
            · obtain ⟨cs, t, e1, _⟩ := qx_type hrq e
              exact lt_of_heap e1
          omega
      · exact h.apart j k p1 q1 hp1 hq1 hjk b (((hoth j p1 hp1 hij).2 b).1 hb1) (((hoth k q1 hq1 hik).2 b).1 hb2)
  · rcases hset j q hq with ⟨_, rfl⟩ | ⟨hij, hq'⟩
    · exact hown k hk
    · exact h.own j q hq' k (((hoth j q hq' hij).2 k).1 hk)
  · rcases hset j q hq with ⟨_, rfl⟩ | ⟨hij, hq'⟩
    · exact hM2
    · exact Nat.le_trans (h.lens j q hq') hM1
end

end Go.Proofs.YtnhkalnihjkoeaaGreatDoor.Q
