/- A type's row and names in memory, the root, a description that Read gives. -/
import Derived.Test.YtnhkalnihjkoeaaGreatDoorGtDCount
namespace Go.Proofs.YtnhkalnihjkoeaaGreatDoor
open Go.RowKit

theorem rowOf {w : World} {B k : Nat} {o nv a : Value} {row : RT} (hR : RTR w (From B) ⟨k, o, nv, a⟩ row) (hi : 0 < row.of.length) :
    ∃ g cap, o = .slice (some ⟨g, 0, none⟩) row.of.length cap ∧ g < B ∧ ∀ i, i < row.of.length → w.cell? ⟨g, i, none⟩ = some (.int .i64 (numAt row.of i : Nat)) := by
  have hS := hR.2.1
  simp only at hS
  rcases hS.1.2 with ⟨_, h0⟩ | ⟨g, cap, cur, hv, _⟩
  · simp [ints] at h0; rw [h0] at hi; simp at hi
  · have hl : (ints row.of).length = row.of.length := by simp [ints]
    rw [hl] at hv
    subst hv
    have hng := hS.2 g rfl
    unfold From at hng
    refine ⟨g, cap, rfl, by omega, fun i h => ?_⟩
    have hq := hS.1
    rw [hl] at hq
    exact (sl_cell hq h).trans (numsI _ i h)

/-- A type's row as the reader has laid it for itself. -/
structure T9 (w : World) (B rb : Nat) (row : RT) (kd go co : Nat) (nv av : Value) : Prop where
  blk : w.heap[rb]? = some (.cells #[.int .i64 kd, .slice (some ⟨go, 0, none⟩) row.of.length co, nv, av] 293 (0, 0))
  of : ∀ i, i < row.of.length → w.cell? ⟨go, i, none⟩ = some (.int .i64 (numAt row.of i : Nat))
  lt : go < B
theorem T9.quiet {w w' : World} {B rb kd go co : Nat} {row : RT} {nv av : Value} (h : T9 w B rb row kd go co nv av) (hf : Fr Zero w w') : T9 w' B rb row kd go co nv av :=
  ⟨hf.keep h.blk (fun h => h), fun i hi => by rw [hf.cell (World.block_lt_of_cell? w _ (h.of i hi)) (fun h => h)]; exact h.of i hi, h.lt⟩
theorem T9.at1 {w : World} {B rb kd go co : Nat} {row : RT} {nv av : Value} (h : T9 w B rb row kd go co nv av) : w.cell? ⟨rb, 1, none⟩ = some (.slice (some ⟨go, 0, none⟩) row.of.length co) := by rw [cell_of_heap h.blk]; rfl
theorem T9.at1n {w : World} {B rb kd go co n : Nat} {row : RT} {nv av : Value} (h : T9 w B rb row kd go co nv av) (hn : row.of.length = n) : w.cell? ⟨rb, 1, none⟩ = some (.slice (some ⟨go, 0, none⟩) n co) := by rw [← hn]; exact h.at1
theorem T9.at2 {w : World} {B rb kd go co : Nat} {row : RT} {nv av : Value} (h : T9 w B rb row kd go co nv av) : w.cell? ⟨rb, 2, none⟩ = some nv := by rw [cell_of_heap h.blk]; rfl
theorem T9.new {w : World} {B kd : Nat} {row : RT} {o nv av : Value} (hR : RTR w (From B) ⟨kd, o, nv, av⟩ row) (hi : 0 < row.of.length) :
    ∃ go co, o = .slice (some ⟨go, 0, none⟩) row.of.length co ∧ T9 (w.alloc (.cells #[.int .i64 kd, o, nv, av] 293)) B w.heap.size row kd go co nv av := by
  obtain ⟨g, cap, rfl, h1, h2⟩ := rowOf hR hi
  refine ⟨g, cap, rfl, heap_new_at rfl _, fun i h => ?_, h1⟩
  rw [(Fr.alloc Zero w _).cell (World.block_lt_of_cell? w _ (h2 i h)) (fun h => h)]
  exact h2 i h

/-- A type's names in memory. -/
structure N9 (w : World) (B gn : Nat) (t : PT) : Prop where
  nm : ∀ i, i < t.names.length → w.cell? ⟨gn, i, none⟩ = some (.string (ba (t.name i)))
  lt : gn < B
theorem N9.quiet {w w' : World} {B gn : Nat} {t : PT} (h : N9 w B gn t) (hf : Fr Zero w w') : N9 w' B gn t :=
  ⟨fun i hi => by rw [hf.cell (World.block_lt_of_cell? w _ (h.nm i hi)) (fun h => h)]; exact h.nm i hi, h.lt⟩
theorem N9.new {w : World} {B k : Nat} {o nv a : Value} {row : RT} {t : PT} (hR : RTR w (From B) ⟨k, o, nv, a⟩ row) (hn : row.names = t.names) (hi : 0 < t.names.length) :
    ∃ gn cn, nv = .slice (some ⟨gn, 0, none⟩) t.names.length cn ∧ N9 w B gn t := by
  have hS := hR.2.2.1
  simp only at hS
  rw [hn] at hS
  rcases hS.1.2 with ⟨_, h0⟩ | ⟨g, cap, cur, hv, _⟩
  · simp [texts] at h0; rw [h0] at hi; simp at hi
  · have hl : (texts t.names).length = t.names.length := by simp [texts]
    rw [hl] at hv
    subst hv
    have hng := hS.2 g rfl
    unfold From at hng
    refine ⟨g, cap, rfl, fun i h => ?_, by omega⟩
    have hq := hS.1
    rw [hl] at hq
    rw [(sl_cell hq h).trans (textsI _ i h)]
    congr 2

set_option maxHeartbeats 4000000 in
theorem root_any {w : World} {B db : Nat} {tab : List RT} {roots : List Nat} (hD : DF w B db tab roots) (hp : 0 < roots.length) (hl : roots.length ≤ 1000) :
    Calls Tryz.prog 107 #[.pointer (some ⟨db, 0, none⟩)] w fun e w' => e = .returned (.int .i64 (numAt roots (roots.length - 1) : Nat)) ∧ ∃ n, w' = w.drewN n := by
  obtain ⟨g, cap, c5, hc⟩ := hD.root hp
  have c0 := hc (roots.length - 1) (by omega)
  obtain ⟨m, hm⟩ : ∃ m, roots.length = m + 1 := ⟨roots.length - 1, by omega⟩
  rw [hm] at c5 c0 ⊢
  simp only [Nat.add_sub_cancel] at c0 ⊢
  have hI : (m : Int) < ((m + 1 : Nat) : Int) := by omega
  have hsub : ((m + 1 : Nat) : Int) - 1 = (m : Int) := by omega
  have hml : m + 1 ≤ 1000 := by omega
  clear hc hD hm hp hl
  go_enter Tryz.func107, Tryz.ntmps107
  go_wp2_with fail
  go_quiet (fail)
  go_wp2_with fail
  go_ret
  exact ⟨rfl, _, rfl⟩

theorem data_tail (data : ByteArray) : tl data (pos data data.data.toList) = data.data.toList ∧ pos data data.data.toList = 0 := by
  have h : pos data data.data.toList = 0 := by unfold pos; rw [Array.length_toList]; exact Nat.sub_self _
  rw [h]
  exact ⟨rfl, rfl⟩

/-- A description that Read gives, in memory. -/
theorem given_df {w w' : World} {s : ByteArray} {a : Option Addr} (h : RGive w s a) (hf : Fr Zero w w') : ∃ db, a = some ⟨db, 0, none⟩ ∧ DF w' w'.heap.size db (rNamesAll (rAll s)).2 (rAll s).roots ∧ (rNamesAll (rAll s)).2.length ≤ 1000 ∧ (rAll s).roots.length ≤ 1000 := by
  obtain ⟨db, X, n, tv, lv, av, rv, lines, ats, B0, h1, h2, h3, h4, h5⟩ := h
  exact ⟨db, h1, ⟨w, X, s, n, tv, lv, av, rv, lines, ats, B0, hf.size, hf.of0, h2, h3⟩, h4, h5⟩

theorem agree_all (s : ByteArray) : (s.size ≤ 400 → Fine (rAll s)) ∧ checkP s = checkR s := agree.all s
theorem checkP_short {s : ByteArray} (h : checkP s = (0, 0)) : s.size ≤ 400 := by
  unfold checkP at h
  rcases Nat.lt_or_ge 400 s.size with h' | h'
  · rw [if_pos h'] at h; simp at h
  · exact h'

end Go.Proofs.YtnhkalnihjkoeaaGreatDoor
