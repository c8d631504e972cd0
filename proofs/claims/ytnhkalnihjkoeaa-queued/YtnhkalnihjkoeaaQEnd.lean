/- Any step of a queue; a queue that is emptied. -/
import Derived.Test.YtnhkalnihjkoeaaQRel2
namespace Go.Proofs.Ytnhkalnihjkoeaa
open Go.RowKit

theorem OnePost.any {w : World} {B sb rb yb qb : Nat} {R : PR} {N : Nat} {Q Q' : List Bs → List (Nat × Bs) → Nat → Prop} {e : Ending} {w' : World} (h : OnePost w B sb rb yb qb R N Q e w') (hQ : ∀ a b c, Q a b c → Q' a b c) : OnePost w B sb rb yb qb R N Q' e w' := by
  obtain ⟨h1, h2, R', N', ws, hs, h3, h4, h5, h6⟩ := h
  exact ⟨h1, h2, R', N', ws, hs, h3, h4, h5, hQ _ _ _ h6⟩

theorem one_any {w : World} {B sb rb yb qb N : Nat} {R : PR} {waits : List Bs} {held : List (Nat × Bs)} (h : ST w B sb rb yb qb R N waits held) (hN : N ≤ 100000) (k a : Int) (hk1 : -9223372036854775808 ≤ k) (hk2 : k ≤ 9223372036854775807) (ha1 : -9223372036854775808 ≤ a) (ha2 : a ≤ 9223372036854775807) :
    Calls Try.prog 6 #[.pointer (some ⟨qb, 0, none⟩), .pointer (some ⟨sb, 0, none⟩), .int .i64 R.g, .agg #[.int .i64 k, .int .i64 a]] w fun e w' => OnePost w B sb rb yb qb R N (fun _ _ _ => True) e w' := by
  have hp := pickN_lt k (n := 7) (by omega)
  by_cases h2 : pickN k 7 ≤ 2
  · exact one_put h hN k a hk1 hk2 ha1 ha2 h2
  by_cases h4 : pickN k 7 ≤ 4
  · have h34 : pickN k 7 = 3 ∨ pickN k 7 = 4 := by omega
    rcases waits with _ | ⟨d, ws⟩
    · exact (one_take0 h hN k a hk1 hk2 h34 _).mono (fun e w' hq => hq.any (fun _ _ _ _ => trivial))
    · exact (one_take h hN k a hk1 hk2 h34 _).mono (fun e w' hq => hq.any (fun _ _ _ _ => trivial))
  · have h56 : pickN k 7 = 5 ∨ pickN k 7 = 6 := by omega
    rcases held with _ | ⟨x, held⟩
    · exact (one_idle h k a hk1 hk2 h56 _).mono (fun e w' hq => hq.any (fun _ _ _ _ => trivial))
    · exact (one_rel h (by simp) hN k a hk1 hk2 ha1 ha2 h56 _).mono (fun e w' hq => hq.any (fun _ _ _ _ => trivial))

/-- A step that takes: of what waits one less, of what is held one more. -/
theorem one_drain {w : World} {B sb rb yb qb N : Nat} {R : PR} {waits : List Bs} {held : List (Nat × Bs)} (h : ST w B sb rb yb qb R N waits held) (hN : N ≤ 100000) (a : Int) (g : Value) :
    Calls Try.prog 6 #[.pointer (some ⟨qb, 0, none⟩), .pointer (some ⟨sb, 0, none⟩), g, .agg #[.int .i64 3, .int .i64 a]] w fun e w' => OnePost w B sb rb yb qb R N (fun ws hs n => n = N ∧ ws.length = waits.length - 1 ∧ ws.length + hs.length = waits.length + held.length) e w' := by
  rcases waits with _ | ⟨d, ws⟩
  · exact (one_take0 h hN 3 a (by omega) (by omega) (.inl (by decide)) g).mono (fun e w' hq => hq.any (fun a b c hh => by obtain ⟨rfl, rfl, rfl⟩ := hh; exact ⟨rfl, rfl, rfl⟩))
  · exact (one_take h hN 3 a (by omega) (by omega) (.inl (by decide)) g).mono (fun e w' hq => hq.any (fun a b c hh => by obtain ⟨rfl, h2, rfl⟩ := hh; exact ⟨rfl, by simp, by simp; omega⟩))
theorem one_release {w : World} {B sb rb yb qb N : Nat} {R : PR} {waits : List Bs} {held : List (Nat × Bs)} (h : ST w B sb rb yb qb R N waits held) (hh : 0 < held.length) (hN : N ≤ 100000) (a : Int) (ha1 : -9223372036854775808 ≤ a) (ha2 : a ≤ 9223372036854775807) (g : Value) :
    Calls Try.prog 6 #[.pointer (some ⟨qb, 0, none⟩), .pointer (some ⟨sb, 0, none⟩), g, .agg #[.int .i64 5, .int .i64 a]] w fun e w' => OnePost w B sb rb yb qb R N (fun ws hs n => n = N ∧ ws.length = waits.length ∧ hs.length + 1 = held.length) e w' :=
  (one_rel h hh hN 5 a (by omega) (by omega) ha1 ha2 (.inl (by decide)) g).mono (fun _ _ hq => hq.any (fun _ _ _ hh => by obtain ⟨rfl, rfl, h3⟩ := hh; exact ⟨rfl, rfl, h3 (by decide)⟩))

theorem ST.room {w : World} {B sb rb yb qb N : Nat} {R : PR} {waits : List Bs} {held : List (Nat × Bs)} (h : ST w B sb rb yb qb R N waits held) : roomV R = .agg #[.int .i64 (taken R.fs), .int .i64 waits.length, .int .i64 held.length, .bool false] := by
  unfold roomV
  rw [count_waits, count_held R.fs R.first, ← h.rel.waits, ← h.rel.held, h.rel.open_]
/-- A queue of which nothing waits or is held: the ring is empty. -/
theorem ST.empty {w : World} {B sb rb yb qb N : Nat} {R : PR} (h : ST w B sb rb yb qb R N [] []) : R.fs = [] := by
  rcases hq : R.fs with _ | ⟨f, l⟩
  · rfl
  · have h1 := h.fit.head f l hq
    have h2 := h.fit.sts f (by rw [hq]; simp)
    have h3 := h.rel.waits
    have h4 := h.rel.held
    rw [hq] at h3 h4
    have h5 : f.st ≠ 0 := fun e => by simp [waitsF, e] at h3
    have h6 : f.st ≠ 1 := fun e => by simp [heldF, e] at h4
    omega
theorem ST.last {w : World} {B sb rb yb qb N : Nat} {R : PR} (h : ST w B sb rb yb qb R N [] []) (d : Bs) (hd : d.length = 8 * (R.g / 2) - 2) : taken R.fs = 0 ∧ (putP R d).1 = 0 ∧ countOf 0 (putP R d).2.fs = 1 ∧ R.g / 2 ≤ taken (putP R d).2.fs ∧ taken (putP R d).2.fs ≤ R.g ∧ (putP R d).2.fs.length = 1 := by
  have he := h.empty
  have h2 := h.fit.g2
  have hn : needs d.length = R.g / 2 := by unfold needs; omega
  have ht : taken R.fs = 0 := by rw [he]; rfl
  rcases put_cases h.fit h.rel.open_ d with ⟨p1, p2, p3, p4⟩ | ⟨p1, p2⟩ | ⟨p1, p2, p3⟩
  · obtain ⟨q1, q2⟩ := h.rel.put p1
    refine ⟨ht, p1, ?_, by omega, p4, ?_⟩
    · rw [count_waits, ← q1.waits]; rfl
    · have e1 := q1.num
      have e2 := h.rel.num
      rw [he] at e2
      simp at e2
      omega
  · omega
  · omega

set_option maxHeartbeats 4000000 in
set_option maxRecDepth 100000 in
/-- A new ring, and that it owns nothing old. -/
theorem snew_at (g : Nat) (h2 : 2 ≤ g) (h64 : g ≤ 64) (w : World) :
    Calls Try.prog 5 #[.int .i64 g] w fun e w' => ∃ sb, e = .returned (.tuple #[.pointer (some ⟨sb, 0, none⟩), .int .i64 0]) ∧ Fr Zero w w' ∧ SM w' sb (w.heap.size + 1) w.heap.size (newR g) ∧ w.heap.size ≤ sb ∧ ∀ k, RX w' (w.heap.size + 1) w.heap.size k → w.heap.size ≤ k := by
  go_enter Try.func5, Try.ntmps5
  go_wp2_with fail
  refine (new_any g h2 h64 _).mono ?_
  rintro e w1 ⟨rfl, hF1, hM1⟩
  have HF1 := hide hF1
  have HM1 := hide hM1
  clear hF1 hM1
  go_wp2_with fail
  go_ret2
  exact ⟨w1.heap.size, rfl, HF1.out.trans (Fr.alloc _ _ _), ⟨heap_new_at rfl _, _, HM1.out.quiet (Fr.alloc Zero _ _)⟩, HF1.out.size, fun k hk => by
    rcases RX.of (HM1.out.quiet (Fr.alloc Zero _ _)) hk with e | e | e
    · omega
    · omega
    · simp [blockOf] at e⟩

end Go.Proofs.Ytnhkalnihjkoeaa
