/- New; the calls of package sluice on a ring. -/
import Derived.Deep.OwnRows
import Derived.Laws.OwnMore
import Derived.Test.YtnhkalnihjkoeaaGreatDoorRgQRoom
namespace Go.Proofs.YtnhkalnihjkoeaaGreatDoor.Q
open Go.RowKit

def newR (g : Nat) : PR := ⟨g, List.replicate (8 * g) 0, [], 1, 0, false⟩

/-- A ring as package sluice has it. -/
structure SM (w : World) (sb rb yb : Nat) (R : PR) : Prop where
  s : w.heap[sb]? = some (.cells #[.pointer (some ⟨rb, 0, none⟩)] 287 (0, 0))
  r : ∃ fv, RM w rb yb R fv

theorem SM.at0 {w : World} {sb rb yb : Nat} {R : PR} (h : SM w sb rb yb R) : w.cell? ⟨sb, 0, none⟩ = some (.pointer (some ⟨rb, 0, none⟩)) := by rw [cell_of_heap h.s]; rfl

theorem SM.lt {w : World} {sb rb yb : Nat} {R : PR} (h : SM w sb rb yb R) : rb < w.heap.size := by obtain ⟨fv, h1⟩ := h.r; exact h1.lt

theorem SM.quiet {w w' : World} {sb rb yb : Nat} {R : PR} (h : SM w sb rb yb R) (hf : Fr Zero w w') : SM w' sb rb yb R := by
  obtain ⟨fv, h1⟩ := h.r
  exact ⟨hf.keep h.s (fun h => h), fv, h1.quiet hf⟩

theorem RM.notX {w : World} {rb yb : Nat} {R : PR} {fv : Value} (h : RM w rb yb R fv) {k : Nat} {cs : Array Value} {t : TypeId} {f : Nat × Nat} (hk : w.heap[k]? = some (.cells cs t f)) (h1 : t ≠ 354) (h2 : t ≠ 5) (h3 : t ≠ 358) : ¬ RX w rb yb k := fun e => by
  rcases RX.of h e with e | e | e
  · rw [e, h.r] at hk; simp at hk; exact h1 hk.2.1.symm
  · rw [e, h.y] at hk; simp at hk; exact h2 hk.2.1.symm
  · rcases h.f with ⟨q, _⟩ | ⟨fb, off, cap, cur, q1, q2, _⟩
    · rw [q] at e; simp [blockOf] at e
    · rw [q1] at e
      simp [blockOf] at e
      rw [← e, q2] at hk
      simp at hk
      exact h3 hk.2.1.symm

theorem SM.next {w w' : World} {sb rb yb : Nat} {R R' : PR} {fv' : Value} (h : SM w sb rb yb R) (hf : RFr rb yb w w') (h' : RM w' rb yb R' fv') : SM w' sb rb yb R' := by
  obtain ⟨fv, h1⟩ := h.r
  exact ⟨hf.fr.keep h.s (h1.notX h.s (by decide) (by decide) (by decide)), fv', h'⟩

set_option maxHeartbeats 4000000 in
set_option maxRecDepth 100000 in
theorem new_any (g : Nat) (h2 : 2 ≤ g) (h64 : g ≤ 64) (w : World) :
    Calls Tryz.prog 227 #[.int .i64 g] w fun e w' => e = .returned (.tuple #[.pointer (some ⟨w.heap.size + 1, 0, none⟩), .int .i64 0]) ∧ Fr Zero w w' ∧ RM w' (w.heap.size + 1) w.heap.size (newR g) (.slice none 0 0) := by
  have hI1 : ¬ (g : Int) < 2 := by omega
  have hI2 : ¬ (64 : Int) < (g : Int) := by omega
  have hrun := run_make_row' (P := Tryz.prog) 32 5 (.int .u8 0) 1 Tryz.underlying32 (by kernel_rfl) rfl .i64 .i64 (8 * g) (by omega) (by omega) w
  rw [show (((8 * g : Nat)) : Int) = (g : Int) * 8 by omega] at hrun
  have HM : Hid (madeCells #[Value.int .u8 0] (8 * g) = (Lib.byteCells (List.replicate (8 * g) 0)).toArray) := by
    show _ = _
    apply Array.ext'
    rw [toList_madeCells_one]
    simp [Lib.byteCells]
  rw [HM.out] at hrun
  go_enter Tryz.func227, Tryz.ntmps227
  go_wp2_with fail
  go_ret2
  refine ⟨rfl, (Fr.alloc _ _ _).trans (Fr.alloc _ _ _), ⟨heap_new_at (by simp) _, ?_, .inl ⟨rfl, rfl⟩, h2, h64, by simp [newR]⟩⟩
  rw [Below.heap_alloc _ _ _ (by simp)]
  exact heap_new_at rfl _

set_option maxHeartbeats 4000000 in
theorem new_bad (g : Int) (h : g < 2 ∨ 64 < g) (w : World) :
    Calls Tryz.prog 227 #[.int .i64 g] w fun e w' => e = .returned (.tuple #[.pointer none, .int .i64 8]) ∧ w' = w := by
  by_cases h1 : g < 2
  · go_enter Tryz.func227, Tryz.ntmps227
    go_wp2_with fail
    go_ret2
    exact ⟨rfl, rfl⟩
  · have h1d : decide (g < 2) = false := decide_eq_false h1
    have h2 : 64 < g := by omega
    go_enter Tryz.func227, Tryz.ntmps227
    go_wp2_with fail
    go_ret2
    exact ⟨rfl, rfl⟩

set_option maxHeartbeats 4000000 in
theorem sput_any {w : World} {sb rb yb : Nat} {R : PR} (h : SM w sb rb yb R) (hT : Tidy R) (data : ByteArray) (hd : data.size ≤ 1000000000000000) :
    Calls Tryz.prog 79 #[.pointer (some ⟨sb, 0, none⟩), .string data] w fun e w' => e = .returned (.int .i64 (putP R data.data.toList).1) ∧ RFr rb yb w w' ∧ SM w' sb rb yb (putP R data.data.toList).2 := by
  have H := hide h
  have h0 := h.at0
  obtain ⟨fv, hr⟩ := h.r
  have HR := hide hr
  clear h hr
  go_enter Tryz.func79, Tryz.ntmps79
  go_wp2_with fail
  refine (put_any HR.out hT data hd).mono ?_
  rintro e w1 ⟨rfl, hF1, fv', hM1⟩
  have HF1 := hide hF1
  have HM1 := hide (H.out.next hF1 hM1)
  clear hF1 hM1
  go_wp2_with fail
  go_ret
  exact ⟨rfl, HF1, HM1⟩

set_option maxHeartbeats 4000000 in
theorem stake_any {w : World} {sb rb yb : Nat} {R : PR} (h : SM w sb rb yb R) (hl : R.fs.length ≤ 1000000) (hfl : R.first ≤ 3000000000000) :
    Calls Tryz.prog 81 #[.pointer (some ⟨sb, 0, none⟩)] w fun e w' => e = .returned (.tuple #[.int .i64 (takeP R).1, .int .i64 (takeP R).2.1]) ∧ RFr rb yb w w' ∧ SM w' sb rb yb (takeP R).2.2 := by
  have H := hide h
  have h0 := h.at0
  obtain ⟨fv, hr⟩ := h.r
  have HR := hide hr
  clear h hr
  go_enter Tryz.func81, Tryz.ntmps81
  go_wp2_with fail
  refine (take_any HR.out hl hfl).mono ?_
  rintro e w1 ⟨rfl, hF1, fv', hM1⟩
  have HF1 := hide hF1
  have HM1 := hide (H.out.next hF1 hM1)
  clear hF1 hM1
  go_wp2_with fail
  go_ret2
  exact ⟨rfl, HF1, HM1⟩

set_option maxHeartbeats 4000000 in
theorem srelease_any {w : World} {sb rb yb : Nat} {R : PR} (h : SM w sb rb yb R) (hl : R.fs.length ≤ 1000000) (h1st : 1 ≤ R.first) (hfl : R.first ≤ 3000000000000) (n : Int) (hn1 : -9223372036854775808 ≤ n) (hn2 : n ≤ 9223372036854775807) :
    Calls Tryz.prog 85 #[.pointer (some ⟨sb, 0, none⟩), .int .i64 n] w fun e w' => e = .returned (.int .i64 (relP R n).1) ∧ RFr rb yb w w' ∧ SM w' sb rb yb (relP R n).2 := by
  have H := hide h
  have h0 := h.at0
  obtain ⟨fv, hr⟩ := h.r
  have HR := hide hr
  clear h hr
  go_enter Tryz.func85, Tryz.ntmps85
  go_wp2_with fail
  refine (release_any HR.out hl h1st hfl n hn1 hn2).mono ?_
  rintro e w1 ⟨rfl, hF1, fv', hM1⟩
  have HF1 := hide hF1
  have HM1 := hide (H.out.next hF1 hM1)
  clear hF1 hM1
  go_wp2_with fail
  go_ret
  exact ⟨rfl, HF1, HM1⟩

set_option maxHeartbeats 4000000 in
theorem sshut_any {w : World} {sb rb yb : Nat} {R : PR} (h : SM w sb rb yb R)  :
    Calls Tryz.prog 87 #[.pointer (some ⟨sb, 0, none⟩)] w fun e w' => e = .returned (.int .i64 (shutP R).1) ∧ RFr rb yb w w' ∧ SM w' sb rb yb (shutP R).2 := by
  have H := hide h
  have h0 := h.at0
  obtain ⟨fv, hr⟩ := h.r
  have HR := hide hr
  clear h hr
  go_enter Tryz.func87, Tryz.ntmps87
  go_wp2_with fail
  refine (shut_any HR.out).mono ?_
  rintro e w1 ⟨rfl, hF1, fv', hM1⟩
  have HF1 := hide hF1
  have HM1 := hide (H.out.next hF1 hM1)
  clear hF1 hM1
  go_wp2_with fail
  go_ret
  exact ⟨rfl, HF1, HM1⟩

set_option maxHeartbeats 4000000 in
theorem sview_any {w : World} {sb rb yb : Nat} {R : PR} (h : SM w sb rb yb R) (hK : Kept R) (hl : R.fs.length ≤ 1000000) (h1st : 1 ≤ R.first) (hfl : R.first ≤ 3000000000000) (n from_ to_ : Int) (hn1 : -9223372036854775808 ≤ n) (hn2 : n ≤ 9223372036854775807) (hf1 : -9223372036854775808 ≤ from_) (hf2 : from_ ≤ 9223372036854775807) (ht1 : -9223372036854775808 ≤ to_) (ht2 : to_ ≤ 9223372036854775807) :
    Calls Tryz.prog 83 #[.pointer (some ⟨sb, 0, none⟩), .int .i64 n, .int .i64 from_, .int .i64 to_] w fun e w' => e = .returned (.tuple #[.string (ba (viewP R n from_ to_).1), .int .i64 (viewP R n from_ to_).2]) ∧ Fr Zero w w' := by
  have H := hide h
  have h0 := h.at0
  obtain ⟨fv, hr⟩ := h.r
  have HR := hide hr
  clear h hr
  go_enter Tryz.func83, Tryz.ntmps83
  go_wp2_with fail
  refine (view_any HR.out hK hl h1st hfl n from_ to_ hn1 hn2 hf1 hf2 ht1 ht2).mono ?_
  rintro e w1 ⟨rfl, hF1⟩
  have HF1 := hide hF1
  clear hF1
  go_wp2_with fail
  go_ret2
  exact ⟨rfl, HF1⟩

set_option maxHeartbeats 4000000 in
set_option maxRecDepth 100000 in
theorem snew_bad (g : Int) (h : g < 2 ∨ 64 < g) (w : World) :
    Calls Tryz.prog 153 #[.int .i64 g] w fun e w' => e = .returned (.tuple #[.pointer none, .int .i64 8]) ∧ w' = w := by
  go_enter Tryz.func153, Tryz.ntmps153
  go_wp2_with fail
  refine (new_bad g h _).mono ?_
  rintro e w1 ⟨rfl, e1⟩
  obtain rfl := e1.symm
  go_wp2_with fail
  go_ret2
  exact ⟨rfl, rfl⟩

set_option maxHeartbeats 4000000 in
set_option maxRecDepth 100000 in
theorem sroom_any {w : World} {sb rb yb : Nat} {R : PR} (h : SM w sb rb yb R) (ht : taken R.fs ≤ 1000000) (hl : R.fs.length ≤ 1000000) :
    Calls Tryz.prog 89 #[.pointer (some ⟨sb, 0, none⟩)] w fun e w' => e = .returned (roomV R) ∧ Fr Zero w w' := by
  have h0 := h.at0
  have hlt : sb < w.heap.size := lt_of_heap h.s
  obtain ⟨fv, hr⟩ := h.r
  have HR := hide hr
  clear h hr
  go_enter Tryz.func89, Tryz.ntmps89
  go_wp2_with fail
  refine (room_any (HR.out.quiet (Fr.alloc _ _ _)) ht hl).mono ?_
  rintro e w1 ⟨rfl, hF1⟩
  have HF1 := hide hF1
  have HB : Hid (w1.heap[w.heap.size]? = some (.cells #[.int .i64 0, .int .i64 0, .int .i64 0, .bool false] 187 (0, 0))) := hF1.keep (heap_new_at rfl _) (fun h => h)
  clear hF1
  have c0 : w1.cell? ⟨w.heap.size, 0, none⟩ = some (.int .i64 0) := by rw [cell_of_heap HB.out]; rfl
  have c1 : w1.cell? ⟨w.heap.size, 1, none⟩ = some (.int .i64 0) := by rw [cell_of_heap HB.out]; rfl
  have c2 : w1.cell? ⟨w.heap.size, 2, none⟩ = some (.int .i64 0) := by rw [cell_of_heap HB.out]; rfl
  have c3 : w1.cell? ⟨w.heap.size, 3, none⟩ = some (.bool false) := by rw [cell_of_heap HB.out]; rfl
  have f0 : ∀ o, w1.frozen? ⟨w.heap.size, o, none⟩ = false := fun o => free_of_heap HB.out
  have f00 := f0 0
  have f01 := f0 1
  have f02 := f0 2
  have f03 := f0 3
  unfold roomV
  go_wp2_with fail
  refine bodyPost_ret (v := roomV R) ?_ rfl ⟨rfl, ?_⟩
  · rw [results_cell1 rfl]
    have e := heap_four HB.out (.int .i64 (taken R.fs)) (.int .i64 (countOf 0 R.fs)) (.int .i64 (countOf 1 R.fs)) (.bool R.shut)
    have d0 := cell_of_heap (o := 0) e
    have d1 := cell_of_heap (o := 1) e
    have d2 := cell_of_heap (o := 2) e
    have d3 := cell_of_heap (o := 3) e
    go_simp
    try rfl
  · exact ((Fr.alloc Zero w _).trans HF1.out).past (Fr.four (fun b => w.heap.size ≤ b) w1 w.heap.size _ _ _ _ (Nat.le_refl _))

end Go.Proofs.YtnhkalnihjkoeaaGreatDoor.Q
