/- An append that tells whether its array is the old one or a new one. -/
import Derived.Test.YtapblkmlhoalgaaGreatDoorWordType
import Derived.ArgAppend
namespace Go.Proofs.YtapblkmlhoalgaaGreatDoor
open Go.RowKit

theorem strEq (a b : ByteArray) : (a.toList == b.toList) = decide (a = b) := by
  rw [Bool.eq_iff_iff]
  simp only [beq_iff_eq, decide_eq_true_eq]
  rw [ByteArray.toList_eq, ByteArray.toList_eq]
  constructor
  · intro h; exact Go.WideShapes.bytes_inj h
  · intro h; rw [h]

theorem run_append_mine {P : Program} (w : World) (base : Nat) (t ty e : TypeId) (i : TypeInfo) (z : Value) (size bytes : Nat) (ht : P.underlying t = some (.slice e)) (hi : P.info? e = some i) (hz : i.zero = some z)
    (hsize : i.size = size) (hby : i.bytes = bytes) (hzs : z.cells.size = size) (hsz : 0 < size)
    (v : Value) (n : Nat) (xs : List Value) (hown : w.ownsRow base e size v n xs)
    (a : Addr) (m c : Nat) (hm : 0 < m) (news : List Value) (hl : news.length = m * size) (hnews : ∀ j u, news[j]? = some u → w.cell? (a.add j) = some u) (h1 : ∀ u ∈ news, u.oneCell' = true)
    (h63 : n + m ≤ maxLen) (hbytes : (n + m) * bytes ≤ 140737488355328) (hbase : base ≤ w.heap.size) :
    ∃ v' w', (Builtin.append_ #[t, t] ty #[v, .slice (some a) m c]).run P w = .ok v' w' ∧ w'.ownsRow base e size v' (n + m) (xs ++ news) ∧ w.grownBy w' v.ownBlock ∧
      (∃ g cap, v' = .slice (some ⟨g, 0, none⟩) (n + m) cap ∧ (v.ownBlock = some g ∨ w.heap.size ≤ g)) := by
  have hown' := hown
  rcases hown.2 with ⟨rfl, rfl⟩ | ⟨g, cap, cur, rfl, hbg, hg, hnc, hcm, hcs, htake⟩
  · have hx : xs = [] := List.eq_nil_of_length_eq_zero (by simpa using hown.1)
    subst hx
    obtain ⟨v', w', hr, ho, hgr, hn⟩ := run_append_own (P := P) w w.heap.size t ty e i z size bytes ht hi hz hsize hby hzs hsz _ 0 [] (World.ownsRow_nil w _ e size) a m c news hl hnews h1 h63 hbytes (Nat.le_refl _)
    refine ⟨v', w', hr, ⟨ho.1, ?_⟩, hgr, ?_⟩
    · rcases ho.2 with h | ⟨g, cap, cur, q1, q2, q3⟩
      · exact .inl h
      · exact .inr ⟨g, cap, cur, q1, Nat.le_trans hbase q2, q3⟩
    · rcases ho.2 with ⟨_, h⟩ | ⟨g, cap, cur, q1, q2, q3⟩
      · omega
      · exact ⟨g, cap, q1, .inr q2⟩
  · by_cases hroom : n + m ≤ cap
    · obtain ⟨w', hr, ho, hgr⟩ := run_append_fits (P := P) w base t ty e i size ht hi hsize g n cap xs hown a m c news hl hnews h1 hroom
      exact ⟨_, w', hr, ho, hgr, g, cap, rfl, .inl rfl⟩
    · have holds : ∀ j u, xs[j]? = some u → w.cell? ((⟨g, 0, none⟩ : Addr).add j) = some u := hown.cells (g := g) rfl
      obtain ⟨v', w', hr, ho, hgr⟩ := run_append_arg_grows (P := P) w t ty e i z size bytes ht hi hz hsize hby hzs hsz ⟨g, 0, none⟩ n cap xs hown.1 holds a m c news hl hnews (by omega) h63 hbytes
      refine ⟨v', w', hr, ⟨ho.1, ?_⟩, ⟨hgr.os, hgr.tape, hgr.output, hgr.size, fun k hk _ => hgr.block k hk (by simp)⟩, ?_⟩
      · rcases ho.2 with h | ⟨g, cap, cur, q1, q2, q3⟩
        · exact .inl h
        · exact .inr ⟨g, cap, cur, q1, Nat.le_trans hbase q2, q3⟩
      · rcases ho.2 with ⟨_, h⟩ | ⟨g, cap, cur, q1, q2, q3⟩
        · omega
        · exact ⟨g, cap, q1, .inr q2⟩

theorem wpList_append_mine {P : Program} (w : World) {ops : Array Oper} {rest : List Oper} {o : Oper} {a : Act} {Q : Exit → Act → World → Prop}
    (hg : o.guard = none) (s x : Operand) (t : TypeId) (hop : o.op = Op.call { callee := Callee.builtin Builtin.append, args := #[s, x], argTypes := #[t, t] })
    (base : Nat) (e : TypeId) (i : TypeInfo) (z : Value) (size bytes : Nat) (ht : P.underlying t = some (.slice e)) (hi : P.info? e = some i) (hz : i.zero = some z)
    (hsize : i.size = size) (hby : i.bytes = bytes) (hzs : z.cells.size = size) (hsz : 0 < size)
    (v : Value) (n : Nat) (xs : List Value) (hs : a.eval s = v) (hown : w.ownsRow base e size v n xs)
    (ad : Addr) (m c : Nat) (hm : 0 < m) (news : List Value) (hx : a.eval x = .slice (some ad) m c) (hl : news.length = m * size) (hnews : ∀ j u, news[j]? = some u → w.cell? (ad.add j) = some u) (h1 : ∀ u ∈ news, u.oneCell' = true)
    (h63 : n + m ≤ maxLen) (hbytes : (n + m) * bytes ≤ 140737488355328) (hbase : base ≤ w.heap.size)
    (hK : ∀ v' w', w'.ownsRow base e size v' (n + m) (xs ++ news) → w.grownBy w' v.ownBlock → (∃ g cap, v' = .slice (some ⟨g, 0, none⟩) (n + m) cap ∧ (v.ownBlock = some g ∨ w.heap.size ≤ g)) → wpList P ops Q rest (a.put o.dst v') w') :
    wpList P ops Q (o :: rest) a w := by
  refine wpList_plain hg fun K hK' => ?_
  obtain ⟨v', w', hrun, r1, r2, r3⟩ := run_append_mine (P := P) w base t o.type e i z size bytes ht hi hz hsize hby hzs hsz v n xs hown ad m c hm news hl hnews h1 h63 hbytes hbase
  unfold Oper.wp
  simp [execOp, hop, resolve, invoke, builtin, hs, hx, hrun, Result.andThen]
  exact hK' _ _ (hK v' w' r1 r2 r3)

theorem wordType_none (nm : ByteArray) (w : World) (hw : Words w) (hno : ∀ i, i < 7 → wd i ≠ nm) :
    Calls Tryz.prog 253 #[.string nm] w fun e w' => e = .returned (.tuple #[.pointer none, .bool false]) ∧ w' = w := by
  have f : ∀ i, i < 7 → ((wd i).toList == nm.toList) = false := fun i hi => by rw [strEq]; exact decide_eq_false (hno i hi)
  exact wordType_no' (wd 0) (wd 1) (wd 2) (wd 3) (wd 4) (wd 5) (wd 6) nm w (hw 0 (by omega)) (hw 1 (by omega)) (hw 2 (by omega)) (hw 3 (by omega)) (hw 4 (by omega)) (hw 5 (by omega)) (hw 6 (by omega))
    (f 0 (by omega)) (f 1 (by omega)) (f 2 (by omega)) (f 3 (by omega)) (f 4 (by omega)) (f 5 (by omega)) (f 6 (by omega))

theorem wordType_some (k : Nat) (hk : k < 7) (w : World) (hw : Words w) :
    Calls Tryz.prog 253 #[.string (wd k)] w fun e w' => e = .returned (.tuple #[.pointer (some ⟨w.heap.size, 0, none⟩), .bool true]) ∧ w' = w.alloc (.cells #[.int .i64 k, .slice none 0 0, .int .i64 1] 196) := by
  have f : ∀ i, i < 7 → i ≠ k → ((wd i).toList == (wd k).toList) = false := fun i hi hne => by
    rw [strEq]
    exact decide_eq_false (wd_ne i hi k hk hne)
  have y : ((wd k).toList == (wd k).toList) = true := by simp
  match k, hk with
  | 0, _ => exact wordType_yes0 (wd 0) (wd 1) (wd 2) (wd 3) (wd 4) (wd 5) (wd 6) _ w (hw 0 (by omega)) (hw 1 (by omega)) (hw 2 (by omega)) (hw 3 (by omega)) (hw 4 (by omega)) (hw 5 (by omega)) (hw 6 (by omega)) y
  | 1, _ => exact wordType_yes1 (wd 0) (wd 1) (wd 2) (wd 3) (wd 4) (wd 5) (wd 6) _ w (hw 0 (by omega)) (hw 1 (by omega)) (hw 2 (by omega)) (hw 3 (by omega)) (hw 4 (by omega)) (hw 5 (by omega)) (hw 6 (by omega)) (f 0 (by omega) (by omega)) y
  | 2, _ => exact wordType_yes2 (wd 0) (wd 1) (wd 2) (wd 3) (wd 4) (wd 5) (wd 6) _ w (hw 0 (by omega)) (hw 1 (by omega)) (hw 2 (by omega)) (hw 3 (by omega)) (hw 4 (by omega)) (hw 5 (by omega)) (hw 6 (by omega)) (f 0 (by omega) (by omega)) (f 1 (by omega) (by omega)) y
  | 3, _ => exact wordType_yes3 (wd 0) (wd 1) (wd 2) (wd 3) (wd 4) (wd 5) (wd 6) _ w (hw 0 (by omega)) (hw 1 (by omega)) (hw 2 (by omega)) (hw 3 (by omega)) (hw 4 (by omega)) (hw 5 (by omega)) (hw 6 (by omega)) (f 0 (by omega) (by omega)) (f 1 (by omega) (by omega)) (f 2 (by omega) (by omega)) y
  | 4, _ => exact wordType_yes4 (wd 0) (wd 1) (wd 2) (wd 3) (wd 4) (wd 5) (wd 6) _ w (hw 0 (by omega)) (hw 1 (by omega)) (hw 2 (by omega)) (hw 3 (by omega)) (hw 4 (by omega)) (hw 5 (by omega)) (hw 6 (by omega)) (f 0 (by omega) (by omega)) (f 1 (by omega) (by omega)) (f 2 (by omega) (by omega)) (f 3 (by omega) (by omega)) y
  | 5, _ => exact wordType_yes5 (wd 0) (wd 1) (wd 2) (wd 3) (wd 4) (wd 5) (wd 6) _ w (hw 0 (by omega)) (hw 1 (by omega)) (hw 2 (by omega)) (hw 3 (by omega)) (hw 4 (by omega)) (hw 5 (by omega)) (hw 6 (by omega)) (f 0 (by omega) (by omega)) (f 1 (by omega) (by omega)) (f 2 (by omega) (by omega)) (f 3 (by omega) (by omega)) (f 4 (by omega) (by omega)) y
  | 6, _ => exact wordType_yes6 (wd 0) (wd 1) (wd 2) (wd 3) (wd 4) (wd 5) (wd 6) _ w (hw 0 (by omega)) (hw 1 (by omega)) (hw 2 (by omega)) (hw 3 (by omega)) (hw 4 (by omega)) (hw 5 (by omega)) (hw 6 (by omega)) (f 0 (by omega) (by omega)) (f 1 (by omega) (by omega)) (f 2 (by omega) (by omega)) (f 3 (by omega) (by omega)) (f 4 (by omega) (by omega)) (f 5 (by omega) (by omega)) y

end Go.Proofs.YtapblkmlhoalgaaGreatDoor
