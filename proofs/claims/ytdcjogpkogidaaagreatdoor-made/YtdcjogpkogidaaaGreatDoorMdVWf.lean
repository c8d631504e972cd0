/- A description that is taken has a type that is well made. -/
import Derived.Test.YtdcjogpkogidaaaGreatDoorMdVal
import Derived.Test.YtdcjogpkogidaaaGreatDoorMdCheck
import Derived.Test.YtdcjogpkogidaaaGreatDoorMdVRVal
section
namespace Go.Proofs.YtdcjogpkogidaaaGreatDoor
open Go.RowKit

set_option maxHeartbeats 8000000 in
set_option maxRecDepth 100000 in
theorem fromMessage_short (w : World) (a : Addr) (t : PT) (s : ByteArray) (ht : TR w Zero a t) (hW : WFT 12 t) (hsz : s.size ≤ 1000) :
    Calls Tryz.prog 41 #[.pointer (some a), .string s] w fun e w' => FromPost w 6 s (rMsg 12 t s.data.toList) e w' := by
  have hs : s.size ≤ maxLen := by unfold maxLen; omega
  have hszI : ¬ (1000 : Int) < (s.size : Int) := by omega
  have HT := hide (rvalue_all (ty := 189) hs 12 t hW)
  have HTR := hide ht
  clear ht hW
  go_enter Tryz.func41, Tryz.ntmps41
  go_wp2_with fail
  refine (newReader_any s _).mono ?_
  rintro e w1 ⟨rfl, hF1⟩
  have HF1 : Hid (Fr Zero w w1) := (Fr.alloc _ _ _).trans hF1
  have hz1 : w1.heap[w.heap.size]? = some (.cells #[.pointer none, .int .i64 0, .string ⟨#[]⟩, .slice none 0 0] 96 (0, 0)) := hF1.keep (heap_new_at rfl _) (fun h => h)
  have hnl := lt_of_heap hz1
  have HZ1 := hide hz1
  clear hF1 hz1
  go_wp2_with fail
  have HTR1 : Hid (TR (w1.alloc (.cells #[.int .i64 0, .string s] 189)) (fun b => b = w.heap.size ∨ b = w1.heap.size) a t) := by
    have h1 : TR w (fun b => w.heap.size ≤ b) a t := HTR.out.avoid (fun b hb hx => by omega)
    have h2 : TR w1 (fun b => w.heap.size ≤ b) a t := h1.keep HF1.out.of0
    exact (h2.keep (Fr.alloc _ _ _)).avoid (fun b _ hx => by rcases hx with hx | hx <;> omega)
  refine (HT.out _ (fun b => b = w.heap.size ∨ b = w1.heap.size) w1.heap.size a s.data.toList (RB.start _ w1 s) (.inr rfl) (fun b hb => by simp; omega) HTR1).mono ?_
  rcases hq : rMsg 12 t s.data.toList with ⟨q, r⟩
  have HQ := hide hq
  clear hq
  rintro e w2 ⟨hF2, hR2, ⟨ca, cn, cb, csv⟩, ⟨o, n, k, hsv⟩, rfl, hv⟩
  simp only at hsv
  subst hsv
  have hne : w.heap.size ≠ w1.heap.size := by omega
  have hz2 : w2.heap[w.heap.size]? = some (.cells #[.pointer none, .int .i64 0, .string ⟨#[]⟩, .slice none 0 0] 96 (0, 0)) := hF2.keep (by rw [Below.heap_alloc _ _ _ hnl]; exact HZ1) (fun e => hne e)
  have HZ2 := hide hz2
  have hn2 := lt_of_heap hz2
  have HF2 : Hid (Fr Zero w w2) := (HF1.out.trans (Fr.alloc _ _ _)).past (hF2.mono (fun k _ e => by have e' : k = w1.heap.size := e; omega))
  have HR2 := hide hR2
  have HV := hide hv
  clear hF2 hR2 hv hz2
  have HA : Hid (Fr Zero w2 (w2.alloc (.cells #[.pointer (some ca), .int .i64 cn, .string (ba cb), .slice o n k] 96))) := Fr.alloc _ _ _
  have HR3 := hide (HR2.out.keep HA (fun h => h))
  have hz3 : (w2.alloc (.cells #[.pointer (some ca), .int .i64 cn, .string (ba cb), .slice o n k] 96)).heap[w.heap.size]? = _ := HA.out.keep HZ2 (fun h => h)
  have HZ3 := hide hz3
  simp only [VC.val]
  rcases q with _ | v
  · clear hz3
    go_wp2_with fail
    have HFW := hide (HF2.out.trans HA.out)
    clear HA HV HZ2 HR2 HF2
    generalize w2.alloc (.cells #[.pointer (some ca), .int .i64 cn, .string (ba cb), .slice o n k] 96) = W at *
    obtain ⟨z0, z1, z2, z3, y0, y1, y2, y3⟩ := blk4 HZ3.out
    refine (vAt HR3).mono ?_
    rintro e w4 ⟨rfl, e4⟩
    obtain rfl := e4.symm
    go_wp2_with fail
    obtain ⟨c0, c1, c2, c3⟩ := setZ_cells HZ3.out
    simp only [setZ] at c0 c1 c2 c3
    refine bodyPost_ret (v := .tuple #[.agg #[.pointer none, .int .i64 0, .string ⟨#[]⟩, .slice none 0 0], .int .i64 6, .int .i64 (pos s r)]) (by simp [results, Tryz.results41, go_sem, c0, c1, c2, c3]) rfl ?_
    rw [HQ.out]
    refine ⟨HFW.out.past ((Fr.setZ _ w.heap.size).mono (fun k _ e => by have e' : k = w.heap.size := e; omega)), .inr ⟨(fun h => by obtain ⟨v, h⟩ := h; cases h), rfl⟩⟩
  · have HVv := hide (HV.out v rfl)
    clear hz3 HV
    go_wp2_with fail
    refine (vEnded HR3 hs).mono ?_
    rintro e w4 ⟨rfl, hR4, hF4⟩
    have hne1 : ¬ One w1.heap.size w.heap.size := fun e => hne e
    have hz4 := hF4.keep HZ3.out hne1
    obtain ⟨z0, z1, z2, z3, y0, y1, y2, y3⟩ := blk4 hz4
    have HZ4 := hide hz4
    have hv4 : w4.heap[w2.heap.size]? = some (.cells #[.pointer (some ca), .int .i64 cn, .string (ba cb), .slice o n k] 96 (0, 0)) := hF4.keep (heap_new_at rfl _) (fun e => by have e' : w2.heap.size = w1.heap.size := e; have := HR2.out.lt; omega)
    obtain ⟨v0, v1, v2, v3, x0, x1, x2, x3⟩ := blk4 hv4
    have HF4 : Hid (Fr Zero w w4) := (HF2.out.trans (Fr.alloc _ _ _)).past (hF4.mono (fun k _ e => by have e' : k = w1.heap.size := e; omega))
    have HR4 := hide hR4
    have HV4 := hide ((HVv.out.keep HA.out.of0).keep (hF4.mono (fun k _ e => .inr e)))
    clear hF4 hR4 hz4 hv4
    rcases r with _ | ⟨b, r⟩
    · go_wp2_with fail
      have hW : Fr (One (w.heap.size + 1)) w4 w4 := Fr.refl _ _
      obtain ⟨c0, c1, c2, c3⟩ := value_cells HZ4.out hW (⟨ca, cn, cb, .slice o n k⟩ : VC)
      simp only [set4] at c0 c1 c2 c3
      refine bodyPost_ret (v := .tuple #[VC.val (⟨ca, cn, cb, .slice o n k⟩ : VC), .int .i64 0, .int .i64 0]) (by simp [results, Tryz.results41, go_sem, c0, c1, c2, c3, VC.val]) rfl ?_
      rw [HQ.out]
      refine ⟨HF4.out.past ((Fr.set4 w4 w.heap.size ⟨ca, cn, cb, .slice o n k⟩).mono (fun k _ e => by have e' : k = w.heap.size := e; omega)), .inl ⟨v, ⟨ca, cn, cb, .slice o n k⟩, rfl, ⟨_, _, _, rfl⟩, rfl, ?_⟩⟩
      exact (HV4.out.keep ((Fr.set4 w4 w.heap.size ⟨ca, cn, cb, .slice o n k⟩).mono (fun k _ e => .inl e))).avoid (fun b _ hb => hb.elim)
    · go_wp2_with fail
      refine (vAt HR4).mono ?_
      rintro e w5 ⟨rfl, e5⟩
      obtain rfl := e5.symm
      go_wp2_with fail
      obtain ⟨c0, c1, c2, c3⟩ := setZ_cells HZ4.out
      simp only [setZ] at c0 c1 c2 c3
      refine bodyPost_ret (v := .tuple #[.agg #[.pointer none, .int .i64 0, .string ⟨#[]⟩, .slice none 0 0], .int .i64 6, .int .i64 (pos s (b :: r))]) (by simp [results, Tryz.results41, go_sem, c0, c1, c2, c3]) rfl ?_
      rw [HQ.out]
      refine ⟨HF4.out.past ((Fr.setZ _ w.heap.size).mono (fun k _ e => by have e' : k = w.heap.size := e; omega)), .inr ⟨fun h => by obtain ⟨v, h⟩ := h; simp at h, rfl⟩⟩

set_option maxHeartbeats 2000000 in
theorem fromMessage_long (w : World) (a : Addr) (s : ByteArray) (hs : s.size ≤ maxLen) (hl : 1000 < s.size) :
    Calls Tryz.prog 41 #[.pointer (some a), .string s] w fun e w' => Fr Zero w w' ∧ e = .returned (.tuple #[.agg #[.pointer none, .int .i64 0, .string ⟨#[]⟩, .slice none 0 0], .int .i64 1, .int .i64 0]) := by
  unfold maxLen at hs
  have hI : (1000 : Int) < (s.size : Int) := by omega
  go_enter Tryz.func41, Tryz.ntmps41
  go_wp2_with fail
  refine bodyPost_ret (v := .tuple #[.agg #[.pointer none, .int .i64 0, .string ⟨#[]⟩, .slice none 0 0], .int .i64 1, .int .i64 0]) (by simp [results, Tryz.results41, go_sem]) rfl ?_
  exact ⟨Fr.alloc _ _ _, rfl⟩

end Go.Proofs.YtdcjogpkogidaaaGreatDoor
end
section
namespace Go.Proofs.YtdcjogpkogidaaaGreatDoor
open Go.RowKit

theorem WFT.mono : ∀ (k : Nat) (t : PT), WFT k t → ∀ k', k ≤ k' → WFT k' t := by
  intro k
  induction k with
  | zero => intro t h; exact h.elim
  | succ k ih =>
    intro t h k' hk
    obtain ⟨k'', rfl⟩ : ∃ k'', k' = k'' + 1 := ⟨k' - 1, by omega⟩
    exact ⟨h.1, h.2.1, fun u hu => ih u (h.2.2.1 u hu) k'' (by omega), h.2.2.2⟩

/-- Well made, as deep as it says. -/
def WFD (t : PT) : Prop := WFT t.depth t
/-- A name: letters alone. -/
def Lets (n : ByteArray) : Prop := n.size ≤ 400 ∧ ∀ b ∈ n.data.toList, 97 ≤ b.toNat ∧ b.toNat ≤ 122

theorem lettersTo_max (s : ByteArray) : ∀ (k n : Nat), lettersTo s n k ≤ n + k := by
  intro k
  induction k with
  | zero => intro n; exact Nat.le_refl _
  | succ k ih =>
    intro n
    rw [lettersTo]
    split
    · have := ih (n + 1); omega
    · omega
theorem lettersTo_all (s : ByteArray) : ∀ (k n i : Nat), n ≤ i → i < lettersTo s n k → 97 ≤ byteAt s i ∧ byteAt s i ≤ 122 := by
  intro k
  induction k with
  | zero => intro n i h1 h2; simp [lettersTo] at h2; omega
  | succ k ih =>
    intro n i h1 h2
    rw [lettersTo] at h2
    split at h2
    · rename_i hc
      by_cases e : i = n
      · subst e; exact hc
      · exact ih (n + 1) i (by omega) h2
    · omega
theorem nameAt_lets (s : ByteArray) (n : Nat) : Lets (nameAt s n) := by
  have hmax := lettersTo_max s 6 n
  constructor
  · unfold nameAt
    rw [ByteArray.size_extract]
    omega
  · intro b hb
    obtain ⟨i, hi, he⟩ := List.getElem_of_mem hb
    have hi' : i < (nameAt s n).size := by rw [Array.length_toList] at hi; exact hi
    have hs : n + i < lettersTo s n 6 ∧ n + i < s.size := by
      unfold nameAt at hi'
      rw [ByteArray.size_extract] at hi'
      omega
    have hl := lettersTo_all s 6 n (n + i) (by omega) hs.1
    rw [byteAt_lt hs.2] at hl
    have hq : b = s[n + i] := by
      rw [← he]
      have : (nameAt s n).data.toList[i] = (nameAt s n)[i] := rfl
      rw [this]
      unfold nameAt
      exact ByteArray.getElem_extract _
    rw [hq]
    exact hl

theorem orElse_none {b : Option Nat} {n : Nat} : orElse b n ≠ none := by cases b <;> simp [orElse]
theorem nameBad_none {s : ByteArray} {others : List ByteArray} {n : Nat} {bad : Option Nat} (h : nameBad s others n bad = none) : bad = none ∧ nameAt s n ∉ others := by
  unfold nameBad at h
  split at h
  · exact absurd h orElse_none
  · rename_i hc
    refine ⟨h, fun hm => hc ?_⟩
    rw [List.any_eq_true]
    exact ⟨_, hm, by simp⟩

/-- What a reader of a type promises: if nothing was refused the type is well made. -/
def Good (rd : Nat → Option Nat → Res) : Prop := ∀ n bad, (rd n bad).ok = true → (rd n bad).bad = none → bad = none ∧ WFD (rd n bad).t

theorem pPart_good {rd : Nat → Option Nat → Res} (hrd : Good rd) (s : ByteArray) (others : List ByteArray) (sign n : Nat) (bad : Option Nat) (h1 : (pPart rd s others sign n bad).ok = true) (h2 : (pPart rd s others sign n bad).bad = none) :
    bad = none ∧ nameAt s n ∉ others ∧ WFD (pPart rd s others sign n bad).t := by
  unfold pPart at h1 h2 ⊢
  split at h1
  · cases h1
  · rename_i hn
    rw [if_neg hn] at h2
    rw [if_neg hn]
    split at h1
    · rename_i hs
      rw [if_pos hs] at h2
      rw [if_pos hs]
      obtain ⟨q1, q2⟩ := hrd _ _ h1 h2
      obtain ⟨q3, q4⟩ := nameBad_none q1
      exact ⟨q3, q4, q2⟩
    · cases h1

theorem maxDepth_ge : ∀ (l : List (ByteArray × PT)) (q : ByteArray × PT), q ∈ l → q.2.depth ≤ maxDepth l := by
  have key : ∀ (m : List Nat) (a x : Nat), (x ∈ m ∨ x ≤ a) → x ≤ m.foldl max a := by
    intro m
    induction m with
    | nil => intro a x h; rcases h with h | h; simp at h; exact h
    | cons y m ih =>
      intro a x h
      refine ih (max a y) x ?_
      rcases h with h | h
      · rcases List.mem_cons.1 h with rfl | h
        · exact .inr (by omega)
        · exact .inl h
      · exact .inr (by omega)
  intro l q hq
  exact key _ 0 _ (.inl (List.mem_map_of_mem (f := fun p : ByteArray × PT => p.2.depth) hq))

theorem compound_good (kind : Nat) (l : List (ByteArray × PT)) (hk : 7 ≤ kind ∧ kind ≤ 10) (h1 : ∀ q ∈ l, WFD q.2) (h0 : 0 < l.length) (h6 : l.length ≤ 6) (hone : kind = 7 ∨ kind = 8 → l.length = 1) (hlet : ∀ q ∈ l, Lets q.1) (hnd : 9 ≤ kind → (l.map (·.1)).Nodup) : WFD (compoundT kind l) := by
  refine ⟨hk.2, by simp [compoundT], ?_, fun _ => by simpa [compoundT] using h0, fun h => by simpa [compoundT] using hone h, ⟨by simpa [compoundT] using h6, ?_⟩, fun h9 => ⟨hnd h9, ?_⟩⟩
  · intro u hu
    simp only [compoundT, List.mem_map] at hu
    obtain ⟨q, hq, rfl⟩ := hu
    exact WFT.mono _ _ (h1 q hq) _ (maxDepth_ge l q hq)
  · intro n hn
    simp only [compoundT, List.mem_map] at hn
    obtain ⟨q, hq, rfl⟩ := hn
    exact (hlet q hq).1
  · intro n hn
    simp only [compoundT, List.mem_map] at hn
    obtain ⟨q, hq, rfl⟩ := hn
    exact (hlet q hq).2

theorem pParts_stay {rd : Nat → Option Nat → Res} (hrd : Good rd) (s : ByteArray) (kind btw close : Nat) : ∀ (k : Nat) (acc : List (ByteArray × PT)) (n : Nat) (bad : Option Nat), (pParts rd s kind btw close k acc n bad).ok = true → (pParts rd s kind btw close k acc n bad).bad = none → bad = none := by
  intro k
  induction k with
  | zero => intro acc n bad h; cases h
  | succ k ih =>
    intro acc n bad h1 h2
    simp only [pParts] at h1 h2
    split at h1
    · cases h1
    · rename_i hok
      have hok' : (pPart rd s (acc.map (·.1)) 58 n bad).ok = true := by cases h : (pPart rd s (acc.map (·.1)) 58 n bad).ok; exact absurd h hok; rfl
      rw [if_neg hok] at h2
      split at h1
      · rename_i hc
        rw [if_pos hc] at h2
        exact (pPart_good hrd s _ 58 n bad hok' h2).1
      · rename_i hc
        rw [if_neg hc] at h2
        split at h1
        · cases h1
        · rename_i hc2
          rw [if_neg hc2] at h2
          exact (pPart_good hrd s _ 58 n bad hok' (ih _ _ _ h1 h2)).1

theorem pParts_good {rd : Nat → Option Nat → Res} (hrd : Good rd) (s : ByteArray) (kind btw close : Nat) (hk : 9 ≤ kind ∧ kind ≤ 10) : ∀ (k : Nat) (acc : List (ByteArray × PT)) (n : Nat) (bad : Option Nat), k + acc.length = 6 → (pParts rd s kind btw close k acc n bad).ok = true → (pParts rd s kind btw close k acc n bad).bad = none →
    (∀ q ∈ acc, WFD q.2) → (∀ q ∈ acc, Lets q.1) → (acc.map (·.1)).Nodup → bad = none ∧ WFD (pParts rd s kind btw close k acc n bad).t := by
  intro k
  induction k with
  | zero => intro acc n bad _ h; cases h
  | succ k ih =>
    intro acc n bad hl h1 h2 hw hlt hnd
    simp only [pParts] at h1 h2 ⊢
    split at h1
    · cases h1
    · rename_i hok
      have hok' : (pPart rd s (acc.map (·.1)) 58 n bad).ok = true := by cases h : (pPart rd s (acc.map (·.1)) 58 n bad).ok; exact absurd h hok; rfl
      rw [if_neg hok] at h2 ⊢
      have step : (pPart rd s (acc.map (·.1)) 58 n bad).bad = none → bad = none ∧ (∀ q ∈ acc ++ [(nameAt s n, (pPart rd s (acc.map (·.1)) 58 n bad).t)], WFD q.2) ∧ (∀ q ∈ acc ++ [(nameAt s n, (pPart rd s (acc.map (·.1)) 58 n bad).t)], Lets q.1) ∧ ((acc ++ [(nameAt s n, (pPart rd s (acc.map (·.1)) 58 n bad).t)]).map (·.1)).Nodup := by
        intro hb
        obtain ⟨q1, q2, q3⟩ := pPart_good hrd s _ 58 n bad hok' hb
        refine ⟨q1, fun q hq => ?_, fun q hq => ?_, ?_⟩
        · rcases List.mem_append.1 hq with h | h
          · exact hw q h
          · simp at h; subst h; exact q3
        · rcases List.mem_append.1 hq with h | h
          · exact hlt q h
          · simp at h; subst h; exact nameAt_lets s n
        · rw [List.map_append]
          refine List.nodup_append.2 ⟨hnd, by simp, fun a ha b hb e => ?_⟩
          simp at hb
          subst hb e
          exact q2 ha
      split at h1
      · rename_i hc
        rw [if_pos hc] at h2 ⊢
        obtain ⟨q1, q2, q3, q4⟩ := step h2
        exact ⟨q1, compound_good kind _ (by omega) q2 (by simp) (by simp; omega) (fun h => by omega) q3 (fun _ => q4)⟩
      · rename_i hc
        rw [if_neg hc] at h2 ⊢
        split at h1
        · cases h1
        · rename_i hc2
          rw [if_neg hc2] at h2 ⊢
          have hb := pParts_stay hrd s kind btw close k _ _ _ h1 h2
          obtain ⟨q1, q2, q3, q4⟩ := step hb
          exact ⟨q1, (ih _ _ _ (by simp; omega) h1 h2 q2 q3 q4).2⟩

theorem word_good (k : Nat) (hk : k < 7) : WFD (PT.word k) :=
  ⟨by simp [PT.word]; omega, rfl, fun u hu => by simp [PT.word] at hu, fun h => by simp [PT.word] at h; omega, fun h => by simp [PT.word] at h; omega, ⟨by simp [PT.word], fun n hn => by simp [PT.word] at hn⟩, fun h => by simp [PT.word] at h; omega⟩
theorem pNamed_good (s : ByteArray) (lines : List (ByteArray × PT)) (hL : ∀ q ∈ lines, WFD q.2) : Good (pNamed s lines) := by
  intro n bad h1 h2
  unfold pNamed at h1 h2 ⊢
  split at h1
  · cases h1
  · rename_i hc
    rw [if_neg hc] at h2
    rw [if_neg hc]
    split at h2
    · rename_i k hk
      exact ⟨h2, word_good k (wordIdx_some hk).1⟩
    · split at h2
      · rename_i t ht
        obtain ⟨q, hq, e⟩ := lineOf_mem ht
        exact ⟨h2, by rw [← e]; exact hL q hq⟩
      · exact absurd h2 orElse_none
theorem one_good (kind : Nat) (hk : kind = 7 ∨ kind = 8) (t : PT) (h : WFD t) : WFD (compoundT kind [(⟨#[]⟩, t)]) :=
  compound_good kind _ (by omega) (fun q hq => by simp at hq; subst hq; exact h) (by simp) (by simp) (fun _ => by simp) (fun q hq => by simp at hq; subst hq; exact ⟨Nat.zero_le _, fun b hb => by simp at hb⟩) (fun h => by omega)
theorem pTyp_good (s : ByteArray) (lines : List (ByteArray × PT)) (hL : ∀ q ∈ lines, WFD q.2) : ∀ f, Good (pTyp s lines f) := by
  intro f
  induction f with
  | zero => intro n bad h; cases h
  | succ f ih =>
    intro n bad h1 h2
    simp only [pTyp] at h1 h2 ⊢
    split at h1
    · rename_i hc
      rw [if_pos hc] at h2 ⊢
      split at h1
      · cases h1
      · rename_i hok
        have hok' : (pTyp s lines f (n + 1) bad).ok = true := by cases h : (pTyp s lines f (n + 1) bad).ok; exact absurd h hok; rfl
        rw [if_neg hok] at h2 ⊢
        split at h1
        · rename_i hd
          rw [if_pos hd] at h2 ⊢
          obtain ⟨q1, q2⟩ := ih _ _ hok' h2
          exact ⟨q1, one_good 7 (.inl rfl) _ q2⟩
        · cases h1
    · rename_i hc
      rw [if_neg hc] at h2 ⊢
      split at h1
      · rename_i hc2
        rw [if_pos hc2] at h2 ⊢
        split at h1
        · cases h1
        · rename_i hok
          have hok' : (pTyp s lines f (n + 1) bad).ok = true := by cases h : (pTyp s lines f (n + 1) bad).ok; exact absurd h hok; rfl
          rw [if_neg hok] at h2 ⊢
          obtain ⟨q1, q2⟩ := ih _ _ hok' h2
          exact ⟨q1, one_good 8 (.inr rfl) _ q2⟩
      · rename_i hc2
        rw [if_neg hc2] at h2 ⊢
        split at h1
        · rename_i hc3
          rw [if_pos hc3] at h2 ⊢
          exact pParts_good ih s 9 44 125 (by omega) 6 [] (n + 1) bad rfl h1 h2 (by simp) (by simp) (by simp)
        · rename_i hc3
          rw [if_neg hc3] at h2 ⊢
          split at h1
          · rename_i hc4
            rw [if_pos hc4] at h2 ⊢
            exact pParts_good ih s 10 124 62 (by omega) 6 [] (n + 1) bad rfl h1 h2 (by simp) (by simp) (by simp)
          · rename_i hc4
            rw [if_neg hc4] at h2 ⊢
            exact pNamed_good s lines hL n bad h1 h2

def Stays (rd : Nat → Option Nat → Res) : Prop := ∀ n bad, (rd n bad).ok = true → (rd n bad).bad = none → bad = none
theorem pPart_stays {rd : Nat → Option Nat → Res} (hrd : Stays rd) (s : ByteArray) (others : List ByteArray) (sign : Nat) : Stays (pPart rd s others sign) := by
  intro n bad h1 h2
  unfold pPart at h1 h2
  split at h1
  · cases h1
  · rename_i hn
    rw [if_neg hn] at h2
    split at h1
    · rename_i hs
      rw [if_pos hs] at h2
      exact (nameBad_none (hrd _ _ h1 h2)).1
    · cases h1
theorem pParts_stays {rd : Nat → Option Nat → Res} (hrd : Stays rd) (s : ByteArray) (kind btw close : Nat) : ∀ (k : Nat) (acc : List (ByteArray × PT)) (n : Nat) (bad : Option Nat), (pParts rd s kind btw close k acc n bad).ok = true → (pParts rd s kind btw close k acc n bad).bad = none → bad = none := by
  intro k
  induction k with
  | zero => intro acc n bad h; cases h
  | succ k ih =>
    intro acc n bad h1 h2
    simp only [pParts] at h1 h2
    split at h1
    · cases h1
    · rename_i hok
      have hok' : (pPart rd s (acc.map (·.1)) 58 n bad).ok = true := by cases h : (pPart rd s (acc.map (·.1)) 58 n bad).ok; exact absurd h hok; rfl
      rw [if_neg hok] at h2
      split at h1
      · rename_i hc
        rw [if_pos hc] at h2
        exact pPart_stays hrd s _ 58 n bad hok' h2
      · rename_i hc
        rw [if_neg hc] at h2
        split at h1
        · cases h1
        · rename_i hc2
          rw [if_neg hc2] at h2
          exact pPart_stays hrd s _ 58 n bad hok' (ih _ _ _ h1 h2)
theorem pTyp_stays (s : ByteArray) (lines : List (ByteArray × PT)) : ∀ f, Stays (pTyp s lines f) := by
  intro f
  induction f with
  | zero => intro n bad h; cases h
  | succ f ih =>
    intro n bad h1 h2
    simp only [pTyp] at h1 h2
    split at h1
    · rename_i hc
      rw [if_pos hc] at h2
      split at h1
      · cases h1
      · rename_i hok
        have hok' : (pTyp s lines f (n + 1) bad).ok = true := by cases h : (pTyp s lines f (n + 1) bad).ok; exact absurd h hok; rfl
        rw [if_neg hok] at h2
        split at h1
        · rename_i hd
          rw [if_pos hd] at h2
          exact ih _ _ hok' h2
        · cases h1
    · rename_i hc
      rw [if_neg hc] at h2
      split at h1
      · rename_i hc2
        rw [if_pos hc2] at h2
        split at h1
        · cases h1
        · rename_i hok
          have hok' : (pTyp s lines f (n + 1) bad).ok = true := by cases h : (pTyp s lines f (n + 1) bad).ok; exact absurd h hok; rfl
          rw [if_neg hok] at h2
          exact ih _ _ hok' h2
      · rename_i hc2
        rw [if_neg hc2] at h2
        split at h1
        · rename_i hc3
          rw [if_pos hc3] at h2
          exact pParts_stays ih s 9 44 125 6 [] (n + 1) bad h1 h2
        · rename_i hc3
          rw [if_neg hc3] at h2
          split at h1
          · rename_i hc4
            rw [if_pos hc4] at h2
            exact pParts_stays ih s 10 124 62 6 [] (n + 1) bad h1 h2
          · rename_i hc4
            rw [if_neg hc4] at h2
            unfold pNamed at h1 h2
            split at h1
            · cases h1
            · rename_i hq
              rw [if_neg hq] at h2
              split at h2
              · exact h2
              · split at h2
                · exact h2
                · exact absurd h2 orElse_none

theorem lineDeep_none {r : Res} {n : Nat} {deep : Option Nat} (h : lineDeep r n deep = none) : deep = none ∧ r.t.depth ≤ 12 := by
  unfold lineDeep at h
  split at h
  · exact absurd h orElse_none
  · exact ⟨h, by omega⟩
theorem pDesc_stays (s : ByteArray) : ∀ (k : Nat) (lines : List (ByteArray × PT)) (n : Nat) (bad deep : Option Nat), (pDesc s k lines n bad deep).ok = true → (pDesc s k lines n bad deep).bad = none → (pDesc s k lines n bad deep).deep = none → bad = none ∧ deep = none := by
  intro k
  induction k with
  | zero => intro lines n bad deep h; cases h
  | succ k ih =>
    intro lines n bad deep h1 h2 h3
    have hG := pPart_stays (pTyp_stays s lines (s.size + 1)) s (lines.map (·.1)) 61
    simp only [pDesc] at h1 h2 h3
    split at h1
    · cases h1
    · rename_i hok
      have hok' : (lineR s lines n bad).ok = true := by cases h : (lineR s lines n bad).ok; exact absurd h hok; rfl
      rw [if_neg hok] at h2 h3
      split at h1
      · rename_i he
        rw [if_pos he] at h2 h3
        exact ⟨hG n bad hok' h2, (lineDeep_none h3).1⟩
      · rename_i he
        rw [if_neg he] at h2 h3
        split at h1
        · cases h1
        · rename_i hc
          rw [if_neg hc] at h2 h3
          obtain ⟨q1, q2⟩ := ih _ _ _ _ h1 h2 h3
          exact ⟨hG n bad hok' q1, (lineDeep_none q2).1⟩
theorem pDesc_good (s : ByteArray) : ∀ (k : Nat) (lines : List (ByteArray × PT)) (n : Nat) (bad deep : Option Nat), (pDesc s k lines n bad deep).ok = true → (pDesc s k lines n bad deep).bad = none → (pDesc s k lines n bad deep).deep = none → (∀ q ∈ lines, WFD q.2) →
    ∃ q, (pDesc s k lines n bad deep).lines.getLast? = some q ∧ WFD q.2 ∧ q.2.depth ≤ 12 := by
  intro k
  induction k with
  | zero => intro lines n bad deep h; cases h
  | succ k ih =>
    intro lines n bad deep h1 h2 h3 hL
    have hG := pTyp_good s lines hL (s.size + 1)
    simp only [pDesc] at h1 h2 h3 ⊢
    split at h1
    · cases h1
    · rename_i hok
      have hok' : (lineR s lines n bad).ok = true := by cases h : (lineR s lines n bad).ok; exact absurd h hok; rfl
      rw [if_neg hok] at h2 h3 ⊢
      split at h1
      · rename_i he
        rw [if_pos he] at h2 h3 ⊢
        obtain ⟨q1, q2, q3⟩ := pPart_good hG s _ 61 n bad hok' h2
        obtain ⟨q4, q5⟩ := lineDeep_none h3
        exact ⟨(nameAt s n, (lineR s lines n bad).t), by simp, q3, q5⟩
      · rename_i he
        rw [if_neg he] at h2 h3 ⊢
        split at h1
        · cases h1
        · rename_i hc
          rw [if_neg hc] at h2 h3 ⊢
          obtain ⟨q1, q2⟩ := pDesc_stays s k _ _ _ _ h1 h2 h3
          obtain ⟨q3, q4, q5⟩ := pPart_good hG s _ 61 n bad hok' q1
          refine ih _ _ _ _ h1 h2 h3 (fun q hq => ?_)
          rcases List.mem_append.1 hq with h | h
          · exact hL q h
          · simp at h; subst h; exact q5

theorem typeP_good {s : ByteArray} (h : checkP s = (0, 0)) : WFT 12 (typeP s) := by
  unfold checkP at h
  split at h
  · cases h
  · split at h
    · cases h
    · rename_i hok
      have hok' : (pDesc s 10 [] 0 none none).ok = true := by cases h : (pDesc s 10 [] 0 none none).ok; exact absurd h hok; rfl
      split at h
      · cases h
      · rename_i hb
        split at h
        · cases h
        · rename_i hd
          obtain ⟨q, h1, h2, h3⟩ := pDesc_good s 10 [] 0 none none hok' hb hd (by simp)
          unfold typeP
          rw [h1]
          exact WFT.mono _ _ h2 12 h3

end Go.Proofs.YtdcjogpkogidaaaGreatDoor
end
