/- What is told on the way through a message: each part's path and text, each number's path. -/
import Derived.Test.YtdcjogpkogidaaaGreatDoorRows
import Derived.ProofKit
import Derived.LaidMore
import Derived.OpenShut
import Derived.LaidLaws
import Derived.LaidHandle
import Derived.LaidSub
import Derived.Lay
import Derived.Leaving
import Derived.Conc.Holds
import Derived.SizedLaws
import Derived.Lib.LaidTab
import Derived.Stop.Joined
import Derived.Test.YtdcjogpkogidaaaGreatDoorMdVal
import Derived.Test.YtdcjogpkogidaaaGreatDoorMdVMem
import Derived.Test.YtdcjogpkogidaaaGreatDoorMdCheck
section
namespace Go.Proofs.YtdcjogpkogidaaaGreatDoor
open Go.ChangeShapes Go.WideShapes Go.ChangeAt Go.WideMaps Go.WideElems Go.RowKit
open Go.ChangeMaps (open_string shut_string)

theorem lOwn : ownKnob Tryz.prog.godebug = none := by kernel_rfl
theorem lEt : Tryz.prog.globalNamed "errors.errorType" = some 0 := by kernel_rfl
theorem lRt : (Tryz.prog.cutTypes.find? (·.1 == "internal/reflectlite.rtype")).map (·.2) = some 214 := by kernel_rfl
theorem lSize : Tryz.prog.types.size = 365 := by kernel_rfl
theorem lOneRow : ((List.range 365).filter fun t => Tryz.prog.rowNamed t [101, 114, 114, 111, 114]) = [86] := by kernel_rfl
theorem lGw : Tryz.prog.globalNamed "sluice/describe.words" = some 4 := by kernel_rfl
theorem lTw : (Tryz.prog.globals[4]?).map (·.type) = some 326 := by kernel_rfl
theorem lC9 : Tryz.prog.cellsOf 9 = 1 := by kernel_rfl
theorem lTp : (Tryz.prog.globals[5]?).map (·.type) = some 332 := by kernel_rfl
theorem lCp : Tryz.prog.cellsOf 332 = 20 := by kernel_rfl
theorem lCu : Tryz.prog.cellsOf 185 = 1 := by kernel_rfl
theorem lPow : Rows.laid_internal_strconv_uint64pow10 = (Lib.tabData .u64 Lib.pow10Tab : DataW Unit) := by kernel_rfl

theorem errT_of {W : World} (h : handlesMet Tryz.prog [("errors.errorType", Rows.laid_errors_errorType)] W) : ErrT W := by
  obtain ⟨name, u, ty, e1, e2, e3, e4, e5⟩ := h _ (List.mem_singleton.2 rfl)
  have en : name = [101, 114, 114, 111, 114] := (Option.some.inj e1).symm
  subst en
  obtain rfl := Option.some.inj (lRt.symm.trans e2)
  have hm : ty ∈ (List.range 365).filter fun t => Tryz.prog.rowNamed t [101, 114, 114, 111, 114] := List.mem_filter.2 ⟨List.mem_range.2 (by rw [← lSize]; exact e3), e4⟩
  rw [lOneRow] at hm
  obtain rfl := List.mem_singleton.1 hm
  have hh : typeHandle Tryz.prog 86 = .pointer (some ⟨8, 86, none⟩) := by kernel_rfl
  rw [hh] at e5
  unfold ErrT
  simpa using World.var?_cell lEt e5 0

theorem wdL : ∀ i, i < 7 → (wd i).data.toList = ([[98, 121, 116, 101], [115, 104, 111, 114, 116], [119, 111, 114, 100], [105, 110, 116], [98, 111, 111, 108], [116, 101, 120, 116], [98, 121, 116, 101, 115]] : List (List UInt8))[i]?.getD [] := by decide +kernel

theorem words_of {W : World} (h : laidMet Tryz.prog [("sluice/describe.words", Rows.laid_sluice_describe_words)] W) : Words W := by
  obtain ⟨ps, ⟨g0, t0, cs0, f0, p0, q0, hg0, ht0, hv0, hd0, _⟩, _, _⟩ := h
  obtain rfl := Option.some.inj (lGw.symm.trans hg0)
  obtain rfl := Option.some.inj (lTw.symm.trans ht0)
  obtain ⟨xs, m1, rfl, hx1, hlen, hn7, hel⟩ := DataW.trod_array Tryz.underlying326 hd0
  simp only [Prod.mk.injEq] at hx1
  intro i hi
  obtain ⟨y, hy⟩ : ∃ y, xs[i]? = some y := ⟨xs[i]'(by omega), by simp⟩
  have hi' := hel i hi
  rw [hy, lC9] at hi'
  obtain ⟨str, e1, e2, _⟩ := DataW.trod_string Tryz.underlying9 hi'
  have hm := congrArg (fun l => match l with | DataW.agg z => z[i]? | _ => none) hx1.1
  simp only [List.getElem?_map, hy, Option.map_some, e2] at hm
  have hstr : str = wd i := by
    apply Go.WideShapes.bytes_inj
    rw [wdL i hi]
    match i, hi with
    | 0, _ => simpa [Rows.laid_sluice_describe_words] using hm.symm
    | 1, _ => simpa [Rows.laid_sluice_describe_words] using hm.symm
    | 2, _ => simpa [Rows.laid_sluice_describe_words] using hm.symm
    | 3, _ => simpa [Rows.laid_sluice_describe_words] using hm.symm
    | 4, _ => simpa [Rows.laid_sluice_describe_words] using hm.symm
    | 5, _ => simpa [Rows.laid_sluice_describe_words] using hm.symm
    | 6, _ => simpa [Rows.laid_sluice_describe_words] using hm.symm
  have hv := World.var?_cell hg0 hv0 i
  rw [hv]
  have hget : cs0.toList[i]? = some (.string str) := by
    have := congrArg (fun l => l[0]?) e1
    simp only [Nat.mul_one] at this
    rw [List.getElem?_take_of_lt (by omega), List.getElem?_drop] at this
    simpa using this
  rw [← hstr]
  simpa using hget

theorem pow_of {W : World} (h : laidMet Tryz.prog [("internal/strconv.uint64pow10", Rows.laid_internal_strconv_uint64pow10)] W) : PowT W := by
  rw [lPow] at h
  exact Lib.tabIs_of_head gPow lTp Tryz.underlying332 Tryz.underlying185 lCu lCp h

/-- The rows' list of variables. -/
def laidL : List (String × DataW Unit) := [("math/bits.deBruijn32tab", Rows.laid_math_bits_deBruijn32tab), ("math/bits.deBruijn64tab", Rows.laid_math_bits_deBruijn64tab), ("internal/strconv.uint64pow10", Rows.laid_internal_strconv_uint64pow10), ("unicode/utf8.acceptRanges", Rows.laid_unicode_utf8_acceptRanges), ("errors.errorType", Rows.laid_errors_errorType), ("sluice/describe.words", Rows.laid_sluice_describe_words), ("unicode/utf8.first", Rows.laid_unicode_utf8_first)]

theorem fWords : (laidL.filter fun x => x.2.handleName?.isNone).filter (fun x => x.1 == "sluice/describe.words") = [("sluice/describe.words", Rows.laid_sluice_describe_words)] := by kernel_rfl
theorem fPow : (laidL.filter fun x => x.2.handleName?.isNone).filter (fun x => x.1 == "internal/strconv.uint64pow10") = [("internal/strconv.uint64pow10", Rows.laid_internal_strconv_uint64pow10)] := by kernel_rfl
theorem fErr : laidL.filter (fun x => x.2.handleName?.isSome) = [("errors.errorType", Rows.laid_errors_errorType)] := by kernel_rfl

theorem laid_all {W : World} (h : laidMetH Tryz.prog laidL W) : Words W ∧ ErrT W ∧ PowT W := by
  obtain ⟨h1, h2⟩ := laidMetH_iff.1 h
  have hw := h1.filter (fun x => x.1 == "sluice/describe.words")
  have hp := h1.filter (fun x => x.1 == "internal/strconv.uint64pow10")
  rw [fWords] at hw
  rw [fPow] at hp
  rw [fErr] at h2
  exact ⟨words_of hw, errT_of h2, pow_of hp⟩

/-- The start that fits: the door's run, and the tables laid. -/
def greatL : List String := ["math/bits.deBruijn32tab", "math/bits.deBruijn64tab", "internal/strconv.uint64pow10", "unicode/utf8.acceptRanges", "sluice/describe.words", "unicode/utf8.first"]
noncomputable def witW (os : Os) : World := (World.doorLaid Tryz.prog 400 os).layVars Tryz.prog ((laidL.filter fun x => x.2.handleName?.isNone).filter fun x => greatL.contains x.1)

theorem wit_heap (args : Array Value) (w : World) : (w.forCall (fun _ _ => 0) ⟨#[], args, []⟩).memory.heap = w.heap := rfl

set_option maxRecDepth 100000 in
theorem wit_met (os : Os) (args : Array Value) : laidMetH Tryz.prog laidL ((witW os).forCall (fun _ _ => 0) ⟨#[], args, []⟩).memory :=
  laidMetH_of_parts (laidMet_layVars (w0 := World.doorLaid Tryz.prog 400 os) greatL [] (wit_heap args (witW os)) (by kernel_rfl) (by kernel_rfl) (by
    rw [show ((laidL.filter fun x => x.2.handleName?.isNone).filter fun x => !greatL.contains x.1) = [] by kernel_rfl]
    exact LaidIn.none)) (by kernel_rfl)

end Go.Proofs.YtdcjogpkogidaaaGreatDoor
end
section
namespace Go.Proofs.YtdcjogpkogidaaaGreatDoor

theorem and_t {a b : Bool} (h1 : a = true) (h2 : b = true) : (a && b) = true := by rw [h1, h2]; rfl
theorem pLaidOut : laidOutB Tryz.checked.prog = true := by kernel_rfl
theorem pMapsRowed : mapsRowed Tryz.checked.prog = true := by kernel_rfl
theorem pStopsHeard : Tryz.checked.prog.stopsHeard = true := by kernel_rfl
theorem pMayEnter : Tryz.checked.prog.mayEnter = true := by kernel_rfl

end Go.Proofs.YtdcjogpkogidaaaGreatDoor
end
section
namespace Go.Proofs.YtdcjogpkogidaaaGreatDoor

theorem decI_pos (n : Int) : 0 < (decI n).length := by
  unfold decI
  split
  · simp
  · show 0 < ((if n.natAbs < 10 then [] else decN 19 (n.natAbs / 10)) ++ [_]).length
    simp
theorem wQuo_len : ∀ (l : Bs), l.length ≤ (wQuo l).length := by
  intro l
  induction l with
  | nil => simp [wQuo]
  | cons b l ih =>
    simp only [wQuo]
    split <;> simp only [List.length_cons] <;> omega
theorem wCount_len (n : Nat) : (wCount n).length ≤ 2 := by unfold wCount; split <;> simp
theorem flat_between {f g : PV → Bs} : ∀ (vs : List PV), (∀ x ∈ vs, (f x).length ≤ 8 * (g x).length) → (vs.flatMap f).length ≤ 8 * (wBetween g vs).length := by
  intro vs
  induction vs with
  | nil => intro _; simp
  | cons v d ih =>
    intro h
    have h1 := h v (by simp)
    have h2 := ih (fun x hx => h x (by simp [hx]))
    rw [List.flatMap_cons, List.length_append]
    by_cases hd : d = []
    · subst hd; rw [wBetween_one]; simpa using h1
    · rw [wBetween_cons hd, List.length_append, List.length_cons]; omega

theorem msg_len : ∀ (k : Nat) (t : PT) (v : PV), WFT k t → Valid k t v → (wMsg k v).length ≤ 8 * (wText k v).length := by
  intro k
  induction k with
  | zero => intro t v h; exact h.elim
  | succ k ih =>
    intro t v hW hV
    obtain ⟨vt, vn, vb, vp⟩ := v
    obtain ⟨e, hV⟩ := hV
    simp only at e
    subst e
    have hsub : ∀ i, i < vt.subs.length → ∀ x, Valid k (vt.sub i) x → (wMsg k x).length ≤ 8 * (wText k x).length := fun i hi x hx => ih (vt.sub i) x (hW.sub hi) hx
    rw [wMsg_mk, wText_mk]
    simp only at hV
    split at hV
    · rename_i hk
      rw [if_pos hk, if_pos (by omega), leBytes_length]
      have := decI_pos vn
      have : widthOf vt.kind ≤ 4 := by unfold widthOf; split <;> (try split) <;> omega
      omega
    · rename_i hk2
      rw [if_neg hk2]
      split at hV
      · rename_i hk
        rw [if_pos hk, if_pos (by omega)]
        have := decI_pos vn
        simp only [beBytes, List.length_reverse, leBytes_length]
        omega
      · rename_i hk3
        rw [if_neg hk3, if_neg (show ¬ vt.kind ≤ 3 by omega)]
        split at hV
        · rename_i hk
          rw [if_pos hk, if_pos hk]
          split <;> simp [wNo, wYes]
        · rename_i hk4
          rw [if_neg hk4, if_neg hk4]
          split at hV
          · rename_i hk
            rw [if_pos (by omega), if_pos hk]
            have h1 := wCount_len vb.length
            have h2 := wQuo_len vb
            simp only [List.length_append, List.length_cons, List.length_nil]
            omega
          · rename_i hk5
            rw [if_neg hk5]
            split at hV
            · rename_i hk
              rw [if_pos (by omega), if_pos hk]
              have h1 := wCount_len vb.length
              have h2 : ∀ l : Bs, (wHex l).length = 2 * l.length := by
                intro l
                induction l with
                | nil => rfl
                | cons b l ih => simp only [wHex, List.length_cons, ih]; omega
              simp only [List.length_append, List.length_cons, h2]
              omega
            · rename_i hk6
              rw [if_neg (show ¬ vt.kind ≤ 6 by omega), if_neg hk6]
              split at hV
              · rename_i hk
                have h1s : vt.subs.length = 1 := hW.2.2.2.2.1 (by omega)
                rw [if_pos (by omega), if_pos hk]
                have h1 := wCount_len vp.length
                have h2 := flat_between (f := wMsg k) (g := wText k) vp (fun x hx => hsub 0 (by omega) x (hV.2.2.2 x hx))
                simp only [List.length_append, List.length_cons, List.length_nil]
                omega
              · rename_i hk7
                rw [if_neg hk7]
                split at hV
                · rename_i hk
                  have h1s : vt.subs.length = 1 := hW.2.2.2.2.1 (by omega)
                  rw [if_pos (by omega), if_pos hk]
                  match vp, hV with
                  | [], _ => simp [wCount, wOpt]
                  | [x], hV =>
                    have := hsub 0 (by omega) x (hV.2.2.2 x (by simp))
                    simp [wCount, wOpt]
                    omega
                  | _ :: _ :: _, hV => have := hV.2.2.1; simp at this
                · rename_i hk8
                  rw [if_neg (show ¬ vt.kind ≤ 8 by omega), if_neg hk8]
                  split at hV
                  · rename_i hk
                    rw [if_pos hk, if_pos hk]
                    have h2 := flat_between (f := wMsg k) (g := wText k) vp (fun x hx => by
                      obtain ⟨i, hi, he⟩ := List.getElem_of_mem hx
                      exact hsub i (by have := hV.2.2.1; omega) x (hV.2.2.2 i x (by rw [List.getElem?_eq_getElem hi, he])))
                    simp only [List.length_append, List.length_cons, List.length_nil]
                    omega
                  · rename_i hk9
                    rw [if_neg hk9, if_neg hk9]
                    obtain ⟨_, i, x, _, hi, rfl, hx⟩ := hV
                    have := hsub i hi x hx
                    simp [wFirst]
                    omega

end Go.Proofs.YtdcjogpkogidaaaGreatDoor

namespace Go.Proofs.YtdcjogpkogidaaaGreatDoor

theorem decN_len : ∀ (f n : Nat), (decN f n).length ≤ f := by
  intro f
  induction f with
  | zero => intro n; simp [decN]
  | succ f ih =>
    intro n
    simp only [decN, List.length_append, List.length_cons, List.length_nil]
    split
    · simp
    · have := ih (n / 10); omega
theorem decI_len (n : Int) : (decI n).length ≤ 21 := by
  unfold decI
  have := decN_len 20 n.natAbs
  split
  · simp only [List.length_cons]; omega
  · omega
theorem wCount_pos (n : Nat) : 0 < (wCount n).length := by unfold wCount; split <;> simp
theorem wQuo_le : ∀ (l : Bs), (wQuo l).length ≤ 2 * l.length := by
  intro l
  induction l with
  | nil => simp [wQuo]
  | cons b l ih =>
    simp only [wQuo]
    split <;> simp only [List.length_cons] <;> omega
theorem between_flat {c : Nat} {f g : PV → Bs} : ∀ (vs : List PV), (∀ x ∈ vs, 0 < (f x).length ∧ (g x).length ≤ c * (f x).length) → (wBetween g vs).length ≤ c * (vs.flatMap f).length + (vs.flatMap f).length := by
  intro vs
  induction vs with
  | nil => intro _; simp [wBetween]
  | cons v d ih =>
    intro h
    have h1 := h v (by simp)
    have h2 := ih (fun x hx => h x (by simp [hx]))
    rw [List.flatMap_cons, List.length_append]
    by_cases hd : d = []
    · subst hd; rw [wBetween_one]; simp; omega
    · rw [wBetween_cons hd, List.length_append, List.length_cons, Nat.mul_add]; omega
theorem flat_pos {f : PV → Bs} {vs : List PV} (h : 0 < vs.length) (hf : ∀ x ∈ vs, 0 < (f x).length) : 0 < (vs.flatMap f).length := by
  cases vs with
  | nil => simp at h
  | cons v d => have := hf v (by simp); rw [List.flatMap_cons, List.length_append]; omega

theorem text_len : ∀ (k : Nat) (t : PT) (v : PV), WFT k t → Valid k t v → 0 < (wMsg k v).length ∧ (wText k v).length ≤ 500 * k * (wMsg k v).length := by
  intro k
  induction k with
  | zero => intro t v h; exact h.elim
  | succ k ih =>
    intro t v hW hV
    obtain ⟨vt, vn, vb, vp⟩ := v
    obtain ⟨e, hV⟩ := hV
    simp only at e
    subst e
    have hsub : ∀ i, i < vt.subs.length → ∀ x, Valid k (vt.sub i) x → 0 < (wMsg k x).length ∧ (wText k x).length ≤ 500 * k * (wMsg k x).length := fun i hi x hx => ih (vt.sub i) x (hW.sub hi) hx
    have hmul : ∀ m, 500 * (k + 1) * m = 500 * k * m + 500 * m := fun m => by rw [Nat.mul_add, Nat.add_mul]
    rw [hmul]
    have hone : ∀ m, 0 ≤ 500 * k * m := fun m => Nat.zero_le _
    rw [wMsg_mk, wText_mk]
    simp only at hV
    split at hV
    · rename_i hk
      rw [if_pos hk, if_pos (by omega), leBytes_length]
      have := decI_len vn
      have : 1 ≤ widthOf vt.kind := by unfold widthOf; split <;> (try split) <;> omega
      omega
    · rename_i hk2
      rw [if_neg hk2]
      split at hV
      · rename_i hk
        rw [if_pos hk, if_pos (by omega)]
        have := decI_len vn
        simp only [beBytes, List.length_reverse, leBytes_length]
        omega
      · rename_i hk3
        rw [if_neg hk3, if_neg (show ¬ vt.kind ≤ 3 by omega)]
        split at hV
        · rename_i hk
          rw [if_pos hk, if_pos hk]
          split <;> simp [wNo, wYes] <;> omega
        · rename_i hk4
          rw [if_neg hk4, if_neg hk4]
          split at hV
          · rename_i hk
            rw [if_pos (by omega), if_pos hk]
            have h1 := wCount_pos vb.length
            have h2 := wQuo_le vb
            simp only [List.length_append, List.length_cons, List.length_nil]
            omega
          · rename_i hk5
            rw [if_neg hk5]
            split at hV
            · rename_i hk
              rw [if_pos (by omega), if_pos hk]
              have h1 := wCount_pos vb.length
              have h2 : ∀ l : Bs, (wHex l).length = 2 * l.length := by
                intro l
                induction l with
                | nil => rfl
                | cons b l ih => simp only [wHex, List.length_cons, ih]; omega
              simp only [List.length_append, List.length_cons, h2]
              omega
            · rename_i hk6
              rw [if_neg (show ¬ vt.kind ≤ 6 by omega), if_neg hk6]
              split at hV
              · rename_i hk
                have h1s : vt.subs.length = 1 := hW.2.2.2.2.1 (by omega)
                rw [if_pos (by omega), if_pos hk]
                have h1 := wCount_pos vp.length
                have h2 := between_flat (c := 500 * k) (f := wMsg k) (g := wText k) vp (fun x hx => hsub 0 (by omega) x (hV.2.2.2 x hx))
                simp only [List.length_append, List.length_cons, List.length_nil, Nat.mul_add]
                omega
              · rename_i hk7
                rw [if_neg hk7]
                split at hV
                · rename_i hk
                  have h1s : vt.subs.length = 1 := hW.2.2.2.2.1 (by omega)
                  rw [if_pos (by omega), if_pos hk]
                  match vp, hV with
                  | [], _ => simp [wCount, wOpt]
                  | [x], hV =>
                    have := hsub 0 (by omega) x (hV.2.2.2 x (by simp))
                    simp [wCount, wOpt, Nat.mul_add]
                    omega
                  | _ :: _ :: _, hV => have := hV.2.2.1; simp at this
                · rename_i hk8
                  rw [if_neg (show ¬ vt.kind ≤ 8 by omega), if_neg hk8]
                  split at hV
                  · rename_i hk
                    rw [if_pos hk, if_pos hk]
                    have hall : ∀ x ∈ vp, 0 < (wMsg k x).length ∧ (wText k x).length ≤ 500 * k * (wMsg k x).length := fun x hx => by
                      obtain ⟨i, hi, he⟩ := List.getElem_of_mem hx
                      exact hsub i (by have := hV.2.2.1; omega) x (hV.2.2.2 i x (by rw [List.getElem?_eq_getElem hi, he]))
                    have h2 := between_flat (c := 500 * k) (f := wMsg k) (g := wText k) vp hall
                    have h3 := flat_pos (f := wMsg k) (vs := vp) (by have := hV.2.2.1; have := hW.2.2.2.1 (by omega); omega) (fun x hx => (hall x hx).1)
                    simp only [List.length_append, List.length_cons, List.length_nil]
                    omega
                  · rename_i hk9
                    rw [if_neg hk9, if_neg hk9]
                    obtain ⟨_, i, x, hvn, hi, rfl, hx⟩ := hV
                    have := hsub i hi x hx
                    subst hvn
                    have hn : (vt.name (i : Int).toNat).length ≤ 400 := by
                      unfold PT.name
                      rw [Int.toNat_natCast]
                      have hin : i < vt.names.length := by rw [hW.2.1]; exact hi
                      rw [List.getElem?_eq_getElem hin]
                      have := hW.2.2.2.2.2.1.2 _ (List.getElem_mem hin)
                      rw [Option.getD_some, Array.length_toList]
                      exact this
                    simp only [wFirst, List.length_append, List.length_cons, List.flatMap_cons, List.flatMap_nil, List.append_nil, Nat.mul_add]
                    omega

end Go.Proofs.YtdcjogpkogidaaaGreatDoor
end
section
namespace Go.Proofs.YtdcjogpkogidaaaGreatDoor
open Go.RowKit

def under (p st : Bs) : Bs := if p = [] then st else p ++ 47 :: st
def stepOf (t : PT) (n : Int) (i : Nat) : Bs := if t.kind = 7 then decN 20 i else if t.kind = 8 then [43] else if t.kind = 9 then t.name i else t.name n.toNat
def starOf (t : PT) (n : Int) (i : Nat) : Bs := if t.kind = 7 then [42] else stepOf t n i
def kids {α : Type} (f : Nat → PV → List α) : Nat → List PV → List α
  | _, [] => []
  | i, v :: l => f i v ++ kids f (i + 1) l
def waysOf : Nat → Bs → PV → List (Bs × Bs)
  | 0, _, _ => []
  | k + 1, p, v => (p, wText (k + 1) v) :: kids (fun i x => waysOf k (under p (stepOf v.of v.num i)) x) 0 v.parts
def numsOf : Nat → Bs → PV → List (Bs × Int)
  | 0, _, _ => []
  | k + 1, p, v => if v.of.kind ≤ 3 then [(p, v.num)] else kids (fun i x => numsOf k (under p (starOf v.of v.num i)) x) 0 v.parts

theorem kids_snoc {α : Type} (f : Nat → PV → List α) (v : PV) : ∀ (l : List PV) (i : Nat), kids f i (l ++ [v]) = kids f i l ++ f (i + l.length) v := by
  intro l
  induction l with
  | nil => intro i; simp [kids]
  | cons x l ih => intro i; simp only [List.cons_append, kids, ih, List.append_assoc, List.length_cons]; rw [show i + 1 + l.length = i + (l.length + 1) by omega]
theorem wBetween_more (f : PV → Bs) (v : PV) : ∀ (l : List PV), wBetween f (l ++ [v]) = wBetween f l ++ ((if l.length = 0 then [] else [44]) ++ f v) := by
  intro l
  induction l with
  | nil => simp [wBetween]
  | cons x l ih =>
    cases l with
    | nil => simp [wBetween]
    | cons y l => rw [List.cons_append, wBetween_cons (by simp), wBetween_cons (by simp), ih]; simp
theorem under_size (p st : Bs) : (under p st).length ≤ p.length + 1 + st.length := by
  unfold under
  split
  · omega
  · simp; omega
theorem Fr.four (X : Nat → Prop) (w : World) (b : Nat) (v0 v1 v2 v3 : Value) (hx : X b) : Fr X w ((((w.setCell ⟨b, 0, none⟩ v0).setCell ⟨b, 1, none⟩ v1).setCell ⟨b, 2, none⟩ v2).setCell ⟨b, 3, none⟩ v3) :=
  (((Fr.setCell X w ⟨b, 0, none⟩ v0 hx).trans (Fr.setCell X _ ⟨b, 1, none⟩ v1 hx)).trans (Fr.setCell X _ ⟨b, 2, none⟩ v2 hx)).trans (Fr.setCell X _ ⟨b, 3, none⟩ v3 hx)
theorem heap_four {w : World} {b : Nat} {a0 a1 a2 a3 : Value} {t : TypeId} {f : Nat × Nat} (h : w.heap[b]? = some (.cells #[a0, a1, a2, a3] t f)) (v0 v1 v2 v3 : Value) :
    ((((w.setCell ⟨b, 0, none⟩ v0).setCell ⟨b, 1, none⟩ v1).setCell ⟨b, 2, none⟩ v2).setCell ⟨b, 3, none⟩ v3).heap[b]? = some (.cells #[v0, v1, v2, v3] t f) := by
  rw [heap_setCell_same (heap_setCell_same (heap_setCell_same (heap_setCell_same h)))]; rfl
theorem heap_four_ne {w : World} {b k : Nat} (hk : k ≠ b) (v0 v1 v2 v3 : Value) :
    ((((w.setCell ⟨b, 0, none⟩ v0).setCell ⟨b, 1, none⟩ v1).setCell ⟨b, 2, none⟩ v2).setCell ⟨b, 3, none⟩ v3).heap[k]? = w.heap[k]? := by
  rw [Below.heap_setCell _ _ _ _ hk, Below.heap_setCell _ _ _ _ hk, Below.heap_setCell _ _ _ _ hk, Below.heap_setCell _ _ _ _ hk]

end Go.Proofs.YtdcjogpkogidaaaGreatDoor
end
