/- The reference's counts as bytes; digits of bytes. -/
import Derived.Test.YtnhkalnihjkoeaaGreatDoorESign
namespace Go.Proofs.YtnhkalnihjkoeaaGreatDoor
open Go.RowKit

theorem BO.src {w : World} {B : Nat} {sv : Value} {acc : Bs} (h : BO w B sv acc) : Src Tryz.prog 1 32 sv acc.length (Lib.byteCells acc) w := by
  rcases h.own.2 with ⟨rfl, e⟩ | ⟨g, cap, cur, rfl, _⟩
  · have ha : acc = [] := List.eq_nil_of_length_eq_zero e
    subst ha
    exact Src.ofNil w Tryz.underlying32 0
  · refine Src.ofSlice w Tryz.underlying32 _ _ _ _ (by simp [Lib.byteCells]) (h.own.cells (g := g) rfl) (fun u hu => ?_)
    simp only [Lib.byteCells, List.mem_map] at hu
    obtain ⟨b, _, rfl⟩ := hu
    rfl
theorem BO.two (w : World) (b c : UInt8) (x y : Int) (hx : x = b.toNat) (hy : y = c.toNat) : BO (w.alloc (.cells #[.int .u8 x, .int .u8 y] 5)) w.heap.size (.slice (some ⟨w.heap.size, 0, none⟩) 2 2) [b, c] := by
  subst hx hy
  refine ⟨⟨rfl, .inr ⟨w.heap.size, 2, #[.int .u8 b.toNat, .int .u8 c.toNat], rfl, Nat.zero_le _, heap_new_at rfl _, Nat.le_refl _, by unfold maxLen; omega, rfl, rfl⟩⟩, fun g hg => ?_⟩
  simp [Value.ownBlock] at hg
  omega
theorem BO.fresh (w : World) (b : UInt8) (x : Int) (hx : x = b.toNat) : BO (w.alloc (.cells #[.int .u8 x] 5)) w.heap.size (.slice (some ⟨w.heap.size, 0, none⟩) 1 1) [b] := by
  subst hx
  refine ⟨⟨rfl, .inr ⟨w.heap.size, 1, #[.int .u8 b.toNat], rfl, Nat.zero_le _, heap_new_at rfl _, Nat.le_refl _, by unfold maxLen; omega, rfl, rfl⟩⟩, fun g hg => ?_⟩
  simp [Value.ownBlock] at hg
  omega

set_option maxHeartbeats 4000000 in
theorem counted_any (n : Nat) (hn : n ≤ 300) (w : World) :
    Calls Tryz.prog 245 #[.int .i64 n] w fun e w' => Fr Zero w w' ∧ ∃ v, e = .returned v ∧ BO w' w.heap.size v (wCount n) := by
  by_cases h : n ≤ 127
  · have hI : ¬ (127 : Int) < (n : Int) := by omega
    have HU : Hid (wCount n = [UInt8.ofNat n]) := if_pos h
    go_enter Tryz.func245, Tryz.ntmps245
    go_wp2_with fail
    go_ret
    rw [HU.out]
    exact ⟨Fr.alloc _ _ _, _, rfl, BO.fresh w (UInt8.ofNat n) _ (by rw [toNat_ofNat (by omega)])⟩
  · have hI : (127 : Int) < (n : Int) := by omega
    have HU : Hid (wCount n = [UInt8.ofNat (n % 128 + 128), UInt8.ofNat (n / 128)]) := if_neg h
    go_enter Tryz.func245, Tryz.ntmps245
    go_wp2_with fail
    go_ret
    rw [HU.out]
    exact ⟨Fr.alloc _ _ _, _, rfl, BO.two w (UInt8.ofNat (n % 128 + 128)) (UInt8.ofNat (n / 128)) _ _ (by rw [toNat_ofNat (by omega)]; omega) (by rw [toNat_ofNat (by omega)]; omega)⟩

def hexV (c : Nat) : Int := if 48 ≤ c ∧ c ≤ 57 then (c : Int) - 48 else if 97 ≤ c ∧ c ≤ 102 then (c : Int) - 87 else -1
set_option maxHeartbeats 4000000 in
theorem hex_any (c : Nat) (hc : c < 256) (w : World) :
    Calls Tryz.prog 246 #[.int .u8 c] w fun e w' => e = .returned (.int .i64 (hexV c)) ∧ w' = w := by
  by_cases h1 : 48 ≤ c
  · have i1 : (48 : Int) ≤ (c : Int) := by omega
    by_cases h2 : c ≤ 57
    · have i2 : (c : Int) ≤ 57 := by omega
      have HU : Hid (hexV c = (c : Int) - 48) := if_pos ⟨h1, h2⟩
      go_enter Tryz.func246, Tryz.ntmps246
      go_wp2_with fail
      go_ret
      rw [HU.out]
      exact ⟨rfl, rfl⟩
    · have i2 : decide ((c : Int) ≤ 57) = false := decide_eq_false (by omega)
      by_cases h3 : 97 ≤ c
      · have i3 : (97 : Int) ≤ (c : Int) := by omega
        by_cases h4 : c ≤ 102
        · have i4 : (c : Int) ≤ 102 := by omega
          have HU : Hid (hexV c = (c : Int) - 97 + 10) := by show _ = _; unfold hexV; rw [if_neg (by omega), if_pos ⟨h3, h4⟩]; omega
          go_enter Tryz.func246, Tryz.ntmps246
          go_wp2_with fail
          go_ret
          rw [HU.out]
          exact ⟨rfl, rfl⟩
        · have i4 : decide ((c : Int) ≤ 102) = false := decide_eq_false (by omega)
          have HU : Hid (hexV c = -1) := by show _ = _; unfold hexV; rw [if_neg (by omega), if_neg (by omega)]
          go_enter Tryz.func246, Tryz.ntmps246
          go_wp2_with fail
          go_ret
          rw [HU.out]
          exact ⟨rfl, rfl⟩
      · have i3 : decide ((97 : Int) ≤ (c : Int)) = false := decide_eq_false (by omega)
        have HU : Hid (hexV c = -1) := by show _ = _; unfold hexV; rw [if_neg (by omega), if_neg (by omega)]
        go_enter Tryz.func246, Tryz.ntmps246
        go_wp2_with fail
        go_ret
        rw [HU.out]
        exact ⟨rfl, rfl⟩
  · have i1 : decide ((48 : Int) ≤ (c : Int)) = false := decide_eq_false (by omega)
    have i3 : decide ((97 : Int) ≤ (c : Int)) = false := decide_eq_false (by omega)
    have HU : Hid (hexV c = -1) := by show _ = _; unfold hexV; rw [if_neg (by omega), if_neg (by omega)]
    go_enter Tryz.func246, Tryz.ntmps246
    go_wp2_with fail
    go_ret
    rw [HU.out]
    exact ⟨rfl, rfl⟩

theorem step_out2 {ops : Array Oper} {o : Oper} {a : Act} {w : World} {K : Act → World → Prop} {Q : Exit → Act → World → Prop} {E : Prop}
    (hg : o.guard = none) (s x : Operand) (tx : TypeId) (hop : o.op = Op.call { callee := Callee.builtin Builtin.append, args := #[s, x], argTypes := #[32, tx] })
    {B : Nat} {sv xv : Value} {acc : Bs} (more : Bs) (hs : a.eval s = sv) (hx : a.eval x = xv) (h : BO w B sv acc) (hsrc : Src Tryz.prog 1 tx xv more.length (Lib.byteCells more) w) (hB : B ≤ w.heap.size) (hl : acc.length + more.length ≤ 140737488355328)
    (hK : ∀ v' w', BO w' B v' (acc ++ more) → Fr (Owned sv) w w' → (∀ k, k < w.heap.size → v'.ownBlock = some k → sv.ownBlock = some k) → K (a.put o.dst v') w') :
    if Region.wanted o (yielded ops a.tmps) = true then Oper.wp Tryz.prog o a w K Q else E := by
  have hw : Region.wanted o (yielded ops a.tmps) = true := by simp [Region.wanted, hg]
  rw [if_pos hw]
  obtain ⟨v', w', hrun, r1, r2, r3⟩ := run_out2 h hB tx o.type xv more hsrc hl
  unfold Oper.wp
  simp [execOp, hop, resolve, invoke, builtin, hs, hx, hrun, Result.andThen]
  exact hK v' w' r1 r2 r3

theorem MS.grow2 {w w' : World} {B mb db : Nat} {s : ByteArray} {l : Bs} {bad : Bool} {out out' : Bs} {ov v' : Value} (h1 : MB w mb db s l bad ov) (h2 : B ≤ mb) (h3 : BO w B ov out) (ho : BO w' B v' out') (hf : Fr (Owned ov) w w') (hv : ∀ k, k < w.heap.size → v'.ownBlock = some k → ov.ownBlock = some k) :
    MB (w'.setCell ⟨mb, 3, none⟩ v') mb db s l bad v' ∧ BO (w'.setCell ⟨mb, 3, none⟩ v') B v' out' ∧ MFr mb w (w'.setCell ⟨mb, 3, none⟩ v') := by
  have hb' : MB w' mb db s l bad ov := h1.keep hf (fun e => h3.ne h1.block (by decide) e)
  have hfS : Fr (One mb) w' (w'.setCell ⟨mb, 3, none⟩ v') := Fr.setCell _ _ _ _ rfl
  exact ⟨hb'.outs v', ⟨ownsRow_keep ho.own hfS (fun g hg e => ho.ne hb'.block (by decide) (by rw [hg]; exact congrArg some e)), ho.from_⟩, (MS.grow h1 h2 h3 ho hf hv).2⟩
theorem BO.any {w : World} {B : Nat} {sv : Value} {a : Bs} (h : BO w B sv a) : ∃ p n c, sv = .slice p n c := by
  obtain ⟨p, c, e⟩ := h.len
  exact ⟨p, _, c, e⟩
theorem BO.len' {w : World} {B : Nat} {sv : Value} {a b : Bs} (h : BO w B sv (a ++ b)) : ∃ p c, sv = .slice p (a.length + b.length) c := by
  obtain ⟨p, c, e⟩ := h.len
  exact ⟨p, c, by rw [e, List.length_append]⟩

/-- What stands behind a backslash in a text. -/
def rEsc2 (k : Nat) (acc l : Bs) : Option Bs × Bs := match l with
  | [] => (none, [])
  | c :: l' => if c.toNat = 34 ∨ c.toNat = 92 then rQuo k (acc ++ [c]) l' else (none, c :: l')
theorem rQuo_esc {k : Nat} {acc l : Bs} {b : UInt8} (hb : b.toNat = 92) : rQuo (k + 1) acc (b :: l) = rEsc2 k acc l := by
  simp only [rQuo]
  rw [if_neg (by omega), if_pos hb]
  rfl

end Go.Proofs.YtnhkalnihjkoeaaGreatDoor
