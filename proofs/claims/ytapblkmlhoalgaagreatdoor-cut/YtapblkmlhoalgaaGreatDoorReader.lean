/- What the calls of a row's reader do to the two cells of a reader in memory: the place and the bytes. -/
import Derived.Test.YtapblkmlhoalgaaGreatDoorProg
import Derived.WalkKit
import Derived.WalkSpells
import Derived.Deep.QuietTactic
import Derived.BigQuiet
namespace Go.Proofs.YtapblkmlhoalgaaGreatDoor
open Go.RowKit

theorem hide {p : Prop} (h : p) : Hid p := h
theorem drawn_two {w w1 : World} {a b : Addr} {x y : Value} (hw : ∃ k, w1 = w.drewN k) (ha : w.cell? a = some x) (hb : w.cell? b = some y) : w1.cell? a = some x ∧ w1.cell? b = some y := by
  obtain ⟨k, rfl⟩ := hw
  exact ⟨ha, hb⟩
theorem drawn_frozen {w w1 : World} {a : Addr} {x : Bool} (hw : ∃ k, w1 = w.drewN k) (ha : w.frozen? a = x) : w1.frozen? a = x := by
  obtain ⟨k, rfl⟩ := hw
  exact ha
theorem drawn_more {w w1 : World} (hw : Hid (∃ k, w1 = w.drewN k)) (m : Nat) : ∃ k, w1.drewN m = w.drewN k := by
  obtain ⟨k, rfl⟩ := hw
  exact ⟨k + m, by simp⟩
theorem step_more {w w1 w2 : World} {a : Addr} {v u : Value} (hw : Hid (∃ k, w1 = w.drewN k)) (h2 : Hid (w2 = w1.setCell a v)) (e : v = u := by rfl) : ∃ k, w2 = (w.drewN k).setCell a u := by
  obtain ⟨k, rfl⟩ := hw
  exact ⟨k, e ▸ h2⟩

theorem at_any (b : Nat) (n : Int) (w : World) (hat : w.cell? ⟨b, 0, none⟩ = some (.int .i64 n)) :
    Calls Tryz.prog 55 #[.pointer (some ⟨b, 0, none⟩)] w fun e w' => e = .returned (.int .i64 n) ∧ w' = w := by
  go_enter Tryz.func55, Tryz.ntmps55
  go_wp2
  go_ret
  exact ⟨rfl, rfl⟩

theorem step_any (b : Nat) (n k : Int) (w : World) (hat : w.cell? ⟨b, 0, none⟩ = some (.int .i64 n)) (hfz : w.frozen? ⟨b, 0, none⟩ = false)
    (h0 : 0 ≤ n + k) (h1 : n + k ≤ 9223372036854775807) :
    Calls Tryz.prog 175 #[.pointer (some ⟨b, 0, none⟩), .int .i64 k] w fun e w' => e = .returned (.tuple #[]) ∧ w' = w.setCell ⟨b, 0, none⟩ (.int .i64 (n + k)) := by
  go_enter Tryz.func175, Tryz.ntmps175
  go_wp2
  go_end0
  exact ⟨rfl, rfl⟩

theorem ended_no (b n : Nat) (s : ByteArray) (w : World) (_hs : s.size ≤ maxLen) (hat : w.cell? ⟨b, 0, none⟩ = some (.int .i64 n)) (hda : w.cell? ⟨b, 1, none⟩ = some (.string s)) (hn : n < s.size) :
    Calls Tryz.prog 54 #[.pointer (some ⟨b, 0, none⟩)] w fun e w' => e = .returned (.bool false) ∧ ∃ k, w' = w.drewN k := by
  unfold maxLen at _hs
  have hq : (((n : Nat) : Int) == ((s.size : Nat) : Int)) = false := beq_eq_false_iff_ne.2 (by omega)
  go_enter Tryz.func54, Tryz.ntmps54
  go_wp2_with fail
  go_quiet ((go_at_call 55; exact Calls.quiet_of_same (at_any _ _ _ hat)))
  go_wp2_with fail
  go_ret
  exact ⟨rfl, _, rfl⟩

theorem ended_yes (b n : Nat) (s : ByteArray) (w : World) (_hs : s.size ≤ maxLen) (hat : w.cell? ⟨b, 0, none⟩ = some (.int .i64 n)) (hda : w.cell? ⟨b, 1, none⟩ = some (.string s)) (hn : n = s.size) :
    Calls Tryz.prog 54 #[.pointer (some ⟨b, 0, none⟩)] w fun e w' => e = .returned (.bool true) ∧ ∃ k, w' = w.drewN k := by
  unfold maxLen at _hs
  subst hn
  go_enter Tryz.func54, Tryz.ntmps54
  go_wp2_with fail
  go_quiet ((go_at_call 55; exact Calls.quiet_of_same (at_any _ _ _ hat)))
  go_wp2_with fail
  go_ret
  exact ⟨rfl, _, rfl⟩

theorem peek_no (b n : Nat) (s : ByteArray) (w : World) (hs : s.size ≤ maxLen) (hat : w.cell? ⟨b, 0, none⟩ = some (.int .i64 n)) (hda : w.cell? ⟨b, 1, none⟩ = some (.string s)) (hn : n = s.size) :
    Calls Tryz.prog 171 #[.pointer (some ⟨b, 0, none⟩)] w fun e w' => e = .returned (.tuple #[.int .u8 0, .bool false]) ∧ ∃ k, w' = w.drewN k := by
  go_enter Tryz.func171, Tryz.ntmps171
  go_wp2_with fail
  refine (ended_yes b n s _ hs hat hda hn).mono ?_
  rintro e w1 ⟨rfl, k, rfl⟩
  go_wp2_with fail
  go_ret2
  exact ⟨rfl, _, rfl⟩

theorem peek_yes (b n : Nat) (s : ByteArray) (w : World) (hs : s.size ≤ maxLen) (hat : w.cell? ⟨b, 0, none⟩ = some (.int .i64 n)) (hda : w.cell? ⟨b, 1, none⟩ = some (.string s)) (hn : n < s.size) :
    Calls Tryz.prog 171 #[.pointer (some ⟨b, 0, none⟩)] w fun e w' => e = .returned (.tuple #[.int .u8 (s[n].toNat), .bool true]) ∧ ∃ k, w' = w.drewN k := by
  have hs' := hs
  unfold maxLen at hs'
  have hnI : ((n : Nat) : Int) < ((s.size : Nat) : Int) := by omega
  go_enter Tryz.func171, Tryz.ntmps171
  go_wp2_with fail
  refine (ended_no b n s _ hs hat hda hn).mono ?_
  rintro e w1 ⟨rfl, hw⟩
  obtain ⟨hat1, hda1⟩ := drawn_two hw hat hda
  have HW := hide hw
  clear hw hat hda
  go_wp2_with fail
  go_quiet ((go_at_call 55; exact Calls.quiet_of_same (at_any _ _ _ hat1)))
  go_wp2_with fail
  go_ret2
  exact ⟨rfl, drawn_more HW _⟩

theorem acceptIn_no (b n : Nat) (s : ByteArray) (lo hi : Int) (w : World) (hs : s.size ≤ maxLen) (hat : w.cell? ⟨b, 0, none⟩ = some (.int .i64 n)) (hda : w.cell? ⟨b, 1, none⟩ = some (.string s)) (hle : n ≤ s.size)
    (hno : ∀ h : n < s.size, (s[n].toNat : Int) < lo ∨ hi < (s[n].toNat : Int)) :
    Calls Tryz.prog 179 #[.pointer (some ⟨b, 0, none⟩), .int .u8 lo, .int .u8 hi] w fun e w' => e = .returned (.tuple #[.int .u8 0, .bool false]) ∧ ∃ k, w' = w.drewN k := by
  by_cases hn : n < s.size
  · have hc := hno hn
    clear hno
    by_cases h1 : (s[n].toNat : Int) < lo
    · go_enter Tryz.func179, Tryz.ntmps179
      go_wp2_with fail
      refine (peek_yes b n s _ hs hat hda hn).mono ?_
      rintro e w1 ⟨rfl, hw⟩
      have HW := hide hw
      clear hw
      go_wp2_with fail
      go_ret2
      exact ⟨rfl, HW⟩
    · have h2 : hi < (s[n].toNat : Int) := by omega
      go_enter Tryz.func179, Tryz.ntmps179
      go_wp2_with fail
      refine (peek_yes b n s _ hs hat hda hn).mono ?_
      rintro e w1 ⟨rfl, hw⟩
      have HW := hide hw
      clear hw
      go_wp2_with fail
      go_ret2
      exact ⟨rfl, HW⟩
  · clear hno
    go_enter Tryz.func179, Tryz.ntmps179
    go_wp2_with fail
    refine (peek_no b n s _ hs hat hda (by omega)).mono ?_
    rintro e w1 ⟨rfl, hw⟩
    have HW := hide hw
    clear hw
    go_wp2_with fail
    go_ret2
    exact ⟨rfl, HW⟩

theorem acceptIn_yes (b n : Nat) (s : ByteArray) (lo hi : Int) (w : World) (hs : s.size ≤ maxLen) (hat : w.cell? ⟨b, 0, none⟩ = some (.int .i64 n)) (hfz : w.frozen? ⟨b, 0, none⟩ = false) (hda : w.cell? ⟨b, 1, none⟩ = some (.string s)) (hn : n < s.size)
    (h1 : lo ≤ (s[n].toNat : Int)) (h2 : (s[n].toNat : Int) ≤ hi) :
    Calls Tryz.prog 179 #[.pointer (some ⟨b, 0, none⟩), .int .u8 lo, .int .u8 hi] w fun e w' => e = .returned (.tuple #[.int .u8 (s[n].toNat), .bool true]) ∧ ∃ k, w' = (w.drewN k).setCell ⟨b, 0, none⟩ (.int .i64 ((n + 1 : Nat) : Int)) := by
  have hs' := hs
  unfold maxLen at hs'
  go_enter Tryz.func179, Tryz.ntmps179
  go_wp2_with fail
  refine (peek_yes b n s _ hs hat hda hn).mono ?_
  rintro e w1 ⟨rfl, hw⟩
  obtain ⟨hat1, hda1⟩ := drawn_two hw hat hda
  have hfz1 := drawn_frozen hw hfz
  have HW := hide hw
  clear hw hat hda hfz
  go_wp2_with fail
  refine (step_any b n 1 _ hat1 hfz1 (by omega) (by omega)).mono ?_
  rintro e w2 ⟨rfl, hw2⟩
  have HW2 := hide hw2
  clear hw2
  go_wp2_with fail
  go_ret2
  exact ⟨rfl, step_more HW HW2⟩

theorem accept_no (b n : Nat) (s : ByteArray) (c : Int) (w : World) (hs : s.size ≤ maxLen) (hat : w.cell? ⟨b, 0, none⟩ = some (.int .i64 n)) (hda : w.cell? ⟨b, 1, none⟩ = some (.string s)) (hle : n ≤ s.size)
    (hno : ∀ h : n < s.size, (s[n].toNat : Int) ≠ c) :
    Calls Tryz.prog 165 #[.pointer (some ⟨b, 0, none⟩), .int .u8 c] w fun e w' => e = .returned (.bool false) ∧ ∃ k, w' = w.drewN k := by
  have hno' : Hid (∀ h : n < s.size, (s[n].toNat : Int) < c ∨ c < (s[n].toNat : Int)) := fun h => by have := hno h; omega
  clear hno
  go_enter Tryz.func165, Tryz.ntmps165
  go_wp2_with fail
  refine (acceptIn_no b n s c c _ hs hat hda hle hno').mono ?_
  rintro e w1 ⟨rfl, hw⟩
  have HW := hide hw
  clear hw
  go_wp2_with fail
  go_ret
  exact ⟨rfl, HW⟩

theorem accept_yes (b n : Nat) (s : ByteArray) (c : Int) (w : World) (hs : s.size ≤ maxLen) (hat : w.cell? ⟨b, 0, none⟩ = some (.int .i64 n)) (hfz : w.frozen? ⟨b, 0, none⟩ = false) (hda : w.cell? ⟨b, 1, none⟩ = some (.string s)) (hn : n < s.size)
    (h1 : (s[n].toNat : Int) = c) :
    Calls Tryz.prog 165 #[.pointer (some ⟨b, 0, none⟩), .int .u8 c] w fun e w' => e = .returned (.bool true) ∧ ∃ k, w' = (w.drewN k).setCell ⟨b, 0, none⟩ (.int .i64 ((n + 1 : Nat) : Int)) := by
  have hl : c ≤ (s[n].toNat : Int) := by omega
  have hh : (s[n].toNat : Int) ≤ c := by omega
  clear h1
  go_enter Tryz.func165, Tryz.ntmps165
  go_wp2_with fail
  refine (acceptIn_yes b n s c c _ hs hat hfz hda hn hl hh).mono ?_
  rintro e w1 ⟨rfl, hw⟩
  have HW := hide hw
  clear hw
  go_wp2_with fail
  go_ret
  exact ⟨rfl, HW⟩

end Go.Proofs.YtapblkmlhoalgaaGreatDoor
