/- What Since tells. -/
import Derived.Test.YtapblkmlhoalgaaGreatDoorReader
namespace Go.Proofs.YtapblkmlhoalgaaGreatDoor
open Go.RowKit

theorem since_any (b f n : Nat) (s : ByteArray) (w : World) (_hs : s.size ≤ maxLen) (hat : w.cell? ⟨b, 0, none⟩ = some (.int .i64 n)) (hda : w.cell? ⟨b, 1, none⟩ = some (.string s)) (hf : f ≤ n) (hn : n ≤ s.size) :
    Calls Tryz.prog 173 #[.pointer (some ⟨b, 0, none⟩), .int .i64 f] w fun e w' => e = .returned (.string (s.extract f n)) ∧ ∃ k, w' = w.drewN k := by
  unfold maxLen at _hs
  have hnI : ((n : Nat) : Int) ≤ ((s.size : Nat) : Int) := by omega
  have hfI : ((f : Nat) : Int) ≤ ((n : Nat) : Int) := by omega
  go_enter Tryz.func173, Tryz.ntmps173
  go_wp2_with fail
  go_quiet ((go_at_call 55; exact Calls.quiet_of_same (at_any _ _ _ hat)))
  go_wp2_with fail
  go_ret
  exact ⟨rfl, _, rfl⟩

end Go.Proofs.YtapblkmlhoalgaaGreatDoor
