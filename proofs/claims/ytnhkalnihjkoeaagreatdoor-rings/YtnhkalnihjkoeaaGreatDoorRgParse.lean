/- What description does. What Parse tells of a text. -/
import Derived.Test.YtnhkalnihjkoeaaGreatDoorRgParts
namespace Go.Proofs.YtnhkalnihjkoeaaGreatDoor
open Go.RowKit

end Go.Proofs.YtnhkalnihjkoeaaGreatDoor

namespace Go.Proofs.YtnhkalnihjkoeaaGreatDoor
open Go.RowKit

theorem PS.start (w : World) (s : ByteArray) : PS (w.alloc (.cells #[.int .i64 0, .string s, .slice none 0 0, .pointer none, .pointer none] 216)) (XO (One w.heap.size) (.slice none 0 0)) w.heap.size s 0 (.slice none 0 0) [] none none :=
  ⟨.pointer none, .pointer none, [], heap_new_at rfl _, World.ownsRow_nil _ _ _ _, fun g hg => by simp [Value.ownBlock] at hg, ⟨rfl, fun j p q hp => by simp at hp⟩, rfl, rfl⟩

theorem Words.one {w : World} (h : Words w) : 4 < w.heap.size := (World.block_lt_of_cell? w _ (h 0 (by omega)) : 4 < w.heap.size)

end Go.Proofs.YtnhkalnihjkoeaaGreatDoor
