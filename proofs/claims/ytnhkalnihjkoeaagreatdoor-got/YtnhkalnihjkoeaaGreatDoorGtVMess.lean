/- The message of a value. -/
import Derived.Test.YtnhkalnihjkoeaaGreatDoorGtVWVal
namespace Go.Proofs.YtnhkalnihjkoeaaGreatDoor
open Go.RowKit

theorem WB.conv {w : World} {wb : Nat} {l : Bs} (h : WB w wb l) (hl : l.length ≤ 1000) : (convert 32 9 (.slice (some ⟨wb, 1, none⟩) l.length 1000)).run Tryz.prog w = .ok (.string (ba l)) w := by
  refine run_convert_bytes_back (P := Tryz.prog) w 32 9 5 ⟨wb, 1, none⟩ 1000 l Tryz.underlying32 Tryz.underlying5 Tryz.underlying9 (fun j hj => ?_)
  obtain ⟨cs, h1, h2, h3, h4⟩ := h.block
  have e : (⟨wb, 1, none⟩ : Addr).add j = ⟨wb, 1 + j, none⟩ := by simp [Addr.add]
  rw [e, cell_of_heap h2, Nat.add_comm]
  exact h4 j l[j] (by omega) (by rw [List.getElem?_eq_getElem hj])

theorem zeroW : Tryz.zeroCells239.size = 1001 := by kernel_rfl
theorem zeroW0 : Tryz.zeroCells239[0]? = some (.int .i64 0) := by kernel_rfl

theorem WB.start (w : World) : WB (w.alloc (.cells Tryz.zeroCells239 239)) w.heap.size [] :=
  ⟨⟨_, zeroW, heap_new_at rfl _, zeroW0, fun j b hj hb => by simp at hb⟩⟩

end Go.Proofs.YtnhkalnihjkoeaaGreatDoor
