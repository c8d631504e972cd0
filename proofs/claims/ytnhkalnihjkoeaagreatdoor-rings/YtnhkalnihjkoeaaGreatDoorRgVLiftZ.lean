/- What the listed variables give, on the seat of values. -/
import Derived.Test.YtnhkalnihjkoeaaGreatDoorRows
import Derived.ProofKit
import Derived.LaidMore
import Derived.OpenShut
import Derived.LaidLaws
import Derived.LaidHandle
import Derived.LaidSub
import Derived.Lay
import Derived.Leaving
import Derived.Conc.Holds
import Derived.SizedLaws
import Derived.Lib.LaidTab
import Derived.Stop.Joined
import Derived.Test.YtnhkalnihjkoeaaGreatDoorRgVInt
import Derived.Test.YtnhkalnihjkoeaaGreatDoorRgCheck
namespace Go.Proofs.YtnhkalnihjkoeaaGreatDoor
open Go.ChangeShapes Go.WideShapes Go.ChangeAt Go.WideMaps Go.WideElems Go.RowKit
open Go.ChangeMaps (open_string shut_string)

theorem lOwn : ownKnob Tryz.prog.godebug = none := by kernel_rfl
/-- The rows' list of variables. -/
def laidL : List (String × DataW Unit) := [("math/bits.deBruijn32tab", Rows.laid_math_bits_deBruijn32tab), ("math/bits.deBruijn64tab", Rows.laid_math_bits_deBruijn64tab), ("internal/strconv.uint64pow10", Rows.laid_internal_strconv_uint64pow10), ("unicode/utf8.acceptRanges", Rows.laid_unicode_utf8_acceptRanges), ("errors.errorType", Rows.laid_errors_errorType), ("sluice/describe.words", Rows.laid_sluice_describe_words), ("unicode/utf8.first", Rows.laid_unicode_utf8_first)]

/-- The start that fits: the door's run, and the tables laid. -/
def greatL : List String := ["math/bits.deBruijn32tab", "math/bits.deBruijn64tab", "internal/strconv.uint64pow10", "unicode/utf8.acceptRanges", "sluice/describe.words", "unicode/utf8.first"]
noncomputable def witW (os : Os) : World := (World.doorLaid Tryz.prog 400 os).layVars Tryz.prog ((laidL.filter fun x => x.2.handleName?.isNone).filter fun x => greatL.contains x.1)

theorem wit_heap (args : Array Value) (w : World) : (w.forCall (fun _ _ => 0) ⟨#[], args, []⟩).memory.heap = w.heap := rfl

set_option maxRecDepth 100000 in
theorem wit_met (os : Os) (args : Array Value) : laidMetH Tryz.prog laidL ((witW os).forCall (fun _ _ => 0) ⟨#[], args, []⟩).memory :=
  laidMetH_of_parts (laidMet_layVars (w0 := World.doorLaid Tryz.prog 400 os) greatL [] (wit_heap args (witW os)) (by kernel_rfl) (by kernel_rfl) (by
    rw [show ((laidL.filter fun x => x.2.handleName?.isNone).filter fun x => !greatL.contains x.1) = [] by kernel_rfl]
    exact LaidIn.none)) (by kernel_rfl)

theorem leaving_of_handed {a : Assume} {C : Checked} {os : Os} {f : FuncId} {r : Reach} {Pre : World → Array Value → Prop} {Post : World → Array Value → Value → World → Prop}
    (h : ReturnsInHanded a C os f r Pre Post) : ReturnsInLeavingWide a C os f r Pre Post := fun e =>
  ReturnsInOpen.mono (fun _ _ _ x => ⟨x.2.1, onlyLeaving_of_quiet x.1, x.2.2⟩) (fun _ x => x) (h e)

end Go.Proofs.YtnhkalnihjkoeaaGreatDoor
