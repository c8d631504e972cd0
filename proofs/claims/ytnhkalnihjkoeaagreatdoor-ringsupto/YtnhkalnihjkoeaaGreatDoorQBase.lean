/- What a call keeps of memory; rows that grow. -/
import Derived.Test.YtnhkalnihjkoeaaGreatDoorProg
import Derived.WalkKit
import Derived.WalkSpells
import Derived.Deep.QuietTactic
import Derived.BigQuiet
import Derived.ArgAppend
import Derived.Deep.RegionLaw
import Derived.Deep.RegionHeld3
import Derived.Lib.UnsafeStr
import Derived.Laws.IdiomStrings
import Derived.Laws.BytesArg
import Derived.Deep.AppendSrc
import Derived.RegionTactic

import Derived.Test.YtnhkalnihjkoeaaGreatDoorVOne
import Derived.Test.YtnhkalnihjkoeaaGreatDoorVOut
import Derived.Test.YtnhkalnihjkoeaaGreatDoorVMem
import Derived.Test.YtnhkalnihjkoeaaGreatDoorVReg
import Derived.Test.YtnhkalnihjkoeaaGreatDoorParts
import Derived.Test.YtnhkalnihjkoeaaGreatDoorWordType

namespace Go.Proofs.YtnhkalnihjkoeaaGreatDoor.Q
open Go.RowKit
























































































































end Go.Proofs.YtnhkalnihjkoeaaGreatDoor.Q
