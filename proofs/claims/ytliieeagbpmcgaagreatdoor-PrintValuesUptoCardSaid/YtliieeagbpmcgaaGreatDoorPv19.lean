/- Contracts of functions that the law calls, and what they lean on (a part). -/
import Derived.Test.YtliieeagbpmcgaaGreatDoorPv11
import Derived.Test.YtliieeagbpmcgaaGreatDoorPv12
import Derived.Test.YtliieeagbpmcgaaGreatDoorPv18
namespace Go.Proofs.YtliieeagbpmcgaaGreatDoor
section
open Go.RowKit
set_option linter.unusedVariables false
set_option maxRecDepth 100000
/-- A byte that a name holds as it is. -/
def plB (c : Int) : Bool := decide (33 ≤ c) && decide (c ≤ 126) && regB c && !(c == 35)
/-- The bytes of a name, written. -/
def nmS : List Int → List Int
  | [] => []
  | c :: cs => (if plB c = true then [c] else [35, hxD (c / 16), hxD (c % 16)]) ++ nmS cs
/-- A byte that a string holds as it is. -/
def txB (c : Int) : Bool := decide (32 ≤ c) && decide (c ≤ 126) && !(c == 40) && !(c == 41) && !(c == 92)
/-- The bytes of a string, written. -/
def txS (s : List Int) : List Int := if (s.all txB) = true then 40 :: (s ++ [41]) else 60 :: (hxB s ++ [62])
end
end Go.Proofs.YtliieeagbpmcgaaGreatDoor
