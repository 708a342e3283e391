/- Contracts of functions that the law calls, and what they lean on (a part). -/
import Derived.Deep.Cut
import Derived.Deep.CutBlock
import Derived.Deep.LoopGhost
import Derived.Test.YtliieeagbpmcgaaGreatDoorPv2
import Derived.Test.YtliieeagbpmcgaaGreatDoorPv4
import Derived.Test.YtliieeagbpmcgaaGreatDoorPv5
import Derived.Test.YtliieeagbpmcgaaGreatDoorPv6
import Derived.Test.YtliieeagbpmcgaaGreatDoorPv7
import Derived.Test.YtliieeagbpmcgaaGreatDoorPv8
namespace Go.Proofs.YtliieeagbpmcgaaGreatDoor
section
open Go.RowKit
set_option linter.unusedVariables false
set_option maxRecDepth 100000
/-- The lexer in block h, its cursor in block g, over the slice '.slice A n c', at the place p. -/
structure LX (w : World) (h g : Nat) (A : Option Addr) (n c p : Nat) : Prop where
  lx : w.heap[h]? = some (.cells #[.pointer (some ⟨g, 0, none⟩)] 77 (0, 0))
  cu : Cur w g A n c p
  ne : h ≠ g
  pl : p ≤ n
end
end Go.Proofs.YtliieeagbpmcgaaGreatDoor
