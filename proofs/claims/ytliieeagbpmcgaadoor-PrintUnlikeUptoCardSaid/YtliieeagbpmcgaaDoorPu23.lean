/- Contracts of functions that the law calls, and what they lean on (a part). -/
import Derived.Deep.QuietTactic
import Derived.BigQuiet
import Derived.WalkSpells
import Derived.Deep.Cut
import Derived.Deep.CutBlock
import Derived.Deep.LoopGhost
import Derived.StillTailTactics
import Derived.Laws.ResultCell
import Derived.Test.YtliieeagbpmcgaaDoorPu5
import Derived.Test.YtliieeagbpmcgaaDoorPu6
import Derived.Test.YtliieeagbpmcgaaDoorPu14
namespace Go.Proofs.YtliieeagbpmcgaaDoor
section
open Go.RowKit
set_option linter.unusedVariables false
set_option maxRecDepth 100000
/-- Behind what is blank stands s, and no regular sign behind it. -/
def kwB (zs : List Int) (p : Nat) (s : ByteArray) : Bool := stB zs (blkP zs p) s && !(regB (peekZ zs ((blkP zs p : Int) + (s.size : Int))))
/-- Where one stands behind a word asked for. -/
def kwP (zs : List Int) (p : Nat) (s : ByteArray) : Nat := if kwB zs p s = true then blkP zs p + s.size else p
end
end Go.Proofs.YtliieeagbpmcgaaDoor
