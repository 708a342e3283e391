/- Contracts of functions that the law calls, and what they lean on (a part). -/
import Derived.Laws.ResultCell
import Derived.Test.YtliieeagbpmcgaaGreatDoorPv9
import Derived.Test.YtliieeagbpmcgaaGreatDoorPv10
namespace Go.Proofs.YtliieeagbpmcgaaGreatDoor
section
open Go.RowKit
set_option linter.unusedVariables false
set_option maxRecDepth 100000
/-- A box of four cells. -/
def Bx (W : World) (g : Nat) (T : TypeId) (x0 x1 x2 x3 : Value) : Prop := W.heap[g]? = some (.cells #[x0, x1, x2, x3] T (0, 0))
end

section
open Go.RowKit
set_option linter.unusedVariables false
set_option maxRecDepth 100000
/-- A token's box (the second one) with a row of the call's own. -/
structure NS (w wr : World) (h g : Nat) (A : Option Addr) (n c q : Nat) (k : Int) (v : Value) (out : List Int) : Prop where
  lx : LX wr h g A n c q
  ol : Only g w wr
  b0 : Bx wr w.heap.size 166 (.int .i64 0) (.int .i64 0) (.int .i64 0) (.slice none 0 0)
  b1 : Bx wr (w.heap.size + 1) 166 (.int .i64 k) (.int .i64 0) (.int .i64 0) v
  row : Mine wr (w.heap.size + 2) v out.length out
  lh : h < w.heap.size
  lg : g < w.heap.size
end
end Go.Proofs.YtliieeagbpmcgaaGreatDoor
