/- Contracts of functions that the law calls, and what they lean on (a part). -/
import Derived.Deep.MidRow
import Derived.Deep.RegionLaw
import Derived.Test.YtliieeagbpmcgaaDoorPu4
namespace Go.Proofs.YtliieeagbpmcgaaDoor
section
open Go.RowKit
set_option linter.unusedVariables false
set_option maxRecDepth 100000
theorem heap_set (w : World) (g i : Nat) (v : Value) (cs : List Value) (T : TypeId) (h : w.heap[g]? = some (.cells cs.toArray T (0, 0))) : (w.setCell ⟨g, i, none⟩ v).heap[g]? = some (.cells (cs.set i v).toArray T (0, 0)) := by
  simp [World.setCell, Array.getElem?_modify, h]
theorem row_lt (W : World) (g : Nat) (o : Obj) (h : W.heap[g]? = some o) : g < W.heap.size := by
  rcases Nat.lt_or_ge g W.heap.size with hlt | hge
  · exact hlt
  · rw [Array.getElem?_eq_none hge] at h; cases h
end
end Go.Proofs.YtliieeagbpmcgaaDoor
