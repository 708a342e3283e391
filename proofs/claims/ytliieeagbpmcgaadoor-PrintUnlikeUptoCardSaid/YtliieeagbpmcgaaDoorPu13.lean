/- Contracts of functions that the law calls, and what they lean on (a part). -/
import Derived.Test.YtliieeagbpmcgaaDoorProg
import Derived.Outline
import Derived.LoopTactic
import Derived.WalkLawsBesides
import Derived.Deep.DeepFit
import Derived.Test.YtliieeagbpmcgaaDoorPu12
namespace Go.Proofs.YtliieeagbpmcgaaDoor
section
open Go.RowKit
set_option linter.unusedVariables false
theorem ret_intW {k : IntKind} {a b : Int} (h : a = b) : Ending.returned (.int k a) = .returned (.int k b) := by rw [h]
/-- May the number be? -/
def inB (n : Int) : Bool := decide (-214748364799999 ≤ n ∧ n ≤ 214748364799999)
theorem inB_true {n : Int} (h1 : -214748364799999 ≤ n) (h2 : n ≤ 214748364799999) : inB n = true := decide_eq_true ⟨h1, h2⟩
theorem inB_iff (n : Int) : inB n = true ↔ (-214748364799999 ≤ n ∧ n ≤ 214748364799999) := by unfold inB; simp
end
end Go.Proofs.YtliieeagbpmcgaaDoor
