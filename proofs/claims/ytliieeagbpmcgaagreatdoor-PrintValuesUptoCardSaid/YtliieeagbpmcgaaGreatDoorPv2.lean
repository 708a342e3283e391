/- Contracts of functions that the law calls, and what they lean on (a part). -/
import Derived.Outline
import Derived.LoopTactic
import Derived.WalkLawsBesides
import Derived.Test.YtliieeagbpmcgaaGreatDoorPv1
namespace Go.Proofs.YtliieeagbpmcgaaGreatDoor
section
open Go.RowKit
set_option linter.unusedVariables false
/-- A delimiter. -/
def delB (c : Int) : Bool := c == 40 || c == 41 || c == 60 || c == 62 || c == 91 || c == 93 || c == 123 || c == 125 || c == 47 || c == 37
/-- A regular sign. -/
def regB (c : Int) : Bool := !delB c && (decide (0 ≤ c) && decide (c ≤ 255) && !whB c)
theorem del_or (c : Int) : delB c = true → c = 40 ∨ c = 41 ∨ c = 60 ∨ c = 62 ∨ c = 91 ∨ c = 93 ∨ c = 123 ∨ c = 125 ∨ c = 47 ∨ c = 37 := by
  unfold delB; simp; omega
theorem del_nor (c : Int) : delB c = false → (c == 40) = false ∧ (c == 41) = false ∧ (c == 60) = false ∧ (c == 62) = false ∧ (c == 91) = false ∧ (c == 93) = false ∧ (c == 123) = false ∧ (c == 125) = false ∧ (c == 47) = false ∧ (c == 37) = false := by
  unfold delB; simp; omega
end
end Go.Proofs.YtliieeagbpmcgaaGreatDoor
