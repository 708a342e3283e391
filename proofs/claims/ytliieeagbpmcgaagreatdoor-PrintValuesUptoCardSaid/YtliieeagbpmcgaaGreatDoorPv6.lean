/- Contracts of functions that the law calls, and what they lean on (a part). -/
import Derived.Outline
import Derived.Deep.QuietTactic
import Derived.BigQuiet
import Derived.WalkSpells
import Derived.Test.YtliieeagbpmcgaaGreatDoorPv1
namespace Go.Proofs.YtliieeagbpmcgaaGreatDoor
section
open Go.RowKit
set_option linter.unusedVariables false
set_option maxRecDepth 100000
theorem wh_or (c : Int) : whB c = true → c = 0 ∨ c = 9 ∨ c = 10 ∨ c = 12 ∨ c = 13 ∨ c = 32 := by
  unfold whB; simp; omega
theorem wh_nor (c : Int) : whB c = false → ((c : Int) == 0) = false ∧ (c == 9) = false ∧ (c == 10) = false ∧ (c == 12) = false ∧ (c == 13) = false ∧ (c == 32) = false := by
  unfold whB; simp; omega
theorem rwhite (c : Int) (w : World) :
    Calls Tryz.prog 79 #[.int .i64 c] w fun e w' => e = .returned (.bool (whB c)) ∧ w = w' := by
  rcases hb : whB c with _ | _
  · obtain ⟨h1, h2, h3, h4, h5, h6⟩ := wh_nor c hb
    clear hb
    go_enter Tryz.func79, Tryz.ntmps79
    go_wp2
    go_ret
    exact ⟨rfl, rfl⟩
  · rcases wh_or c hb with rfl | rfl | rfl | rfl | rfl | rfl
    all_goals
      clear hb
      go_enter Tryz.func79, Tryz.ntmps79
      go_wp2
      go_ret
      exact ⟨rfl, rfl⟩
end
end Go.Proofs.YtliieeagbpmcgaaGreatDoor
