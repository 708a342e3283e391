/- Contracts of functions that the law calls, and what they lean on (a part). -/
import Derived.Outline
import Derived.Deep.QuietTactic
import Derived.BigQuiet
import Derived.WalkSpells
import Derived.Test.YtpomkhcobpihmaaBla1
namespace Go.Proofs.Ytpomkhcobpihmaa
section
open Go.RowKit
set_option linter.unusedVariables false
set_option maxRecDepth 100000
theorem wh_or (c : Int) : whB c = true → c = 0 ∨ c = 9 ∨ c = 10 ∨ c = 12 ∨ c = 13 ∨ c = 32 := by
  unfold whB; simp; omega
theorem wh_nor (c : Int) : whB c = false → ((c : Int) == 0) = false ∧ (c == 9) = false ∧ (c == 10) = false ∧ (c == 12) = false ∧ (c == 13) = false ∧ (c == 32) = false := by
  unfold whB; simp; omega
theorem pwhite (c : Int) (w : World) :
    Calls Try.prog 86 #[.int .i64 c] w fun e w' => e = .returned (.bool (whB c)) ∧ w = w' := by
  rcases hb : whB c with _ | _
  · obtain ⟨h1, h2, h3, h4, h5, h6⟩ := wh_nor c hb
    clear hb
    go_enter Try.func86, Try.ntmps86
    go_wp2
    go_ret
    exact ⟨rfl, rfl⟩
  · rcases wh_or c hb with rfl | rfl | rfl | rfl | rfl | rfl
    all_goals
      clear hb
      go_enter Try.func86, Try.ntmps86
      go_wp2
      go_ret
      exact ⟨rfl, rfl⟩
theorem dg_cases (c : Int) : (48 ≤ c ∧ c ≤ 57 ∧ dgZ c = c - 48) ∨ (97 ≤ c ∧ c ≤ 102 ∧ dgZ c = c - 97 + 10) ∨ (65 ≤ c ∧ c ≤ 70 ∧ dgZ c = c - 65 + 10) ∨ (dgZ c = -1 ∧ (c < 48 ∨ (57 < c ∧ c < 65) ∨ (70 < c ∧ c < 97) ∨ 102 < c)) := by
  unfold dgZ
  split
  · omega
  · split
    · omega
    · split <;> omega
theorem pdigit (c : Int) (w : World) :
    Calls Try.prog 128 #[.int .i64 c] w fun e w' => e = .returned (.int .i64 (dgZ c)) ∧ w = w' := by
  rcases dg_cases c with ⟨h1, h2, e⟩ | ⟨h1, h2, e⟩ | ⟨h1, h2, e⟩ | ⟨e, h1 | ⟨h1, h2⟩ | ⟨h1, h2⟩ | h1⟩
  all_goals
    have E := Lib.hid e
    clear e
    go_enter Try.func128, Try.ntmps128
    go_wp2
    go_ret
    exact ⟨ret_int (by rw [E.out]), rfl⟩
end
end Go.Proofs.Ytpomkhcobpihmaa
