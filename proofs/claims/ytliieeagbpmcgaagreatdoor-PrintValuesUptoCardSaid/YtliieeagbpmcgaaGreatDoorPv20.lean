/- Contracts of functions that the law calls, and what they lean on (a part). -/
import Derived.Deep.Cut
import Derived.Deep.CutBlock
import Derived.Deep.LoopGhost
import Derived.Test.YtliieeagbpmcgaaGreatDoorPv2
import Derived.Test.YtliieeagbpmcgaaGreatDoorPv5
import Derived.Test.YtliieeagbpmcgaaGreatDoorPv6
import Derived.Test.YtliieeagbpmcgaaGreatDoorPv10
namespace Go.Proofs.YtliieeagbpmcgaaGreatDoor
section
open Go.RowKit
set_option linter.unusedVariables false
set_option maxRecDepth 100000
theorem rregC (c : Int) (w : World) : Calls Tryz.prog 58 #[.int .i64 c] w fun e w' => e = .returned (.bool (regB c)) ∧ w = w' := by
  have HWH := Lib.hid (fun W => rwhite c W)
  by_cases h1 : c < 0
  · have e : regB c = false := by unfold regB; simp; omega
    rw [e]
    clear e
    go_enter Tryz.func58, Tryz.ntmps58
    go_wp2_with fail
    go_ret
    exact ⟨rfl, rfl⟩
  · have e1 : decide (c < 0) = false := decide_eq_false h1
    by_cases h2 : c > 255
    · have e : regB c = false := by unfold regB; simp; omega
      have e3 : decide (c > 255) = true := decide_eq_true h2
      rw [e]
      clear e
      go_enter Tryz.func58, Tryz.ntmps58
      go_wp2_with fail
      go_ret
      exact ⟨rfl, rfl⟩
    · have e2 : decide (c > 255) = false := decide_eq_false h2
      have e2' : decide (255 < c) = false := decide_eq_false (by omega)
      rcases hw : whB c with _ | _
      · rw [hw] at HWH
        rcases hd : delB c with _ | _
        · have e : regB c = true := by unfold regB; rw [hd, hw]; simp; omega
          obtain ⟨d1, d2, d3, d4, d5, d6, d7, d8, d9, d10⟩ := del_nor c hd
          rw [e]
          clear e hd hw
          go_enter Tryz.func58, Tryz.ntmps58
          go_wp2_with (go_at_call 79; refine (HWH.out _).mono ?_; (rintro e w7 ⟨rfl, rfl⟩); dsimp only)
          go_ret
          exact ⟨rfl, rfl⟩
        · clear h1 h2 e1 e2 e2' hw
          rcases del_or c hd with rfl | rfl | rfl | rfl | rfl | rfl | rfl | rfl | rfl | rfl <;> (clear hd; go_enter Tryz.func58, Tryz.ntmps58; go_wp2_with (go_at_call 79; refine (HWH.out _).mono ?_; (rintro e w7 ⟨rfl, rfl⟩); dsimp only); go_ret; exact ⟨rfl, rfl⟩)
      · have e : regB c = false := by unfold regB; rw [hw]; simp
        rw [hw] at HWH
        rw [e]
        clear e hw
        go_enter Tryz.func58, Tryz.ntmps58
        go_wp2_with (go_at_call 79; refine (HWH.out _).mono ?_; (rintro e w7 ⟨rfl, rfl⟩); dsimp only)
        go_ret
        exact ⟨rfl, rfl⟩
end
end Go.Proofs.YtliieeagbpmcgaaGreatDoor
