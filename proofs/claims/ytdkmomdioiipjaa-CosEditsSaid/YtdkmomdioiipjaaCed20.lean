/- Contracts of functions that the law calls, and what they lean on (a part). -/
import Derived.Laws.BytesArg
import Derived.Test.YtdkmomdioiipjaaCed17
import Derived.Test.YtdkmomdioiipjaaCed18
import Derived.Test.YtdkmomdioiipjaaCed19
namespace Go.Proofs.Ytdkmomdioiipjaa
section
open Go.ChangeShapes Go.WideShapes Go.ChangeAt Go.RowKit Go.Deep
set_option linter.unusedVariables false
set_option maxRecDepth 100000
theorem same_yes (x : Ob) (w : World) {a0 a1 a2 a3 a4 b0 b1 b2 b3 b4 : Value} (ha : ObR w (oldT w) x a0 a1 a2 a3 a4) (hb : ObR w (oldT w) x b0 b1 b2 b3 b4) : Calls Try.prog 34 #[.agg #[a0, a1, a2, a3, a4], .agg #[b0, b1, b2, b3, b4]] w fun r w' => r = .returned (.bool true) ∧ Below w.heap.size w w' := by
  have h := sameOC _ x (Nat.le_refl _) x (oldT w) w _ _ _ _ _ _ _ _ _ _ ha hb (fun g hg => hg)
  rw [sameO_self] at h
  exact h
end
end Go.Proofs.Ytdkmomdioiipjaa
