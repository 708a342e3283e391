/- Lemmas. -/
import Derived.Test.YtpomkhcobpihmaaGreatProg
import Derived.Outline
import Derived.LoopTactic
import Derived.WalkLawsBesides
import Derived.Deep.DeepFit
import Derived.Test.YtpomkhcobpihmaaGreatPar19
namespace Go.Proofs.YtpomkhcobpihmaaGreat
section
open Go.RowKit
set_option linter.unusedVariables false
def inB (n:Int):Bool:=decide (-214748364799999 ≤ n ∧ n ≤ 214748364799999)
theorem inB_true {n:Int} (h1:-214748364799999 ≤ n) (h2:n ≤ 214748364799999):inB n = true:=decide_eq_true ⟨h1,h2⟩
theorem inB_iff (n:Int):inB n = true ↔ (-214748364799999 ≤ n ∧ n ≤ 214748364799999):=by unfold inB;simp
end
end Go.Proofs.YtpomkhcobpihmaaGreat
