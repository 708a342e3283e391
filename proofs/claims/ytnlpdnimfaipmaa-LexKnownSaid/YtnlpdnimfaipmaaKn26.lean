/- Contracts of functions that the law calls, and what they lean on (a part). -/
import Derived.Lib.ConvBytes
import Derived.Laws.AppendOwn
import Derived.Test.YtnlpdnimfaipmaaKn22
import Derived.Test.YtnlpdnimfaipmaaKn25
namespace Go.Proofs.Ytnlpdnimfaipmaa
section
open Go.RowKit
set_option linter.unusedVariables false
set_option maxRecDepth 100000
theorem own_slice {w : World} {base e size n : Nat} {v : Value} {cs : List Value} (h : w.ownsRow base e size v n cs) : ∃ A c, v = .slice A n c := by
  obtain ⟨A, c, e, _⟩ := row_shapeN h
  exact ⟨A, c, e⟩
end
end Go.Proofs.Ytnlpdnimfaipmaa
