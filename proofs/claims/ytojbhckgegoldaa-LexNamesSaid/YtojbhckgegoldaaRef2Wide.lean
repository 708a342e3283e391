/- What the document's own 'wide' answers: a times b, divided by c, cut; or that it is too great. -/
import Derived.Test.YtojbhckgegoldaaProg
import Derived.Test.YtojbhckgegoldaaRef2WideMath
import Derived.Outline
import Derived.LoopTactic
import Derived.WalkLawsBesides
namespace Go.Proofs.Ytojbhckgegoldaa
open Go.RowKit
set_option linter.unusedVariables false

theorem ret_pairW {a b c d : Value} (h1 : a = b) (h2 : c = d) : Ending.returned (.tuple #[a, c]) = .returned (.tuple #[b, d]) := by rw [h1, h2]
/-- The quotient of N by c, or that it is too great. -/
def WideOut (N c : Nat) (w : World) (e : Ending) (w' : World) : Prop :=
  (N / c < 18446744073709551616 ∧ e = .returned (.tuple #[.int .u64 ((N / c : Nat) : Int), .bool true]) ∧ w = w') ∨ (18446744073709551616 ≤ N / c ∧ e = .returned (.tuple #[.int .u64 0, .bool false]) ∧ w = w')

end Go.Proofs.Ytojbhckgegoldaa
