/- Contracts of functions that the law calls, and what they lean on (a part). -/
import Derived.Test.YtliieeagbpmcgaaDoorPu9
import Derived.Test.YtliieeagbpmcgaaDoorPu10
import Derived.Test.YtliieeagbpmcgaaDoorPu24
namespace Go.Proofs.YtliieeagbpmcgaaDoor
section
open Go.RowKit
set_option linter.unusedVariables false
set_option maxRecDepth 100000
theorem all_snoc (zs : List Int) (k : Nat) (hk : k < zs.length) : (zs.take (k + 1)).all txB = ((zs.take k).all txB && txB (zs.getD k 0)) := by
  rw [take_snocZ zs k hk, List.all_append]
  simp
end

section
open Go.RowKit
set_option linter.unusedVariables false
set_option maxRecDepth 100000
theorem nmS_app : ∀ (a b : List Int), nmS (a ++ b) = nmS a ++ nmS b
  | [], _ => rfl
  | c :: cs, b => by rw [List.cons_append, nmS, nmS, nmS_app cs b, List.append_assoc]
theorem nmS_len : ∀ a : List Int, (nmS a).length ≤ 3 * a.length
  | [] => Nat.le_refl _
  | c :: cs => by
    have := nmS_len cs
    rw [nmS, List.length_append, List.length_cons]
    split <;> simp <;> omega
end
end Go.Proofs.YtliieeagbpmcgaaDoor
