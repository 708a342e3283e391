/- Contracts of functions that the law calls, and what they lean on (a part). -/
import Derived.Laws.Concat
import Derived.Lib.IndexBytes
import Derived.Deep.DeepFit
import Derived.Test.YtpomkhcobpihmaaBla2
import Derived.Test.YtpomkhcobpihmaaBla16
namespace Go.Proofs.Ytpomkhcobpihmaa
section
open Go.RowKit
set_option linter.unusedVariables false
set_option maxRecDepth 100000
theorem row_app (K : Int → Bool) : ∀ (l r : List Int), (∀ z ∈ l, K z = true) → rowZ K (l ++ r) = l.length + rowZ K r
  | [], r, _ => by simp
  | c :: cs, r, h => by
    rw [List.cons_append, rowZ, if_pos (h c List.mem_cons_self), row_app K cs r (fun z hz => h z (List.mem_cons_of_mem _ hz))]
    simp; omega
end
end Go.Proofs.Ytpomkhcobpihmaa
