/- Contracts of functions that the law calls, and what they lean on (a part). -/
import Derived.Laws.Concat
import Derived.Lib.IndexBytes
import Derived.Deep.DeepFit
import Derived.Test.YtpomkhcobpihmaaBla2
namespace Go.Proofs.Ytpomkhcobpihmaa
section
open Go.RowKit
set_option linter.unusedVariables false
abbrev tripV (x : Int × Bool × Int) : Value := .tuple #[.int .i64 x.1, .bool x.2.1, .int .i64 x.2.2]
end
end Go.Proofs.Ytpomkhcobpihmaa
