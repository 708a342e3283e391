/- What the project's fixed answers, in the form that chapter 2's laws ask of it: fxParse, fxText, fxIn, fxMul, fxDiv, fxAdd. -/
import Derived.Test.YtlpehpajfinjkaaDoorFxParse
import Derived.Test.YtlpehpajfinjkaaDoorFxFmt
import Derived.Test.YtlpehpajfinjkaaDoorFxReck
namespace Go.Proofs.YtlpehpajfinjkaaDoor
end Go.Proofs.YtlpehpajfinjkaaDoor
