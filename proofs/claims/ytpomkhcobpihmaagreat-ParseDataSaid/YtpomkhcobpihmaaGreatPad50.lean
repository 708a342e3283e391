/- Lemmas. -/
import Derived.Test.YtpomkhcobpihmaaGreatPad37
import Derived.Test.YtpomkhcobpihmaaGreatPad39
namespace Go.Proofs.YtpomkhcobpihmaaGreat
section
open Go.RowKit Go.Sort
set_option linter.unusedVariables false
set_option maxRecDepth 100000
abbrev sB:ByteArray:=⟨#[66]⟩
end
end Go.Proofs.YtpomkhcobpihmaaGreat
