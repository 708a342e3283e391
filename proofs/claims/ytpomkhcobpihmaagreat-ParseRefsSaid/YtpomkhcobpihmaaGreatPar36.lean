/- Lemmas. -/
import Derived.Test.YtpomkhcobpihmaaGreatPar24
import Derived.Test.YtpomkhcobpihmaaGreatPar35
namespace Go.Proofs.YtpomkhcobpihmaaGreat
section
open Go.RowKit
set_option linter.unusedVariables false
set_option maxRecDepth 100000
theorem conv_str {W:World} {B n c:Nat} {A:Option Addr} {zs:List Int} (hb:Byt W B A n c zs) (s:ByteArray) (hs:strOfNums zs = s):(convert 23 9 (.slice A n c)).run Tryz.prog W = .ok (.string s) W:=by
 subst hs
 exact hb.inn.convert (P:=Tryz.prog) hb.len c 23 5 9 Tryz.underlying23 Tryz.underlying5 Tryz.underlying9
end
end Go.Proofs.YtpomkhcobpihmaaGreat
