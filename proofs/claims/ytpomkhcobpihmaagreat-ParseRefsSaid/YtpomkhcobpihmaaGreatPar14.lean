/- Lemmas. -/
import Derived.Test.YtpomkhcobpihmaaGreatPar2
import Derived.Test.YtpomkhcobpihmaaGreatPar7
import Derived.Test.YtpomkhcobpihmaaGreatPar12
namespace Go.Proofs.YtpomkhcobpihmaaGreat
section
open Go.RowKit
set_option linter.unusedVariables false
set_option maxRecDepth 100000
structure LD (w:World) (m:Nat) (T:TypeId) (X:List Value) (A:Option Addr) (n c p:Nat):Prop where
 blk:w.heap[m]? = some (.cells (.slice A n c :: .int .i64 (p:Int) :: X).toArray T (0,0))
end
end Go.Proofs.YtpomkhcobpihmaaGreat
