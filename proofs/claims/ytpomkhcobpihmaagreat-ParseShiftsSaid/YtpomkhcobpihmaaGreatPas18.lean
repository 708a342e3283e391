/- Contracts of functions that the law calls, and what they lean on (a part). -/
import Derived.Laws.Concat
import Derived.Lib.IndexBytes
import Derived.Test.YtpomkhcobpihmaaGreatPas2
import Derived.Test.YtpomkhcobpihmaaGreatPas17
namespace Go.Proofs.YtpomkhcobpihmaaGreat
section
open Go.RowKit
set_option linter.unusedVariables false
theorem Ints.more {w : World} {B B' n c : Nat} {A : Option Addr} {zs : List Int} (h : Ints w B A n c zs) (hB : B ≤ B') : Ints w B' A n c zs :=
  ⟨h.len, h.cap, fun hn => by
    obtain ⟨b, o, e, hlt, hc⟩ := h.cell hn
    exact ⟨b, o, e, by omega, hc⟩⟩
abbrev tripV (x : Int × Bool × Int) : Value := .tuple #[.int .i64 x.1, .bool x.2.1, .int .i64 x.2.2]
end
end Go.Proofs.YtpomkhcobpihmaaGreat
