/- Contracts of functions that the law calls, and what they lean on (a part). -/
import Derived.WalkKit
import Derived.Below
import Derived.Lib.Hide
import Derived.IntWalk
import Derived.Laws.BitsAllLaws
import Derived.Laws.BitsLemmas
namespace Go.Proofs.YtliieeagbpmcgaaDoor
section
open Go.RowKit
set_option linter.unusedVariables false
theorem n1 (H L : Nat) : (H * 2 + L / 9223372036854775808) * 18446744073709551616 + L * 2 % 18446744073709551616 = 2 * (H * 18446744073709551616 + L) := by omega
theorem n2 (H L a : Nat) (ha : a < 9223372036854775808) (hc : L * 2 % 18446744073709551616 ≤ (L * 2 % 18446744073709551616 + a) % 18446744073709551616) : (H * 2 + L / 9223372036854775808) * 18446744073709551616 + (L * 2 % 18446744073709551616 + a) % 18446744073709551616 = 2 * (H * 18446744073709551616 + L) + a := by omega
theorem n3 (H L a : Nat) (ha : a < 9223372036854775808) (hc : (L * 2 % 18446744073709551616 + a) % 18446744073709551616 < L * 2 % 18446744073709551616) : (H * 2 + L / 9223372036854775808 + 1) * 18446744073709551616 + (L * 2 % 18446744073709551616 + a) % 18446744073709551616 = 2 * (H * 18446744073709551616 + L) + a := by omega
end
end Go.Proofs.YtliieeagbpmcgaaDoor
