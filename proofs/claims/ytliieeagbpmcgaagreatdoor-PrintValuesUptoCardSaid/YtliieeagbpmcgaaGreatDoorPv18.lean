/- Contracts of functions that the law calls, and what they lean on (a part). -/
import Derived.Test.YtliieeagbpmcgaaGreatDoorPv15
import Derived.Test.YtliieeagbpmcgaaGreatDoorPv17
namespace Go.Proofs.YtliieeagbpmcgaaGreatDoor
section
open Go.RowKit
set_option linter.unusedVariables false
/-- Bytes as numbers. -/
def zsB (l : List UInt8) : List Int := l.map fun b => (b.toNat : Int)
theorem stripR_spec : ∀ (l : List UInt8), ∃ j, l = List.replicate j 48 ++ stripR l
  | [] => ⟨0, rfl⟩
  | [x] => ⟨0, rfl⟩
  | x :: y :: r => by
    rw [stripR]
    split
    · next h =>
      obtain ⟨j, hj⟩ := stripR_spec (y :: r)
      exact ⟨j + 1, by rw [List.replicate_succ, List.cons_append, ← hj, h]⟩
    · exact ⟨0, rfl⟩
theorem stripZ_spec (l : List UInt8) : ∃ j, l = stripZ l ++ List.replicate j 48 := by
  obtain ⟨j, hj⟩ := stripR_spec l.reverse
  refine ⟨j, ?_⟩
  have := congrArg List.reverse hj
  rw [List.reverse_reverse, List.reverse_append, List.reverse_replicate] at this
  exact this
end

section
open Go.RowKit
set_option linter.unusedVariables false
theorem fxSize (n : Int) (w : World) (h1 : -9223372036854775808 ≤ n) (h2 : n ≤ 9223372036854775807) :
    Calls Tryz.prog 137 #[.int .i64 n] w fun e w' => e = .returned (.int .u64 (n.natAbs : Int)) ∧ w = w' := by
  by_cases h0 : n < 0
  · go_enter Tryz.func137, Tryz.ntmps137
    go_wp2
    go_ret
    exact ⟨ret_intW (by rw [IntKind.wrap_u64, IntKind.wrap_u64]; omega), rfl⟩
  · go_enter Tryz.func137, Tryz.ntmps137
    go_wp2
    go_ret
    exact ⟨ret_intW (by omega), rfl⟩
end
end Go.Proofs.YtliieeagbpmcgaaGreatDoor
