/- Contracts of functions that the law calls, and what they lean on (a part). -/
import Derived.Laws.BytesArg
import Derived.Test.YtliieeagbpmcgaaDoorPu33
namespace Go.Proofs.YtliieeagbpmcgaaDoor
section
open Go.RowKit Go.Sort
set_option linter.unusedVariables false
set_option maxRecDepth 100000
theorem conv_at {w : World} {S : Nat → Prop} {A : Option Addr} {n c : Nat} {zs : List Int} (h : BytS w S A n c zs) : ∃ s : ByteArray, s.data.toList = (zs.map fun n => UInt8.ofNat n.toNat) ∧ (convert 22 9 (.slice A n c)).run Tryd.prog w = .ok (.string s) w := by
  rcases Nat.eq_zero_or_pos n with h0 | h0
  · subst h0
    have hz : zs = [] := List.eq_nil_of_length_eq_zero h.1
    subst hz
    refine ⟨⟨#[]⟩, rfl, ?_⟩
    rw [run_convert_bytes_string w 22 9 5 A 0 c Tryd.underlying22 Tryd.underlying5 Tryd.underlying9]
    rcases A with _ | a <;> kernel_rfl
  · obtain ⟨b, o, rfl, hl, hc⟩ := h.2.2.2 h0
    exact ⟨strOfNums zs, rfl, run_convert_bytes_arg w 22 5 Tryd.underlying22 Tryd.underlying5 b o n c zs h.1 hc 9 Tryd.underlying9⟩
end
end Go.Proofs.YtliieeagbpmcgaaDoor
