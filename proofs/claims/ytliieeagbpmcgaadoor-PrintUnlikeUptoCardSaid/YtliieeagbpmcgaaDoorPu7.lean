/- Contracts of functions that the law calls, and what they lean on (a part). -/
import Derived.Lib.ConvBytes
import Derived.Laws.AppendOwn
import Derived.Test.YtliieeagbpmcgaaDoorPu1
namespace Go.Proofs.YtliieeagbpmcgaaDoor
section
open Go.RowKit
set_option linter.unusedVariables false
set_option maxRecDepth 100000
/-- A text's bytes as numbers. -/
def strZ (s : ByteArray) : List Int := s.data.toList.map fun b => (b.toNat : Int)
theorem strZ_byt (w : World) (s : ByteArray) : Byt (Lib.bytesWorld w 5 s) (w.heap.size + 1) (some ⟨w.heap.size, 0, none⟩) s.size (grownCap w s.size 0 5) (strZ s) := by
  refine ⟨by simp [strZ], grownCap_ge w s.size 0 5, fun z hz => ?_, fun _ => ⟨w.heap.size, 0, rfl, by omega, fun i hi => ?_⟩⟩
  · obtain ⟨b, _, rfl⟩ := List.mem_map.1 hz
    have := UInt8.toNat_lt b
    omega
  · rw [Nat.zero_add, Lib.bytesWorld_cell w 5 s i hi]
    simp [strZ, List.getD, hi]
theorem strZ_below (w : World) (s : ByteArray) : Below w.heap.size w (Lib.bytesWorld w 5 s) :=
  ⟨rfl, rfl, rfl, by rw [Lib.bytesWorld_size]; omega, fun k hk => Lib.bytesWorld_at_old w 5 s k hk⟩
theorem strZ_len (s : ByteArray) : (strZ s).length = s.size := by simp [strZ]
end
end Go.Proofs.YtliieeagbpmcgaaDoor
