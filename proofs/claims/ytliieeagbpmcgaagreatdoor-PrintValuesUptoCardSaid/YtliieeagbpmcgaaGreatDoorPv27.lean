/- Contracts of functions that the law calls, and what they lean on (a part). -/
import Derived.StillTailTactics
import Derived.Deep.Cut
import Derived.Deep.CutBlock
import Derived.Deep.LoopGhost
import Derived.Test.YtliieeagbpmcgaaGreatDoorPv8
import Derived.Test.YtliieeagbpmcgaaGreatDoorPv23
namespace Go.Proofs.YtliieeagbpmcgaaGreatDoor
section
open Go.RowKit
set_option linter.unusedVariables false
set_option maxRecDepth 100000
theorem loop_eq (s : ByteArray) : ∀ (k i : Nat) (r : List UInt8), k = s.size - i → ByteArray.toList.loop s i r = r.reverse ++ s.data.toList.drop i
  | 0, i, r, h => by
    rw [ByteArray.toList.loop.eq_1, if_neg (by omega), List.drop_of_length_le (by have : s.data.toList.length = s.size := rfl; omega), List.append_nil]
  | k + 1, i, r, h => by
    have hi : i < s.data.toList.length := by show i < s.size; omega
    rw [ByteArray.toList.loop.eq_1, if_pos (by omega), loop_eq s k (i + 1) _ (by omega), List.reverse_cons, List.append_assoc, List.drop_eq_getElem_cons hi]
    congr 2
    show s.data[i]! :: _ = _
    have hi2 : i < s.data.size := hi
    simp only [Array.getElem_toList, List.cons.injEq]
    exact ⟨getElem!_pos s.data i hi2, rfl⟩
theorem toList_eq (s : ByteArray) : s.toList = s.data.toList := by
  rw [ByteArray.toList, loop_eq s (s.size - 0) 0 [] rfl]; rfl
theorem str_ne {s t : ByteArray} (h : ¬ s = t) : (s.toList == t.toList) = false := by
  refine beq_eq_false_iff_ne.2 (fun e => h ?_)
  rw [toList_eq, toList_eq] at e
  have h2 : s.data = t.data := Array.toList_inj.1 e
  cases s; cases t
  simp only at h2
  rw [h2]
end
end Go.Proofs.YtliieeagbpmcgaaGreatDoor
