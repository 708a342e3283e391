/- Contracts of functions that the law calls, and what they lean on (a part). -/
import Derived.Deep.QuietTactic
import Derived.BigQuiet
import Derived.WalkSpells
import Derived.Deep.Cut
import Derived.Deep.CutBlock
import Derived.Deep.LoopGhost
import Derived.Deep.DeepFit
import Derived.StillTailTactics
import Derived.Laws.ResultCell
import Derived.Test.YtliieeagbpmcgaaDoorPu2
import Derived.Test.YtliieeagbpmcgaaDoorPu5
import Derived.Test.YtliieeagbpmcgaaDoorPu6
import Derived.Test.YtliieeagbpmcgaaDoorPu7
namespace Go.Proofs.YtliieeagbpmcgaaDoor
section
open Go.RowKit
set_option linter.unusedVariables false
set_option maxRecDepth 100000
theorem peek_shift (zs : List Int) (q j : Nat) : peekZ zs ((q + j : Nat) : Int) = peekZ (zs.drop q) (j : Int) := by
  rcases Nat.lt_or_ge (q + j) zs.length with h | h
  · rw [peekZ_in zs (q + j) h, peekZ_in (zs.drop q) j (by rw [List.length_drop]; omega)]
    simp [List.getD]
  · rw [peekZ_nat zs (q + j) h, peekZ_nat (zs.drop q) j (by rw [List.length_drop]; omega)]
theorem peek_0 (a : Int) (l : List Int) : peekZ (a :: l) ((0 : Nat) : Int) = a := by rw [peekZ_in _ 0 (by simp)]; rfl
theorem drop_on {zs : List Int} {q : Nat} {l r : List Int} (h : zs.drop q = l ++ r) : zs.drop (q + l.length) = r := by
  rw [← List.drop_drop, h, List.drop_left]
end
end Go.Proofs.YtliieeagbpmcgaaDoor
