/- Contracts of functions that the law calls, and what they lean on (a part). -/
import Derived.Deep.RegionHeld3
import Derived.Test.YtdkmomdioiipjaaCmy6
import Derived.Test.YtdkmomdioiipjaaCmy7
namespace Go.Proofs.Ytdkmomdioiipjaa
section
open Go.RowKit
set_option linter.unusedVariables false
set_option maxRecDepth 100000
mutual
/-- No list is out of all measure. -/
def okO : Ob → Prop
  | .mk _ _ b l d => b.length ≤ 100000000 ∧ l.len ≤ 100000000 ∧ d.len ≤ 100000000 ∧ okL l ∧ okE d
def okL : Obs → Prop
  | .nil => True
  | .cons x xs => okO x ∧ okL xs
def okE : Ens → Prop
  | .nil => True
  | .cons _ x xs => okO x ∧ okE xs
end
/-- What a call answers that makes an object in new memory. -/
def CpP (w : World) (x : Ob) (r : Ending) (w' : World) : Prop := ∃ d0 d1 d2 d3 d4, r = .returned (.agg #[d0, d1, d2, d3, d4]) ∧ ObR w' (fun g => w.heap.size ≤ g ∧ g < w'.heap.size) x d0 d1 d2 d3 d4 ∧ Below w.heap.size w w'
section
variable {w wr wr' : World} {base gO mb cb : Nat} {bx : Array Value} {k n : Int} {AB : Option Addr} {b : List Int} {vL vD v : Value}
theorem set_blk9 (W : World) (g i x : Nat) (v : Value) (hne : x ≠ g) : (W.setCell ⟨g, i, none⟩ v).heap[x]? = W.heap[x]? := Below.heap_setCell W ⟨g, i, none⟩ v x hne
end
theorem blk_keep9 {W W' : World} {g : Nat} {o : Obj} (hb : Below W.heap.size W W') (h : W.heap[g]? = some o) : W'.heap[g]? = some o := (hb.block g (row_lt W g o h)).trans h
end
end Go.Proofs.Ytdkmomdioiipjaa
