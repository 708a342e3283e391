/- Contracts of functions that the law calls, and what they lean on (a part). -/
import Derived.Deep.Cut
import Derived.Deep.CutBlock
import Derived.Deep.LoopGhost
import Derived.Test.YtdkmomdioiipjaaCmy8
import Derived.Test.YtdkmomdioiipjaaCmy9
namespace Go.Proofs.Ytdkmomdioiipjaa
section
open Go.RowKit
set_option linter.unusedVariables false
set_option maxRecDepth 100000
theorem zero_cells {W : World} {g : Nat} (hh : W.heap[g]? = some (.cells #[.int .i64 0, .int .i64 0, .slice none 0 0, .slice none 0 0, .slice none 0 0] 27 (0, 0))) :
    W.cell? ⟨g, 0, none⟩ = some (.int .i64 0) ∧ W.cell? ⟨g, 1, none⟩ = some (.int .i64 0) ∧ W.cell? ⟨g, 2, none⟩ = some (.slice none 0 0) ∧ W.cell? ⟨g, 3, none⟩ = some (.slice none 0 0) ∧ W.cell? ⟨g, 4, none⟩ = some (.slice none 0 0) ∧ (∀ i, W.frozen? ⟨g, i, none⟩ = false) :=
  ⟨by rw [cell_of_row W g 0 _ 27 (0, 0) hh]; rfl, by rw [cell_of_row W g 1 _ 27 (0, 0) hh]; rfl, by rw [cell_of_row W g 2 _ 27 (0, 0) hh]; rfl, by rw [cell_of_row W g 3 _ 27 (0, 0) hh]; rfl, by rw [cell_of_row W g 4 _ 27 (0, 0) hh]; rfl, fun i => by simp [World.frozen?, hh]⟩
theorem below_set5 {B : Nat} {w W : World} {g : Nat} {x0 x1 x2 x3 x4 : Value} (h : Below B w W) (hl : B ≤ g) : Below B w (((((W.setCell ⟨g, 0, none⟩ x0).setCell ⟨g, 1, none⟩ x1).setCell ⟨g, 2, none⟩ x2).setCell ⟨g, 3, none⟩ x3).setCell ⟨g, 4, none⟩ x4) :=
  ((((h.setCell (p := ⟨g, 0, none⟩) hl x0).setCell (p := ⟨g, 1, none⟩) hl x1).setCell (p := ⟨g, 2, none⟩) hl x2).setCell (p := ⟨g, 3, none⟩) hl x3).setCell (p := ⟨g, 4, none⟩) hl x4
theorem heap_set5 {W : World} {b g : Nat} {x0 x1 x2 x3 x4 : Value} (hl : b ≠ g) : (((((W.setCell ⟨g, 0, none⟩ x0).setCell ⟨g, 1, none⟩ x1).setCell ⟨g, 2, none⟩ x2).setCell ⟨g, 3, none⟩ x3).setCell ⟨g, 4, none⟩ x4).heap[b]? = W.heap[b]? :=
  (set_blk9 _ g 4 b x4 hl).trans ((set_blk9 _ g 3 b x3 hl).trans ((set_blk9 _ g 2 b x2 hl).trans ((set_blk9 _ g 1 b x1 hl).trans (set_blk9 W g 0 b x0 hl))))
theorem size_set5 {W : World} {g : Nat} {x0 x1 x2 x3 x4 : Value} : (((((W.setCell ⟨g, 0, none⟩ x0).setCell ⟨g, 1, none⟩ x1).setCell ⟨g, 2, none⟩ x2).setCell ⟨g, 3, none⟩ x3).setCell ⟨g, 4, none⟩ x4).heap.size = W.heap.size := by simp [World.setCell]
theorem set5_row {W : World} {g : Nat} {z0 z1 z2 z3 z4 x0 x1 x2 x3 x4 : Value} {T : TypeId} (h : W.heap[g]? = some (.cells #[z0, z1, z2, z3, z4] T (0, 0))) : (((((W.setCell ⟨g, 0, none⟩ x0).setCell ⟨g, 1, none⟩ x1).setCell ⟨g, 2, none⟩ x2).setCell ⟨g, 3, none⟩ x3).setCell ⟨g, 4, none⟩ x4).heap[g]? = some (.cells #[x0, x1, x2, x3, x4] T (0, 0)) := by
  have h1 := heap_set W g 0 x0 [z0, z1, z2, z3, z4] _ h
  have h2 := heap_set _ g 1 x1 _ _ h1
  have h3 := heap_set _ g 2 x2 _ _ h2
  have h4 := heap_set _ g 3 x3 _ _ h3
  exact heap_set _ g 4 x4 _ _ h4
end
end Go.Proofs.Ytdkmomdioiipjaa
