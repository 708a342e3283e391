/- Contracts of functions that the law calls, and what they lean on (a part). -/
import Derived.Sort.Defs
import Derived.Shelf.SlSortCmp.KitK
import Derived.WalkLawsBesides
import Derived.BigRegion
import Derived.Test.YtliieeagbpmcgaaDoorPu20
namespace Go.Proofs.YtliieeagbpmcgaaDoor
section
open Go.RowKit
open Go.RowKit Go.Sort
set_option linter.unusedVariables false
set_option maxRecDepth 100000
def ltS (s t : ByteArray) : Bool := Op.bytesLess s.toList t.toList
theorem ltS_eq (s t : ByteArray) : ltS s t = decide (s.toList < t.toList) := bytesLess_eq _ _
theorem toListB_inj {s t : ByteArray} (h : s.toList = t.toList) : s = t := by
  rw [toList_eq, toList_eq] at h
  cases s; cases t
  simp only at h
  congr 1
  exact Array.toList_inj.1 h
theorem ltS_irrefl (s : ByteArray) : ltS s s = false := by
  rw [ltS_eq]; exact decide_eq_false (List.lt_irrefl _)
theorem ltS_trans {s t u : ByteArray} (h1 : ltS s t = true) (h2 : ltS t u = true) : ltS s u = true := by
  rw [ltS_eq] at *
  exact decide_eq_true (List.lt_trans (of_decide_eq_true h1) (of_decide_eq_true h2))
theorem ltS_asymm {s t : ByteArray} (h1 : ltS s t = true) : ltS t s = false := by
  cases h : ltS t s with
  | false => rfl
  | true => have := ltS_trans h1 h; rw [ltS_irrefl] at this; cases this
theorem ltS_eq_of {s t : ByteArray} (h1 : ltS s t = false) (h2 : ltS t s = false) : s = t := by
  rw [ltS_eq] at *
  have a := of_decide_eq_false h1
  have b := of_decide_eq_false h2
  exact toListB_inj (List.le_antisymm (List.not_lt.1 b) (List.not_lt.1 a))
/-- An entry as six cells, and the object that it reads as. -/
structure Rw where
  s : ByteArray
  x : Ob
  k : Int
  n : Int
  A2 : Option Addr
  m2 : Nat
  c2 : Nat
  A3 : Option Addr
  m3 : Nat
  c3 : Nat
  A4 : Option Addr
  m4 : Nat
  c4 : Nat
instance : Inhabited Rw := ⟨⟨⟨#[]⟩, .mk 0 0 [] .nil .nil, 0, 0, none, 0, 0, none, 0, 0, none, 0, 0⟩⟩
/-- A world with draws and new blocks behind it. -/
def Grw (w w' : World) : Prop := ∃ q os, w' = grow (w.drewN q) os
theorem Grw.refl (w : World) : Grw w w := ⟨0, #[], by rw [grow_empty]; rfl⟩
theorem Grw.alloc {w w' : World} (h : Grw w w') (o : Obj) : Grw w (w'.alloc o) := by
  obtain ⟨q, os, rfl⟩ := h
  exact ⟨q, os ++ #[o], by rw [alloc_eq_grow, grow_grow]⟩
theorem Grw.below {w w' : World} (h : Grw w w') : Below w.heap.size w w' := by
  obtain ⟨q, os, rfl⟩ := h
  exact ⟨rfl, rfl, rfl, by rw [size_grow]; exact Nat.le_add_right _ _, fun k hk => heap_grow_old _ os hk⟩
end
end Go.Proofs.YtliieeagbpmcgaaDoor
