/- A row of bytes that a call makes and fills itself: make, one byte stored. Text of PRow5, PRow5B, Law5Great, for seats that lack chapter 5. -/
import Derived.Test.YtojbhckgegoldaaOwn
import Derived.Test.YtojbhckgegoldaaCopy
import Derived.Deep.MidRow
import Derived.Deep.RegionLaw
namespace Go.Proofs.Ytojbhckgegoldaa
open Go.RowKit
set_option linter.unusedVariables false
set_option maxRecDepth 100000

def u8s (zs : List Int) : List Value := zs.map (Value.int .u8)
theorem heap_set (w : World) (g i : Nat) (v : Value) (cs : List Value) (T : TypeId) (h : w.heap[g]? = some (.cells cs.toArray T (0, 0))) : (w.setCell ⟨g, i, none⟩ v).heap[g]? = some (.cells (cs.set i v).toArray T (0, 0)) := by
  simp [World.setCell, Array.getElem?_modify, h]
theorem make_bytes (n m : Nat) (w : World) (hnm : n ≤ m) (hm : m ≤ 1000000000) : (Instr.makeSlice 25 (.int .i64 (n : Int)) (.int .i64 (m : Int))).run Try.prog w = .ok (.slice (some ⟨w.heap.size, 0, none⟩) n m) (w.alloc (.cells (u8s (List.replicate m 0)).toArray 5)) := by
  obtain ⟨i0, hi, hz0, hz1, hz2⟩ := info_parts info5
  have h := run_make (P := Try.prog) w 25 5 i0 _ Try.underlying25 hi hz0 .i64 .i64 (n : Int) (m : Int) (by omega) (by omega) (by rw [hz2]; omega) (by omega)
  have hc : madeCells (Value.int .u8 0).cells (((m : Int)).toNat * i0.size) = (u8s (List.replicate m 0)).toArray := by
    have e := toList_madeCells_one (.int .u8 0) m
    rw [hz1, Nat.mul_one, Int.toNat_natCast]
    apply Array.toList_inj.1
    unfold u8s
    rw [show (Value.int .u8 0).cells = #[Value.int .u8 0] from rfl, e]
    simp
  rw [hc] at h
  rw [Int.toNat_natCast, Int.toNat_natCast] at h
  exact h
theorem own_set (W : World) (g i : Nat) (X : List Int) (z : Int) (h : W.heap[g]? = some (.cells (u8s X).toArray 5 (0, 0))) : (W.setCell ⟨g, i, none⟩ (.int .u8 z)).heap[g]? = some (.cells (u8s (X.set i z)).toArray 5 (0, 0)) := by
  rw [heap_set W g i _ _ _ h, u8s, u8s, List.map_set]
theorem row_lt (W : World) (g : Nat) (o : Obj) (h : W.heap[g]? = some o) : g < W.heap.size := by
  rcases Nat.lt_or_ge g W.heap.size with hlt | hge
  · exact hlt
  · rw [Array.getElem?_eq_none hge] at h; cases h
theorem own_byt (W : World) (g n : Nat) (X : List Int) (h : W.heap[g]? = some (.cells (u8s X).toArray 5 (0, 0))) (hX : X.length = n) (hr : ∀ z ∈ X, 0 ≤ z ∧ z < 256) : Byt W W.heap.size (some ⟨g, 0, none⟩) n n X :=
  ⟨hX, Nat.le_refl _, hr, fun _ => ⟨g, 0, rfl, row_lt W g _ h, fun i hi => by
    rw [cell_of_row W g (0 + i) _ _ (0, 0) h]
    simp [u8s, List.getD, hX, hi]⟩⟩
theorem own_fr (W : World) (g i : Nat) (X : List Int) (h : W.heap[g]? = some (.cells (u8s X).toArray 5 (0, 0))) : W.frozen? ⟨g, i, none⟩ = false := by simp [World.frozen?, h]
theorem set_rng (X : List Int) (i : Nat) (z : Int) (hX : ∀ y ∈ X, 0 ≤ y ∧ y < 256) (hz : 0 ≤ z ∧ z < 256) : ∀ y ∈ X.set i z, 0 ≤ y ∧ y < 256 := fun y hy => by
  rcases List.mem_or_eq_of_mem_set hy with h | rfl
  · exact hX y h
  · exact hz
theorem set_getD (X : List Int) (i j : Nat) (z : Int) (hi : i < X.length) : (X.set i z).getD j 0 = if j = i then z else X.getD j 0 := by
  by_cases h : j = i
  · subst h; rw [if_pos rfl]; simp [List.getD, hi]
  · rw [if_neg h]; simp only [List.getD]; rw [List.getElem?_set_ne (fun e => h e.symm)]
end Go.Proofs.Ytojbhckgegoldaa
