/- Chapter 6: Base85, the program's own and the document's. -/
import Derived.Test.YtnonldlddgankaaWr6
namespace Go.Proofs.Ytnonldlddgankaa
open Go.RowKit
set_option linter.unusedVariables false
set_option maxRecDepth 100000

/-- What is left of a number, so many digits taken. -/
def qK (x : Int) : Nat → Int
  | 0 => x
  | 1 => x / 85
  | 2 => x / 7225
  | 3 => x / 614125
  | 4 => x / 52200625
  | _ => x / 4437053125
/-- The array's cells, so many digits laid. -/
def gC (x : Int) : Nat → Array Value
  | 0 => #[.int .u8 0, .int .u8 0, .int .u8 0, .int .u8 0, .int .u8 0]
  | 1 => #[.int .u8 0, .int .u8 0, .int .u8 0, .int .u8 0, .int .u8 (33 + x % 85)]
  | 2 => #[.int .u8 0, .int .u8 0, .int .u8 0, .int .u8 (33 + x / 85 % 85), .int .u8 (33 + x % 85)]
  | 3 => #[.int .u8 0, .int .u8 0, .int .u8 (33 + x / 7225 % 85), .int .u8 (33 + x / 85 % 85), .int .u8 (33 + x % 85)]
  | 4 => #[.int .u8 0, .int .u8 (33 + x / 614125 % 85), .int .u8 (33 + x / 7225 % 85), .int .u8 (33 + x / 85 % 85), .int .u8 (33 + x % 85)]
  | _ => #[.int .u8 (33 + x / 52200625 % 85), .int .u8 (33 + x / 614125 % 85), .int .u8 (33 + x / 7225 % 85), .int .u8 (33 + x / 85 % 85), .int .u8 (33 + x % 85)]
theorem cell_set (W : World) (g i : Nat) (C : Array Value) (T : TypeId) (v : Value) (h : W.heap[g]? = some (.cells C T (0, 0))) : (W.setCell ⟨g, i, none⟩ v).heap[g]? = some (.cells (C.setIfInBounds i v) T (0, 0)) := by
  simp [World.setCell, Array.getElem?_modify, h]
set_option maxHeartbeats 2000000 in
theorem groupC (x : Int) (x0 : 0 ≤ x) (x1 : x ≤ 4294967295) (w : World) :
    Calls Try.prog 29 #[.int .i64 x] w fun r w' => r = .returned (.agg #[.int .u8 (33 + x / 52200625 % 85), .int .u8 (33 + x / 614125 % 85), .int .u8 (33 + x / 7225 % 85), .int .u8 (33 + x / 85 % 85), .int .u8 (33 + x % 85)]) ∧ Below w.heap.size w w' := by
  go_enter Try.func29, Try.ntmps29
  go_wp2_with fail
  go_loopw [0, 4, 5] (fun nv uv iv wr => ∃ k : Nat, k ≤ 5 ∧ iv = .int .i64 k ∧ nv = .int .i64 (qK x k) ∧ Hid (wr.heap[w.heap.size + 1]? = some (.cells (gC x k) 54 (0, 0))) ∧ Hid (wr.heap[w.heap.size]? = some (.cells (gC x 0) 54 (0, 0))) ∧ Hid (Below w.heap.size w wr)) (fun _ _ iv _ => 5 - (intOf iv).toNat)
  case atStart =>
    refine ⟨0, by omega, rfl, rfl, Lib.hid ?_, Lib.hid ?_, Lib.hid (((Below.refl _ _).alloc (Nat.le_refl _) _).alloc (by simp) _)⟩
    · have h := heap_alloc_new (w.alloc (.cells (gC x 0) 54)) (.cells (gC x 0) 54)
      rw [World.size_alloc] at h
      exact h
    · exact (((Below.refl _ _).alloc (Nat.le_refl _) (.cells (gC x 0) 54)).block w.heap.size (by rw [World.size_alloc]; omega)).trans (heap_alloc_new w _)
  case round =>
    obtain ⟨k, hk, rfl, rfl, HG, HR, HBE⟩ := hrel
    by_cases hlt : k < 5
    · have hk4 : k = 0 ∨ k = 1 ∨ k = 2 ∨ k = 3 ∨ k = 4 := by omega
      have hfz : ∀ i, wr.frozen? ⟨w.heap.size + 1, i, none⟩ = false := fun i => by simp [World.frozen?, HG.out]
      have hf := hfz (4 - k)
      have hcl : ∃ u, wr.cell? ⟨w.heap.size + 1, 4 - k, none⟩ = some u := by
        rw [cell_of_row wr (w.heap.size + 1) (4 - k) _ 54 (0, 0) HG.out]
        rcases hk4 with rfl | rfl | rfl | rfl | rfl <;> exact ⟨_, rfl⟩
      obtain ⟨u, hcl⟩ := hcl
      have hst : ∀ v, (wr.setCell ⟨w.heap.size + 1, 4 - k, none⟩ v).heap[w.heap.size + 1]? = some (.cells ((gC x k).setIfInBounds (4 - k) v) 54 (0, 0)) := fun v => cell_set wr _ _ _ _ v HG.out
      have hst2 : ∀ v, (wr.setCell ⟨w.heap.size + 1, 4 - k, none⟩ v).heap[w.heap.size]? = some (.cells (gC x 0) 54 (0, 0)) := fun v => (Below.heap_setCell wr ⟨w.heap.size + 1, 4 - k, none⟩ v w.heap.size (by simp)).trans HR.out
      have hbe2 : ∀ v, Below w.heap.size w (wr.setCell ⟨w.heap.size + 1, 4 - k, none⟩ v) := fun v => HBE.out.trans (((Only.refl (w.heap.size + 1) wr).set_ (4 - k) v).belowB (by omega) (by
        rcases Nat.lt_or_ge (w.heap.size + 1) wr.heap.size with h | h
        · omega
        · have := HG.out; rw [Array.getElem?_eq_none h] at this; cases this))
      have HST := Lib.hid hst
      have HST2 := Lib.hid hst2
      have HBE2 := Lib.hid hbe2
      clear hfz hst hst2 hbe2
      rcases hk4 with rfl | rfl | rfl | rfl | rfl
      all_goals
        simp only [qK] at *
        have hq1 : x / 85 ≤ 4294967295 ∧ 0 ≤ x / 85 ∧ 0 ≤ x / 7225 ∧ 0 ≤ x / 614125 ∧ 0 ≤ x / 52200625 ∧ x / 7225 ≤ 4294967295 ∧ x / 614125 ≤ 4294967295 ∧ x / 52200625 ≤ 4294967295 := by omega
        obtain ⟨g1, g2, g3, g4, g5, g6, g7, g8⟩ := hq1
        go_wp2_with fail
        go_roundw
        case rel => exact ⟨_, hlt, by go_num, (by first | rfl | (congr 1; show _ = (_ : Int) / _; omega)), Lib.hid (HST.out _), Lib.hid (HST2.out _), Lib.hid (HBE2.out _)⟩
        case measure => simp [intOf]
    · obtain rfl : k = 5 := by omega
      have k0 : wr.cell? ⟨w.heap.size + 1, 0, none⟩ = some (.int .u8 (33 + x / 52200625 % 85)) := by rw [cell_of_row wr (w.heap.size + 1) 0 _ 54 (0, 0) HG.out]; rfl
      have k1 : wr.cell? ⟨w.heap.size + 1, 1, none⟩ = some (.int .u8 (33 + x / 614125 % 85)) := by rw [cell_of_row wr (w.heap.size + 1) 1 _ 54 (0, 0) HG.out]; rfl
      have k2 : wr.cell? ⟨w.heap.size + 1, 2, none⟩ = some (.int .u8 (33 + x / 7225 % 85)) := by rw [cell_of_row wr (w.heap.size + 1) 2 _ 54 (0, 0) HG.out]; rfl
      have k3 : wr.cell? ⟨w.heap.size + 1, 3, none⟩ = some (.int .u8 (33 + x / 85 % 85)) := by rw [cell_of_row wr (w.heap.size + 1) 3 _ 54 (0, 0) HG.out]; rfl
      have k4 : wr.cell? ⟨w.heap.size + 1, 4, none⟩ = some (.int .u8 (33 + x % 85)) := by rw [cell_of_row wr (w.heap.size + 1) 4 _ 54 (0, 0) HG.out]; rfl
      have r0 : wr.cell? ⟨w.heap.size, 0, none⟩ = some (.int .u8 0) := by rw [cell_of_row wr w.heap.size 0 _ 54 (0, 0) HR.out]; rfl
      have r1 : wr.cell? ⟨w.heap.size, 1, none⟩ = some (.int .u8 0) := by rw [cell_of_row wr w.heap.size 1 _ 54 (0, 0) HR.out]; rfl
      have r2 : wr.cell? ⟨w.heap.size, 2, none⟩ = some (.int .u8 0) := by rw [cell_of_row wr w.heap.size 2 _ 54 (0, 0) HR.out]; rfl
      have r3 : wr.cell? ⟨w.heap.size, 3, none⟩ = some (.int .u8 0) := by rw [cell_of_row wr w.heap.size 3 _ 54 (0, 0) HR.out]; rfl
      have r4 : wr.cell? ⟨w.heap.size, 4, none⟩ = some (.int .u8 0) := by rw [cell_of_row wr w.heap.size 4 _ 54 (0, 0) HR.out]; rfl
      have f0 : wr.frozen? ⟨w.heap.size, 0, none⟩ = false := by simp [World.frozen?, HR.out]
      have f1 : wr.frozen? ⟨w.heap.size, 1, none⟩ = false := by simp [World.frozen?, HR.out]
      have f2 : wr.frozen? ⟨w.heap.size, 2, none⟩ = false := by simp [World.frozen?, HR.out]
      have f3 : wr.frozen? ⟨w.heap.size, 3, none⟩ = false := by simp [World.frozen?, HR.out]
      have f4 : wr.frozen? ⟨w.heap.size, 4, none⟩ = false := by simp [World.frozen?, HR.out]
      have h1 := cell_set wr w.heap.size 0 _ 54 (.int .u8 (33 + x / 52200625 % 85)) HR.out
      have h2 := cell_set _ w.heap.size 1 _ 54 (.int .u8 (33 + x / 614125 % 85)) h1
      have h3 := cell_set _ w.heap.size 2 _ 54 (.int .u8 (33 + x / 7225 % 85)) h2
      have h4 := cell_set _ w.heap.size 3 _ 54 (.int .u8 (33 + x / 85 % 85)) h3
      have h5 := cell_set _ w.heap.size 4 _ 54 (.int .u8 (33 + x % 85)) h4
      have hlt0 : w.heap.size < wr.heap.size := by
        rcases Nat.lt_or_ge w.heap.size wr.heap.size with h | h
        · exact h
        · have := HR.out; rw [Array.getElem?_eq_none h] at this; cases this
      have ho : Only w.heap.size wr (((((wr.setCell ⟨w.heap.size, 0, none⟩ (.int .u8 (33 + x / 52200625 % 85))).setCell ⟨w.heap.size, 1, none⟩ (.int .u8 (33 + x / 614125 % 85))).setCell ⟨w.heap.size, 2, none⟩ (.int .u8 (33 + x / 7225 % 85))).setCell ⟨w.heap.size, 3, none⟩ (.int .u8 (33 + x / 85 % 85))).setCell ⟨w.heap.size, 4, none⟩ (.int .u8 (33 + x % 85))) := (((((Only.refl _ _).set_ _ _).set_ _ _).set_ _ _).set_ _ _).set_ _ _
      have hbe := HBE.out.trans (ho.belowB (Nat.le_refl _) (Nat.le_of_lt hlt0))
      have HH := Lib.hid (And.intro h5 hbe)
      clear h1 h2 h3 h4 h5 ho hbe hlt0
      go_wp2_with fail
      have hh := HH.out
      obtain ⟨W9, hW9⟩ : ∃ W9, (((((wr.setCell ⟨w.heap.size, 0, none⟩ (.int .u8 (33 + x / 52200625 % 85))).setCell ⟨w.heap.size, 1, none⟩ (.int .u8 (33 + x / 614125 % 85))).setCell ⟨w.heap.size, 2, none⟩ (.int .u8 (33 + x / 7225 % 85))).setCell ⟨w.heap.size, 3, none⟩ (.int .u8 (33 + x / 85 % 85))).setCell ⟨w.heap.size, 4, none⟩ (.int .u8 (33 + x % 85))) = W9 := ⟨_, rfl⟩
      rw [hW9] at hh ⊢
      obtain ⟨h5, hbe⟩ := hh
      have q0 : W9.cell? ⟨w.heap.size, 0, none⟩ = some (.int .u8 (33 + x / 52200625 % 85)) := by rw [cell_of_row W9 w.heap.size 0 _ 54 (0, 0) h5]; rfl
      have q1 : W9.cell? ⟨w.heap.size, 1, none⟩ = some (.int .u8 (33 + x / 614125 % 85)) := by rw [cell_of_row W9 w.heap.size 1 _ 54 (0, 0) h5]; rfl
      have q2 : W9.cell? ⟨w.heap.size, 2, none⟩ = some (.int .u8 (33 + x / 7225 % 85)) := by rw [cell_of_row W9 w.heap.size 2 _ 54 (0, 0) h5]; rfl
      have q3 : W9.cell? ⟨w.heap.size, 3, none⟩ = some (.int .u8 (33 + x / 85 % 85)) := by rw [cell_of_row W9 w.heap.size 3 _ 54 (0, 0) h5]; rfl
      have q4 : W9.cell? ⟨w.heap.size, 4, none⟩ = some (.int .u8 (33 + x % 85)) := by rw [cell_of_row W9 w.heap.size 4 _ 54 (0, 0) h5]; rfl
      clear h5 hW9 HH
      exact bodyPost_ret (v := .agg #[.int .u8 (33 + x / 52200625 % 85), .int .u8 (33 + x / 614125 % 85), .int .u8 (33 + x / 7225 % 85), .int .u8 (33 + x / 85 % 85), .int .u8 (33 + x % 85)]) (by simp [results, Try.results29, go_sem, q0, q1, q2, q3, q4]) rfl ⟨rfl, hbe⟩

end Go.Proofs.Ytnonldlddgankaa
