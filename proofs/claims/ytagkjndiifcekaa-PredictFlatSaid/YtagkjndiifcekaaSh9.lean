/- Chapter 9's laws: the shape as the program has it; how long rows undone and done are. -/
import Derived.Test.YtagkjndiifcekaaLaw9Do
namespace Go.Proofs.Ytagkjndiifcekaa
open Go.ChangeShapes Go.WideShapes Go.ChangeAt Go.RowKit Go.Deep
set_option linter.unusedVariables false
set_option maxRecDepth 100000

theorem undF_len (c n tags : Nat) (zs : List Int) : ∀ f r O, (undF c n tags zs f r O).1.length ≤ O.length + f * n
  | 0, r, O => by simp [undF]
  | f + 1, r, O => by
    rw [undF]
    by_cases h : r < zs.length
    · rw [if_pos h]
      by_cases h4 : 4 < (if tags = 1 then zs.getD r 0 else 1)
      · rw [if_pos h4]
        exact Nat.zero_le _
      · rw [if_neg h4]
        refine Nat.le_trans (undF_len c n tags zs f _ _) ?_
        rw [rowU_len, List.length_take, Nat.succ_mul]
        omega
    · rw [if_neg h]
      exact Nat.le_add_right _ _
theorem undZ_len (P C K : Int) (zs : List Int) : (undZ P C K zs).1.length ≤ 16384 * zs.length := by
  rw [undZ]
  by_cases hm : mayZ P C K = false
  · rw [if_pos hm]
    exact Nat.zero_le _
  · rw [if_neg hm]
    obtain ⟨_, cc, kk, nn, rfl, rfl, _, _, _, _, _, _, hn2, hCK, hCn⟩ := may_parts (by simpa using hm)
    rw [hCK, hCn]
    by_cases h1 : P = 1
    · rw [if_pos h1]
      dsimp only
      omega
    · rw [if_neg h1]
      obtain ⟨g, hg⟩ : ∃ g : Nat, (if 10 ≤ P then 1 else 0) = g := ⟨_, rfl⟩
      rw [hg]
      by_cases h2 : zs.length % (nn + g) ≠ 0
      · rw [if_pos h2]
        exact Nat.zero_le _
      · rw [if_neg h2]
        refine Nat.le_trans (undF_len _ _ _ _ _ _ _) ?_
        rw [List.length_nil, Nat.zero_add, Nat.mul_comm]
        exact Nat.mul_le_mul_right _ hn2
theorem doZ_len (P C K : Int) (zs : List Int) : (doZ P C K zs).1.length ≤ 2 * zs.length := by
  rw [doZ]
  by_cases hm : mayZ P C K = false
  · rw [if_pos hm]
    exact Nat.zero_le _
  · rw [if_neg hm]
    by_cases h1 : P = 1
    · rw [if_pos h1]
      dsimp only
      omega
    · rw [if_neg h1]
      by_cases h2 : zs.length % (C * K).toNat ≠ 0
      · rw [if_pos h2]
        exact Nat.zero_le _
      · rw [if_neg h2]
        exact doF_len _ _ _ _ _ _ _
theorem shapeC (P C K : Int) (w : World) : Calls Try.prog 13 #[shV P C K] w fun e w' => e = .returned (shV P C K) ∧ Below w.heap.size w w' := by
  have hnew : (w.alloc (.cells #[.int .i64 P, .int .i64 C, .int .i64 K] 30)).heap[w.heap.size]? = some (.cells #[.int .i64 P, .int .i64 C, .int .i64 K] 30) := heap_alloc_new w _
  go_enter Try.func13, Try.ntmps13
  go_wp2_with fail
  refine bodyPost_ret (results_cell_row rfl _ _ (w.heap.size + 1) 28 _ (0, 0) _ rfl (heap_alloc2_new w _ _) Try.underlying28 rfl (by kernel_rfl)) rfl ?_
  exact ⟨rfl, ((Below.refl _ _).alloc (Nat.le_refl _) _).alloc (by simp) _⟩
section
variable {H : Type} {enc : TypeId × Value → H} {W : World} {base : Nat} {sp : Nat → Bool} {held : Bool}
/-- A shape, opened. -/
theorem open_shape {cs : Array Value} {d : DataW H} {p : List MemPlace} (h : DataW.Trod enc Try.prog W base sp held 30 (.agg cs) d p) (hcs : cs.size = Try.prog.cellsOf 30) :
    ∃ P C K : Int, cs = #[.int .i64 P, .int .i64 C, .int .i64 K] := by
  obtain ⟨fuel, hf⟩ := h
  have h3 : Try.prog.cellsOf 30 = 3 := by kernel_rfl
  have h1 : Try.prog.cellsOf 3 = 1 := by kernel_rfl
  rw [h3] at hcs
  have hcl : (Value.agg cs).cells.toList = cs.toList := by simp [Value.cells]
  rw [hcl] at hf
  obtain ⟨ys, n', hn', hy, hlen, hyl, hfl⟩ := DataW.trod_struct Try.underlying30 hf
  obtain ⟨l⟩ := cs
  match l, hcs with
  | [c0, c1, c2], _ =>
    have hys : ys.length = 3 := hyl
    have f0 : DataW.trod enc Try.prog W base sp held n' 3 (List.take (Try.prog.cellsOf 3) [c0, c1, c2]) = ys[0]? := hfl 0 _ rfl
    have f1 : DataW.trod enc Try.prog W base sp held n' 3 (List.take (Try.prog.cellsOf 3) [c1, c2]) = ys[1]? := hfl 1 _ rfl
    have f2 : DataW.trod enc Try.prog W base sp held n' 3 (List.take (Try.prog.cellsOf 3) [c2]) = ys[2]? := hfl 2 _ rfl
    rw [h1, List.getElem?_eq_getElem (by omega)] at f0 f1 f2
    obtain ⟨x, e0, _, _⟩ := DataW.trod_int Try.underlying3 f0
    obtain ⟨y, e1, _, _⟩ := DataW.trod_int Try.underlying3 f1
    obtain ⟨z, e2, _, _⟩ := DataW.trod_int Try.underlying3 f2
    simp at e0 e1 e2
    subst e0 e1 e2
    exact ⟨x, y, z, rfl⟩
end
end Go.Proofs.Ytagkjndiifcekaa
