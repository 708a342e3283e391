/- Chapter 8, pure: how long what codes say may be; a row of one byte. -/
import Derived.Test.YtpnnejedfccckaaLy8
import Derived.Test.YtpnnejedfccckaaDp8
namespace Go.Proofs.Ytpnnejedfccckaa
open Go.RowKit
set_option linter.unusedVariables false
set_option maxRecDepth 100000

theorem lzRow_len (T : List (List Int)) (last x : List Int) (c : Int) (h : LenT T last) (h0 : 256 ≤ c ∧ ¬ c = 256 ∧ ¬ c = 257 ∨ c < 256) (hx : lzRow T last c = some x) : x.length ≤ T.length + 1 ∨ (last ≠ [] ∧ T.length < 3838 ∧ x.length ≤ T.length + 2) := by
  have hl := h.lst
  unfold lzRow at hx
  split at hx
  · injection hx with hx; subst hx; exact .inl (by simp)
  · rename_i h256
    split at hx
    · cases hx
    · rename_i hn
      split at hx
      · rename_i he
        injection hx with hx
        subst hx
        refine .inr ⟨fun e => hn (.inl e), ?_, by rw [List.length_append]; simp; omega⟩
        rcases Nat.lt_or_ge T.length 3838 with h1 | h1
        · exact h1
        · exact absurd (.inr (.inr ⟨he, by omega⟩)) hn
      · rename_i he
        injection hx with hx
        subst hx
        refine .inl (h.rows _ ?_)
        have h2 : ¬ (258 + T.length : Int) < c := fun e => hn (.inr (.inl e))
        omega
theorem lzD_len (M : Nat) (zs : List Int) : ∀ (f p : Nat) (T : List (List Int)) (last out : List Int), LenT T last → (lzD M zs f p T last out).1.length ≤ out.length + 3840 * f
  | 0, p, T, last, out, h => by simp [lzD]
  | f + 1, p, T, last, out, h => by
    rw [lzD]
    split
    · simp
    · rename_i hneg
      split
      · have := lzD_len M zs f (p + wdZ (258 + T.length)) [] [] out LenT.start
        omega
      · rename_i h256
        split
        · simp
        · rename_i h257
          split
          · simp
          · rename_i x hx
            split
            · have hlen := lzRow_len T last x _ h (by omega) hx
              have hn := h.next hlen
              have hf := hn.few
              have := lzD_len M zs f (p + wdZ (258 + T.length)) (lzT T last x) x (out ++ x) hn
              have hxl : x.length ≤ 3840 := by have := h.few; omega
              rw [List.length_append] at this
              omega
            · simp
theorem lzDec_len (M : Nat) (zs : List Int) : (lzDec M zs).1.length ≤ 3840 * (8 * zs.length + 1) := by
  have := lzD_len M zs (8 * zs.length + 1) 0 [] [] [] LenT.start
  simpa [lzDec] using this

/-- The rows that a row of one byte leaves in the table. -/
def rowsC (c : Int) (s m : Nat) : List (List Int) := (List.range' s m).map fun i => List.replicate (i + 2) c
theorem stL_rep (c : Int) (k a p : Nat) : stL (List.replicate k c) a (List.replicate p c) = decide (p ≤ k - a) := by
  rw [stL, List.length_replicate, List.drop_replicate, List.take_replicate]
  by_cases h : p ≤ k - a
  · rw [show min p (k - a) = p by omega, decide_eq_true h]; simp
  · rw [decide_eq_false h]
    refine beq_eq_false_iff_ne.2 (fun e => ?_)
    have := congrArg List.length e
    simp at this
    omega
theorem lzM_rep (c : Int) (k a : Nat) (ha : a < k) : ∀ (m s i : Nat) (cn : Nat × Nat), cn.2 = min (k - a) (s + 1) → (lzM (List.replicate k c) a (rowsC c s m) i cn).2 = min (k - a) (s + m + 1)
  | 0, s, i, cn, h => by rw [rowsC, List.range'_zero, List.map_nil, lzM]; exact h
  | m + 1, s, i, (c0, n), h => by
    rw [rowsC, List.range'_succ, List.map_cons, lzM]
    have ih := lzM_rep c k a ha m (s + 1) (i + 1)
    rw [rowsC] at ih
    dsimp only at h
    rw [ih _ ?_]
    · congr 1; omega
    · rw [stL_rep, List.length_replicate]
      by_cases hp : s + 2 ≤ k - a
      · rw [if_pos ⟨by omega, decide_eq_true hp⟩]; simp only; omega
      · rw [if_neg (fun h => hp (of_decide_eq_true h.2))]; simp only; omega
theorem best_rep (c : Int) (k a j : Nat) (ha : a < k) : (lzBest (List.replicate k c) a (rowsC c 0 j)).2 = min (k - a) (j + 1) := by
  rw [lzBest, lzM_rep c k a ha j 0 0 _ (by simp only; omega)]
  congr 1; omega
/-- How many bytes so many codes are. -/
def sumC : Nat → Nat → Nat
  | 0, _ => 0
  | t + 1, j => (j + 1) + sumC t (j + 1)
theorem sumC_tri : ∀ t j, 2 * sumC t j = t * (t + 1) + 2 * (j * t)
  | 0, j => by simp [sumC]
  | t + 1, j => by
    rw [sumC, Nat.mul_add, sumC_tri t (j + 1)]
    simp only [Nat.mul_add, Nat.add_mul, Nat.mul_one, Nat.one_mul]
    omega
theorem lzB_rep (c : Int) (k : Nat) : ∀ (t f a j reads : Nat) (first : Bool), k - a ≤ sumC t j → j + t < 3838 → k ≤ a + f → (lzB (List.replicate k c) f a (rowsC c 0 j) reads first).length ≤ 12 * (t + 1)
  | 0, f, a, j, reads, first, h, hj, hf => by
    have := wdZ_bd reads
    simp only [sumC] at h
    rw [lzB_out _ _ _ _ _ _ (by rw [List.length_replicate]; omega), hiB_len]; omega
  | t + 1, f, a, j, reads, first, h, hj, hf => by
    have hw := wdZ_bd reads
    by_cases ha : a < k
    · obtain ⟨f, rfl⟩ : ∃ g, f = g + 1 := ⟨f - 1, by omega⟩
      have hb := best_rep c k a j ha
      have hrl : (rowsC c 0 j).length = j := by simp [rowsC]
      rw [sumC] at h
      rw [lzB, if_pos (by rw [List.length_replicate]; exact ha), List.length_append, hiB_len, hb, hrl, List.length_replicate]
      by_cases hm : a + min (k - a) (j + 1) < k
      · have hn : min (k - a) (j + 1) = j + 1 := by omega
        rw [if_pos hm, if_neg (by omega), hn]
        have e : rowsC c 0 j ++ [(List.drop a (List.replicate k c)).take (j + 1 + 1)] = rowsC c 0 (j + 1) := by
          rw [rowsC, rowsC, List.range'_1_concat, List.map_append, List.drop_replicate, List.take_replicate, show min (j + 1 + 1) (k - a) = j + 2 by omega]
          simp
        rw [e]
        have ih := lzB_rep c k t f (a + (j + 1)) (j + 1) (lzN reads first) false (by omega) (by omega) (by omega)
        omega
      · rw [if_neg hm, lzB_out _ _ _ _ _ _ (by rw [List.length_replicate]; omega), hiB_len]
        have := wdZ_bd (lzN reads first)
        omega
    · rw [lzB_out _ _ _ _ _ _ (by rw [List.length_replicate]; omega), hiB_len]; omega
theorem lzEnc_rep (c : Int) (k t : Nat) (h : k ≤ t * (t + 1) / 2) (ht : t < 3838) : (lzEnc (List.replicate k c)).length ≤ (12 * (t + 1) + 16) / 8 := by
  have hs := sumC_tri t 0
  have hl := lzB_rep c k t k 0 0 258 true (by omega) (by omega) (by omega)
  rw [lzEnc_len, lzBits, List.length_append, hiB_len, List.length_replicate]
  have e : rowsC c 0 0 = [] := rfl
  rw [e] at hl
  omega
end Go.Proofs.Ytpnnejedfccckaa
