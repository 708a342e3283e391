/- Chapter 8, pure: a bit more in bytes, the highest first. -/
import Derived.Test.YtpnnejedfccckaaLy8
namespace Go.Proofs.Ytpnnejedfccckaa
open Go.RowKit
set_option linter.unusedVariables false
set_option maxRecDepth 100000

theorem getD_snoc (B : List Int) (x : Int) (i : Nat) : (B ++ [x]).getD i 0 = if i < B.length then B.getD i 0 else if i = B.length then x else 0 := by
  simp only [List.getD]
  by_cases h : i < B.length
  · rw [if_pos h, List.getElem?_append_left h]
  · rw [if_neg h, List.getElem?_append_right (by omega)]
    by_cases h2 : i = B.length
    · subst h2; simp
    · rw [if_neg h2, List.getElem?_eq_none (by simp; omega)]; rfl
theorem getD_past (B : List Int) (i : Nat) (h : B.length ≤ i) : B.getD i 0 = 0 := by simp [List.getD, List.getElem?_eq_none h]
theorem bz8_same (B : List Int) (x : Int) (j : Nat) (h : 8 * j + 8 ≤ B.length) : bz8 (B ++ [x]) j = bz8 B j := by
  unfold bz8
  simp only [getD_snoc]
  rw [if_pos (by omega), if_pos (by omega), if_pos (by omega), if_pos (by omega), if_pos (by omega), if_pos (by omega), if_pos (by omega), if_pos (by omega)]
theorem bz8_snoc (B : List Int) (x : Int) (Q R : Nat) (hN : B.length = 8 * Q + R) (hR : R < 8) : bz8 (B ++ [x]) Q = bz8 B Q + x * 2 ^ (7 - R) := by
  have hp : ∀ r, R ≤ r → B.getD (8 * Q + r) 0 = 0 := fun r hr => getD_past B _ (by omega)
  have hs : ∀ r, r < R → (B ++ [x]).getD (8 * Q + r) 0 = B.getD (8 * Q + r) 0 := fun r hr => by rw [getD_snoc, if_pos (by omega)]
  have he : (B ++ [x]).getD (8 * Q + R) 0 = x := by rw [getD_snoc, if_neg (by omega), if_pos (by omega)]
  have hz : ∀ r, R < r → (B ++ [x]).getD (8 * Q + r) 0 = 0 := fun r hr => by rw [getD_snoc, if_neg (by omega), if_neg (by omega)]
  have h0 : (B ++ [x]).getD (8 * Q) 0 = (B ++ [x]).getD (8 * Q + 0) 0 := rfl
  have h1 : B.getD (8 * Q) 0 = B.getD (8 * Q + 0) 0 := rfl
  unfold bz8
  rw [h0, h1]
  obtain rfl | rfl | rfl | rfl | rfl | rfl | rfl | rfl : R = 0 ∨ R = 1 ∨ R = 2 ∨ R = 3 ∨ R = 4 ∨ R = 5 ∨ R = 6 ∨ R = 7 := by omega
  · rw [he, hz 1 (by omega), hz 2 (by omega), hz 3 (by omega), hz 4 (by omega), hz 5 (by omega), hz 6 (by omega), hz 7 (by omega), hp 0 (by omega), hp 1 (by omega), hp 2 (by omega), hp 3 (by omega), hp 4 (by omega), hp 5 (by omega), hp 6 (by omega), hp 7 (by omega)]; simp
  · rw [hs 0 (by omega), he, hz 2 (by omega), hz 3 (by omega), hz 4 (by omega), hz 5 (by omega), hz 6 (by omega), hz 7 (by omega), hp 1 (by omega), hp 2 (by omega), hp 3 (by omega), hp 4 (by omega), hp 5 (by omega), hp 6 (by omega), hp 7 (by omega)]; simp
  · rw [hs 0 (by omega), hs 1 (by omega), he, hz 3 (by omega), hz 4 (by omega), hz 5 (by omega), hz 6 (by omega), hz 7 (by omega), hp 2 (by omega), hp 3 (by omega), hp 4 (by omega), hp 5 (by omega), hp 6 (by omega), hp 7 (by omega)]; simp
  · rw [hs 0 (by omega), hs 1 (by omega), hs 2 (by omega), he, hz 4 (by omega), hz 5 (by omega), hz 6 (by omega), hz 7 (by omega), hp 3 (by omega), hp 4 (by omega), hp 5 (by omega), hp 6 (by omega), hp 7 (by omega)]; simp
  · rw [hs 0 (by omega), hs 1 (by omega), hs 2 (by omega), hs 3 (by omega), he, hz 5 (by omega), hz 6 (by omega), hz 7 (by omega), hp 4 (by omega), hp 5 (by omega), hp 6 (by omega), hp 7 (by omega)]; simp
  · rw [hs 0 (by omega), hs 1 (by omega), hs 2 (by omega), hs 3 (by omega), hs 4 (by omega), he, hz 6 (by omega), hz 7 (by omega), hp 5 (by omega), hp 6 (by omega), hp 7 (by omega)]; simp
  · rw [hs 0 (by omega), hs 1 (by omega), hs 2 (by omega), hs 3 (by omega), hs 4 (by omega), hs 5 (by omega), he, hz 7 (by omega), hp 6 (by omega), hp 7 (by omega)]; simp
  · rw [hs 0 (by omega), hs 1 (by omega), hs 2 (by omega), hs 3 (by omega), hs 4 (by omega), hs 5 (by omega), hs 6 (by omega), he, hp 7 (by omega)]; simp
theorem bz8_low (B : List Int) (Q R : Nat) (hB : ∀ x ∈ B, 0 ≤ x ∧ x ≤ 1) (hN : B.length = 8 * Q + R) (hR : R < 8) : bz8 B Q % 2 ^ (8 - R) = 0 := by
  have hp : ∀ r, R ≤ r → B.getD (8 * Q + r) 0 = 0 := fun r hr => getD_past B _ (by omega)
  have h1 : B.getD (8 * Q) 0 = B.getD (8 * Q + 0) 0 := rfl
  unfold bz8
  rw [h1]
  obtain rfl | rfl | rfl | rfl | rfl | rfl | rfl | rfl : R = 0 ∨ R = 1 ∨ R = 2 ∨ R = 3 ∨ R = 4 ∨ R = 5 ∨ R = 6 ∨ R = 7 := by omega
  · rw [hp 0 (by omega), hp 1 (by omega), hp 2 (by omega), hp 3 (by omega), hp 4 (by omega), hp 5 (by omega), hp 6 (by omega), hp 7 (by omega)]; rfl
  · rw [hp 1 (by omega), hp 2 (by omega), hp 3 (by omega), hp 4 (by omega), hp 5 (by omega), hp 6 (by omega), hp 7 (by omega)]; simp only [Nat.reduceSub, Int.reducePow]; omega
  · rw [hp 2 (by omega), hp 3 (by omega), hp 4 (by omega), hp 5 (by omega), hp 6 (by omega), hp 7 (by omega)]; simp only [Nat.reduceSub, Int.reducePow]; omega
  · rw [hp 3 (by omega), hp 4 (by omega), hp 5 (by omega), hp 6 (by omega), hp 7 (by omega)]; simp only [Nat.reduceSub, Int.reducePow]; omega
  · rw [hp 4 (by omega), hp 5 (by omega), hp 6 (by omega), hp 7 (by omega)]; simp only [Nat.reduceSub, Int.reducePow]; omega
  · rw [hp 5 (by omega), hp 6 (by omega), hp 7 (by omega)]; simp only [Nat.reduceSub, Int.reducePow]; omega
  · rw [hp 6 (by omega), hp 7 (by omega)]; simp only [Nat.reduceSub, Int.reducePow]; omega
  · rw [hp 7 (by omega)]; simp only [Nat.reduceSub, Int.reducePow]; omega
/-- The bytes with room for one bit more. -/
def packR (B : List Int) : List Int := packZ B ++ (if B.length % 8 = 0 then [0] else [])
theorem packR_len (B : List Int) : (packR B).length = B.length / 8 + 1 := by
  rw [packR, List.length_append, packZ_len]
  split <;> simp <;> omega
theorem packR_get (B : List Int) (j : Nat) (h : j < B.length / 8 + 1) : (packR B).getD j 0 = bz8 B j := by
  rw [packR]
  by_cases hj : j < (B.length + 7) / 8
  · rw [← packZ_get B j hj]
    simp only [List.getD]
    rw [List.getElem?_append_left (by rw [packZ_len]; exact hj)]
  · have h8 : B.length % 8 = 0 := by omega
    have hj2 : j = B.length / 8 := by omega
    rw [if_pos h8]
    have : (packZ B).length = j := by rw [packZ_len]; omega
    simp only [List.getD]
    rw [List.getElem?_append_right (by omega), this, Nat.sub_self]
    unfold bz8
    rw [getD_past B _ (by omega), getD_past B _ (by omega), getD_past B _ (by omega), getD_past B _ (by omega), getD_past B _ (by omega), getD_past B _ (by omega), getD_past B _ (by omega), getD_past B _ (by omega)]
    rfl
theorem packZ_snoc (B : List Int) (x : Int) : packZ (B ++ [x]) = (packR B).set (B.length / 8) (bz8 B (B.length / 8) + x * 2 ^ (7 - B.length % 8)) := by
  apply list_eq_of_getD
  · rw [packZ_len, List.length_set, packR_len, List.length_append]; simp; omega
  · intro i hi
    rw [packZ_len, List.length_append, List.length_singleton] at hi
    rw [packZ_get _ i (by rw [List.length_append]; exact hi)]
    by_cases h : i = B.length / 8
    · subst h
      rw [bz8_snoc B x (B.length / 8) (B.length % 8) (by omega) (by omega)]
      have := packR_len B
      simp [List.getD, this]
    · rw [bz8_same B x i (by omega), ← packR_get B i (by omega)]
      simp only [List.getD]
      rw [List.getElem?_set_ne (by omega)]
theorem or_high8 (z x : Int) (r : Nat) (hr : r < 8) (z0 : 0 ≤ z) (z1 : z < 256) (zm : z % 2 ^ (8 - r) = 0) (x0 : x = 0 ∨ x = 1) : bits .or .u8 z (x * 2 ^ (7 - r)) = z + x * 2 ^ (7 - r) := by
  have e : ∀ a : Fin 256, ∀ r : Fin 8, (a.val : Int) % 2 ^ (8 - r.val) = 0 → bits .or .u8 (a.val : Int) (0 * 2 ^ (7 - r.val)) = (a.val : Int) + 0 * 2 ^ (7 - r.val) ∧ bits .or .u8 (a.val : Int) (1 * 2 ^ (7 - r.val)) = (a.val : Int) + 1 * 2 ^ (7 - r.val) := by decide +kernel
  obtain ⟨a, rfl⟩ : ∃ a : Nat, z = a := ⟨z.toNat, by omega⟩
  have h := e ⟨a, by omega⟩ ⟨r, hr⟩ zm
  rcases x0 with rfl | rfl
  · exact h.1
  · exact h.2
end Go.Proofs.Ytpnnejedfccckaa
