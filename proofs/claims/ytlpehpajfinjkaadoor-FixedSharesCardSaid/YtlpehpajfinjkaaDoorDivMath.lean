/- Arithmetic of a division of 128 bits by 64 (Go's own text: two digits of 32 bits, each guessed and put right). -/
import Derived.Test.YtlpehpajfinjkaaDoorRef2WideMath
import Derived.Lib.BitFns
namespace Go.Proofs.YtlpehpajfinjkaaDoor
set_option linter.unusedVariables false

theorem bitLenAux_bd : ∀ (f x : Nat), x < 2 ^ f → x < 2 ^ Lib.bitLenAux f x ∧ (x ≠ 0 → 2 ^ Lib.bitLenAux f x ≤ 2 * x) ∧ Lib.bitLenAux f x ≤ f
  | 0, x, h => by simp at h; subst h; simp [Lib.bitLenAux]
  | f + 1, x, h => by
    rw [Lib.bitLenAux]
    by_cases h0 : x = 0
    · subst h0; simp
    · rw [if_neg h0]
      obtain ⟨h1, h2, h3⟩ := bitLenAux_bd f (x / 2) (by rw [Nat.pow_succ] at h; omega)
      have e : 2 ^ (1 + Lib.bitLenAux f (x / 2)) = 2 * 2 ^ Lib.bitLenAux f (x / 2) := by rw [Nat.add_comm, Nat.pow_succ, Nat.mul_comm]
      rw [e]
      refine ⟨by omega, fun _ => ?_, by omega⟩
      by_cases hx : x / 2 = 0
      · have : Lib.bitLenAux f (x / 2) = 0 := by rw [hx]; cases f <;> simp [Lib.bitLenAux]
        rw [this]; omega
      · have := h2 hx; omega
/-- How far a number is from its highest bit: put there, the highest bit is set. -/
theorem shift_top (y : Nat) (h0 : 0 < y) (h : y < 9223372036854775808) : ∃ s : Nat, 1 ≤ s ∧ s ≤ 63 ∧ (64 - (Lib.bitLen y : Int)) = s ∧ 9223372036854775808 ≤ y * 2 ^ s ∧ y * 2 ^ s < 18446744073709551616 := by
  obtain ⟨h1, h2, h3⟩ := bitLenAux_bd 64 y (by omega)
  have hl : Lib.bitLenAux 64 y ≤ 63 := by
    rcases Nat.lt_or_ge 63 (Lib.bitLenAux 64 y) with h4 | h4
    · have : 2 ^ 64 ≤ 2 ^ Lib.bitLenAux 64 y := Nat.pow_le_pow_right (by omega) (by omega)
      have := h2 (by omega)
      omega
    · exact h4
  have hl1 : 1 ≤ Lib.bitLenAux 64 y := by
    rcases Nat.eq_zero_or_pos (Lib.bitLenAux 64 y) with h4 | h4
    · rw [h4] at h1; omega
    · exact h4
  refine ⟨64 - Lib.bitLenAux 64 y, by omega, by omega, by unfold Lib.bitLen; omega, ?_, ?_⟩
  · have e : 2 ^ Lib.bitLenAux 64 y * 2 ^ (64 - Lib.bitLenAux 64 y) = 2 ^ 64 := by rw [← Nat.pow_add]; congr 1; omega
    have := Nat.mul_le_mul_right (2 ^ (64 - Lib.bitLenAux 64 y)) (h2 (by omega))
    rw [e, Nat.mul_assoc] at this
    omega
  · have e : 2 ^ Lib.bitLenAux 64 y * 2 ^ (64 - Lib.bitLenAux 64 y) = 2 ^ 64 := by rw [← Nat.pow_add]; congr 1; omega
    have := Nat.mul_lt_mul_of_pos_right h1 (Nat.two_pow_pos (64 - Lib.bitLenAux 64 y))
    rw [e] at this
    omega

/-- A digit guessed: u = q * y1 + r; what is guessed is never below the digit. V = y1 * 2^32 + y0. -/
structure Guess (u d y1 y0 q r : Nat) : Prop where
  sum : u = q * y1 + r
  up : (u * 4294967296 + d) / (y1 * 4294967296 + y0) ≤ q
  q1 : q ≤ 4294967297

theorem guess_start (u d y1 y0 : Nat) (hy1 : 2147483648 ≤ y1) (hy0 : y0 < 4294967296) (hd : d < 4294967296) (hu : u < y1 * 4294967296 + y0) :
    Guess u d y1 y0 (u / y1) (u % y1) := by
  refine ⟨by have := Nat.div_add_mod u y1; rw [Nat.mul_comm] at this; omega, ?_, ?_⟩
  · refine Nat.lt_succ_iff.1 (Nat.div_lt_of_lt_mul ?_)
    have h1 : u < (u / y1 + 1) * y1 := by
      have := Nat.div_add_mod u y1
      have := Nat.mod_lt u (show 0 < y1 by omega)
      rw [Nat.add_mul, Nat.mul_comm (u / y1)]; omega
    obtain ⟨t, ht⟩ : ∃ t, u / y1 + 1 = t := ⟨_, rfl⟩
    rw [Nat.succ_eq_add_one, ht]
    rw [ht] at h1
    have h3 : (y1 * 4294967296 + y0) * t = t * y1 * 4294967296 + y0 * t := by rw [Nat.add_mul, Nat.mul_right_comm, Nat.mul_comm y1 t]
    rw [h3]
    omega
  · rcases Nat.lt_or_ge 4294967297 (u / y1) with h | h
    · have h1 := Nat.mul_le_mul_right y1 (show 4294967298 ≤ u / y1 by omega)
      have h2 := Nat.div_mul_le_self u y1
      omega
    · exact h

/-- One too many: the digit is below it. -/
theorem guess_less (u d y1 y0 q r : Nat) (hy1 : 2147483648 ≤ y1) (hu : u < y1 * 4294967296 + y0) (hd : d < 4294967296) (h : Guess u d y1 y0 q r)
    (hc : 4294967296 ≤ q ∨ 4294967296 * r + d < q * y0) : 1 ≤ q ∧ Guess u d y1 y0 (q - 1) (r + y1) := by
  have hV : q * (y1 * 4294967296 + y0) = q * y1 * 4294967296 + q * y0 := by rw [Nat.mul_add, Nat.mul_assoc]
  have hbig : u * 4294967296 + d < q * (y1 * 4294967296 + y0) := by
    rcases hc with hc | hc
    · have h1 := Nat.mul_le_mul_right (y1 * 4294967296 + y0) hc
      omega
    · have := h.sum
      rw [hV]
      omega
  have hq : 1 ≤ q := by
    rcases Nat.eq_zero_or_pos q with h0 | h0
    · rw [h0] at hbig; omega
    · exact h0
  have hdiv : (u * 4294967296 + d) / (y1 * 4294967296 + y0) < q := Nat.div_lt_of_lt_mul (by rw [Nat.mul_comm (y1 * 4294967296 + y0) q]; exact hbig)
  refine ⟨hq, ?_, by omega, by have := h.q1; omega⟩
  obtain ⟨p, rfl⟩ : ∃ p, q = p + 1 := ⟨q - 1, by omega⟩
  have := h.sum
  rw [Nat.add_mul] at this
  simp only [Nat.add_sub_cancel]
  omega

/-- Not too many: it is the digit. -/
theorem guess_end (u d y1 y0 q r : Nat) (hy1 : 2147483648 ≤ y1) (h : Guess u d y1 y0 q r) (hc : q * y0 ≤ 4294967296 * r + d) :
    q = (u * 4294967296 + d) / (y1 * 4294967296 + y0) := by
  refine Nat.le_antisymm ?_ h.up
  refine (Nat.le_div_iff_mul_le (by omega)).2 ?_
  have hV : q * (y1 * 4294967296 + y0) = q * y1 * 4294967296 + q * y0 := by rw [Nat.mul_add, Nat.mul_assoc]
  have := h.sum
  rw [hV]
  omega
theorem guess_end2 (u d y1 y0 q r : Nat) (hy1 : 2147483648 ≤ y1) (hy0 : y0 < 4294967296) (h : Guess u d y1 y0 q r) (hq : q ≤ 4294967296) (hr : 4294967296 ≤ r) :
    q = (u * 4294967296 + d) / (y1 * 4294967296 + y0) := by
  refine guess_end u d y1 y0 q r hy1 h ?_
  have h1 := Nat.mul_le_mul hq (Nat.le_of_lt hy0)
  have h2 := Nat.mul_le_mul_left 4294967296 hr
  omega

/-- The digit is below 2^32, what is left is below V. -/
theorem digit_lt (u d V : Nat) (hd : d < 4294967296) (hu : u < V) : (u * 4294967296 + d) / V < 4294967296 := by
  refine Nat.div_lt_of_lt_mul ?_
  have := Nat.mul_le_mul_right 4294967296 (show u + 1 ≤ V from hu)
  omega
theorem left_of (u d V q : Nat) (hq : q = (u * 4294967296 + d) / V) (hV : 0 < V) : u * 4294967296 + d = q * V + (u * 4294967296 + d) % V ∧ (u * 4294967296 + d) % V < V := by
  have := Nat.div_add_mod (u * 4294967296 + d) V
  rw [← hq, Nat.mul_comm] at this
  exact ⟨this.symm, Nat.mod_lt _ hV⟩
/-- Two digits make the whole. -/
theorem two_digits (u d1 d0 V q1 q0 r1 : Nat) (hd0 : d0 < 4294967296) (h1 : u * 4294967296 + d1 = q1 * V + r1) (hr1 : r1 < V) (hq0 : q0 = (r1 * 4294967296 + d0) / V) :
    ((u * 4294967296 + d1) * 4294967296 + d0) / V = q1 * 4294967296 + q0 := by
  have hV : 0 < V := by omega
  rw [h1, Nat.add_mul, Nat.add_assoc, show q1 * V * 4294967296 = V * (q1 * 4294967296) by rw [Nat.mul_comm q1 V, Nat.mul_assoc], Nat.mul_add_div hV, ← hq0]
/-- Shifted both, the quotient is the same. -/
theorem shift_div (H L y s : Nat) (hy : 0 < y) : (H * 18446744073709551616 + L) * 2 ^ s / (y * 2 ^ s) = (H * 18446744073709551616 + L) / y :=
  Nat.mul_div_mul_right _ _ (Nat.two_pow_pos s)
/-- The dividend's digits: 64 bits above, and two of 32. -/
theorem shift_parts (H L y s : Nat) (hs1 : 1 ≤ s) (hs : s ≤ 63) (hH : H < y) (hy : y * 2 ^ s < 18446744073709551616) (hL : L < 18446744073709551616) :
    (H * 18446744073709551616 + L) * 2 ^ s = (H * 2 ^ s + L / 2 ^ (64 - s)) * 18446744073709551616 + L * 2 ^ s % 18446744073709551616 ∧
    H * 2 ^ s + L / 2 ^ (64 - s) < y * 2 ^ s ∧ L / 2 ^ (64 - s) < 2 ^ s := by
  have e : 2 ^ (64 - s) * 2 ^ s = 18446744073709551616 := by rw [← Nat.pow_add, show 64 - s + s = 64 by omega]
  have hlt : L / 2 ^ (64 - s) < 2 ^ s := Nat.div_lt_of_lt_mul (by rw [e]; exact hL)
  have h1 : L * 2 ^ s / 18446744073709551616 = L / 2 ^ (64 - s) := by
    rw [← e]; exact Nat.mul_div_mul_right _ _ (Nat.two_pow_pos s)
  have h2 := Nat.div_add_mod (L * 2 ^ s) 18446744073709551616
  rw [h1] at h2
  refine ⟨?_, ?_, hlt⟩
  · rw [Nat.add_mul, Nat.add_mul, Nat.mul_right_comm H]
    omega
  · have := Nat.mul_le_mul_right (2 ^ s) (show H + 1 ≤ y from hH)
    rw [Nat.add_mul] at this
    omega
end Go.Proofs.YtlpehpajfinjkaaDoor
