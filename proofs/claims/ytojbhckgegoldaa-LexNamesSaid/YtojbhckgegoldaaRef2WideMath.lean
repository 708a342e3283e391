/- Plain facts on the document's own 'wide': the product bit by bit, the quotient bit by bit; no program is walked here. -/
import Derived.WalkKit
import Derived.Below
import Derived.Lib.Hide
import Derived.IntWalk
import Derived.Laws.BitsAllLaws
import Derived.Laws.BitsLemmas
namespace Go.Proofs.Ytojbhckgegoldaa
open Go.RowKit
set_option linter.unusedVariables false

theorem u64w (x : Nat) (h : x < 18446744073709551616) : IntKind.u64.wrap (x : Int) = x := by
  rw [IntKind.wrap_u64]; omega
theorem ofInt_u64 (a : Nat) (ha : a < 18446744073709551616) : (BitVec.ofInt 64 (a : Int)).toNat = a := by
  rw [BitVec.ofInt_natCast, BitVec.toNat_ofNat]; exact Nat.mod_eq_of_lt (by omega)
theorem u64_or (a b : Nat) (ha : a < 18446744073709551616) (hb : b < 18446744073709551616) : bits .or .u64 (a : Int) (b : Int) = ((a ||| b : Nat) : Int) := by
  have hx : a ||| b < 2 ^ 64 := Nat.or_lt_two_pow (by omega) (by omega)
  show IntKind.u64.wrap ((BitVec.ofInt 64 (a : Int) ||| BitVec.ofInt 64 (b : Int)).toNat : Int) = _
  rw [BitVec.toNat_or, ofInt_u64 a ha, ofInt_u64 b hb, u64w _ (by omega)]
theorem u64_and (a b : Nat) (ha : a < 18446744073709551616) (hb : b < 18446744073709551616) : bits .and .u64 (a : Int) (b : Int) = ((a &&& b : Nat) : Int) := by
  have hx : a &&& b < 2 ^ 64 := Nat.and_lt_two_pow _ (by omega)
  show IntKind.u64.wrap ((BitVec.ofInt 64 (a : Int) &&& BitVec.ofInt 64 (b : Int)).toNat : Int) = _
  rw [BitVec.toNat_and, ofInt_u64 a ha, ofInt_u64 b hb, u64w _ (by omega)]
theorem or_two (h t : Nat) (ht : t < 2) : h * 2 ||| t = h * 2 + t := by
  have e := Nat.two_pow_add_eq_or_of_lt (i := 1) (b := t) (by omega) h
  rw [show h * 2 = 2 ^ 1 * h by omega, ← e]
theorem u64_and1 (x : Nat) (hx : x < 18446744073709551616) : bits .and .u64 (x : Int) 1 = ((x % 2 : Nat) : Int) := by
  have h := u64_and x 1 hx (by omega)
  rw [Nat.and_one_is_mod] at h
  exact h
theorem div_cast (b j : Nat) : (b : Int) / 2 ^ j = ((b / 2 ^ j : Nat) : Int) := by
  rw [Int.natCast_ediv]; simp

/-- The product so far: the bits of b from k on. -/
def Inv1 (a b k H L : Nat) : Prop := H * 18446744073709551616 + L = a * (b / 2 ^ k) ∧ L < 18446744073709551616

theorem div_step (b j : Nat) : b / 2 ^ j = 2 * (b / 2 ^ (j + 1)) + (b / 2 ^ j) % 2 := by
  have : b / 2 ^ (j + 1) = b / 2 ^ j / 2 := by rw [Nat.pow_succ, Nat.div_div_eq_div_mul]
  rw [this]; omega

/-- The test on the bit, as the walk has it. -/
theorem bit_of {b j : Nat} (hb : b < 18446744073709551616) (t : Bool) (h : (bits .and .u64 ((b : Int) / 2 ^ j) 1 == 1) = t) : (b / 2 ^ j) % 2 = if t = true then 1 else 0 := by
  have hlt : b / 2 ^ j < 18446744073709551616 := Nat.lt_of_le_of_lt (Nat.div_le_self _ _) hb
  rw [div_cast, u64_and1 _ hlt] at h
  have h2 := Nat.mod_lt (b / 2 ^ j) (show 0 < 2 by omega)
  cases t
  · have : ¬ (((b / 2 ^ j) % 2 : Nat) : Int) = 1 := by simpa using h
    simp; omega
  · have : (((b / 2 ^ j) % 2 : Nat) : Int) = 1 := by simpa using h
    simp; omega

/-- Twice the product so far. -/
theorem dbl (a b j H L : Nat) (ha : a < 9223372036854775808) (hb : b < 18446744073709551616) (h : Inv1 a b (j + 1) H L) :
    IntKind.u64.wrap ((H : Int) * 2) = ((H * 2 : Nat) : Int) ∧ bits .or .u64 (IntKind.u64.wrap ((H : Int) * 2)) ((L : Int) / 9223372036854775808) = ((H * 2 + L / 9223372036854775808 : Nat) : Int) ∧
    IntKind.u64.wrap ((L : Int) * 2) = ((L * 2 % 18446744073709551616 : Nat) : Int) ∧ H < 4611686018427387904 := by
  obtain ⟨h1, h2⟩ := h
  have h3 : a * (b / 2 ^ (j + 1)) ≤ a * (b / 2) := Nat.mul_le_mul_left _ (by
    rw [Nat.pow_succ, Nat.mul_comm, ← Nat.div_div_eq_div_mul]
    exact Nat.div_le_self _ _)
  have h4 : a * (b / 2) ≤ 9223372036854775808 * (b / 2) := Nat.mul_le_mul_right _ (by omega)
  have hH : H < 4611686018427387904 := by omega
  have e1 : IntKind.u64.wrap ((H : Int) * 2) = ((H * 2 : Nat) : Int) := by
    rw [show (H : Int) * 2 = ((H * 2 : Nat) : Int) by omega, u64w _ (by omega)]
  refine ⟨e1, ?_, ?_, hH⟩
  · rw [e1, show (L : Int) / 9223372036854775808 = ((L / 9223372036854775808 : Nat) : Int) by omega, u64_or _ _ (by omega) (by omega), or_two _ _ (by omega)]
  · rw [IntKind.wrap_u64]; omega

theorem n1 (H L : Nat) : (H * 2 + L / 9223372036854775808) * 18446744073709551616 + L * 2 % 18446744073709551616 = 2 * (H * 18446744073709551616 + L) := by omega
theorem n2 (H L a : Nat) (ha : a < 9223372036854775808) (hc : L * 2 % 18446744073709551616 ≤ (L * 2 % 18446744073709551616 + a) % 18446744073709551616) : (H * 2 + L / 9223372036854775808) * 18446744073709551616 + (L * 2 % 18446744073709551616 + a) % 18446744073709551616 = 2 * (H * 18446744073709551616 + L) + a := by omega
theorem n3 (H L a : Nat) (ha : a < 9223372036854775808) (hc : (L * 2 % 18446744073709551616 + a) % 18446744073709551616 < L * 2 % 18446744073709551616) : (H * 2 + L / 9223372036854775808 + 1) * 18446744073709551616 + (L * 2 % 18446744073709551616 + a) % 18446744073709551616 = 2 * (H * 18446744073709551616 + L) + a := by omega

theorem r1_zero (a b j H L : Nat) (ha : a < 9223372036854775808) (hb : b < 18446744073709551616) (h : Inv1 a b (j + 1) H L) (hbit : (bits .and .u64 ((b : Int) / 2 ^ j) 1 == 1) = false) :
    ∃ H' L' : Nat, bits .or .u64 (IntKind.u64.wrap ((H : Int) * 2)) ((L : Int) / 9223372036854775808) = (H' : Int) ∧ IntKind.u64.wrap ((L : Int) * 2) = (L' : Int) ∧ Inv1 a b j H' L' := by
  obtain ⟨_, e2, e3, hH⟩ := dbl a b j H L ha hb h
  have hb0 := bit_of hb false hbit
  obtain ⟨h1, h2⟩ := h
  suffices hI : Inv1 a b j (H * 2 + L / 9223372036854775808) (L * 2 % 18446744073709551616) from ⟨_, _, e2, e3, hI⟩
  unfold Inv1
  have hm : ∀ x : Nat, x % 18446744073709551616 < 18446744073709551616 := fun x => by omega
  refine And.intro ?_ (hm _)
  clear hm
  rw [div_step b j, hb0]
  have e : a * (2 * (b / 2 ^ (j + 1)) + 0) = 2 * (a * (b / 2 ^ (j + 1))) := by rw [Nat.add_zero, Nat.mul_left_comm]
  simp only [Bool.false_eq_true, if_false]
  rw [e, ← h1]
  exact n1 H L
theorem r1_one (a b j H L : Nat) (ha : a < 9223372036854775808) (hb : b < 18446744073709551616) (h : Inv1 a b (j + 1) H L) (hbit : (bits .and .u64 ((b : Int) / 2 ^ j) 1 == 1) = true)
    (hc : IntKind.u64.wrap ((L : Int) * 2) ≤ IntKind.u64.wrap (IntKind.u64.wrap ((L : Int) * 2) + (a : Int))) :
    ∃ H' L' : Nat, bits .or .u64 (IntKind.u64.wrap ((H : Int) * 2)) ((L : Int) / 9223372036854775808) = (H' : Int) ∧ IntKind.u64.wrap (IntKind.u64.wrap ((L : Int) * 2) + (a : Int)) = (L' : Int) ∧ Inv1 a b j H' L' := by
  obtain ⟨_, e2, e3, hH⟩ := dbl a b j H L ha hb h
  have hb0 := bit_of hb true hbit
  obtain ⟨h1, h2⟩ := h
  have e4 : IntKind.u64.wrap (IntKind.u64.wrap ((L : Int) * 2) + (a : Int)) = (((L * 2 % 18446744073709551616 + a) % 18446744073709551616 : Nat) : Int) := by rw [e3, IntKind.wrap_u64]; omega
  rw [e4, e3] at hc
  suffices hI : Inv1 a b j (H * 2 + L / 9223372036854775808) ((L * 2 % 18446744073709551616 + a) % 18446744073709551616) from ⟨_, _, e2, e4, hI⟩
  unfold Inv1
  have hm : ∀ x : Nat, x % 18446744073709551616 < 18446744073709551616 := fun x => by omega
  refine And.intro ?_ (hm _)
  clear hm
  rw [div_step b j, hb0]
  have e : a * (2 * (b / 2 ^ (j + 1)) + 1) = 2 * (a * (b / 2 ^ (j + 1))) + a := by rw [Nat.mul_add, Nat.mul_left_comm, Nat.mul_one]
  simp only [if_true]
  rw [e, ← h1]
  exact n2 H L a ha (by exact_mod_cast hc)
theorem r1_carry (a b j H L : Nat) (ha : a < 9223372036854775808) (hb : b < 18446744073709551616) (h : Inv1 a b (j + 1) H L) (hbit : (bits .and .u64 ((b : Int) / 2 ^ j) 1 == 1) = true)
    (hc : IntKind.u64.wrap (IntKind.u64.wrap ((L : Int) * 2) + (a : Int)) < IntKind.u64.wrap ((L : Int) * 2)) :
    ∃ H' L' : Nat, IntKind.u64.wrap (bits .or .u64 (IntKind.u64.wrap ((H : Int) * 2)) ((L : Int) / 9223372036854775808) + 1) = (H' : Int) ∧ IntKind.u64.wrap (IntKind.u64.wrap ((L : Int) * 2) + (a : Int)) = (L' : Int) ∧ Inv1 a b j H' L' := by
  obtain ⟨_, e2, e3, hH⟩ := dbl a b j H L ha hb h
  have hb0 := bit_of hb true hbit
  obtain ⟨h1, h2⟩ := h
  have e4 : IntKind.u64.wrap (IntKind.u64.wrap ((L : Int) * 2) + (a : Int)) = (((L * 2 % 18446744073709551616 + a) % 18446744073709551616 : Nat) : Int) := by rw [e3, IntKind.wrap_u64]; omega
  rw [e4, e3] at hc
  have e5 : IntKind.u64.wrap (bits .or .u64 (IntKind.u64.wrap ((H : Int) * 2)) ((L : Int) / 9223372036854775808) + 1) = ((H * 2 + L / 9223372036854775808 + 1 : Nat) : Int) := by rw [e2, IntKind.wrap_u64]; omega
  suffices hI : Inv1 a b j (H * 2 + L / 9223372036854775808 + 1) ((L * 2 % 18446744073709551616 + a) % 18446744073709551616) from ⟨_, _, e5, e4, hI⟩
  unfold Inv1
  have hm : ∀ x : Nat, x % 18446744073709551616 < 18446744073709551616 := fun x => by omega
  refine And.intro ?_ (hm _)
  clear hm
  rw [div_step b j, hb0]
  have e : a * (2 * (b / 2 ^ (j + 1)) + 1) = 2 * (a * (b / 2 ^ (j + 1))) + a := by rw [Nat.mul_add, Nat.mul_left_comm, Nat.mul_one]
  simp only [if_true]
  rw [e, ← h1]
  exact n3 H L a ha (by exact_mod_cast hc)
theorem r1_start (a b : Nat) (hb : b < 18446744073709551616) : Inv1 a b 64 0 0 := by
  refine ⟨?_, by omega⟩
  rw [Nat.div_eq_of_lt (by omega)]
  omega

/-- The quotient so far: of the bits of N from k on. -/
def Inv2 (N c k Q R : Nat) : Prop := Q * c + R = N / 2 ^ k ∧ R < c ∧ Q < 18446744073709551616
theorem r2_start (N c : Nat) (hc : 0 < c) (hN : N < 2 ^ 128) : Inv2 N c 128 0 0 := by
  refine ⟨?_, hc, by omega⟩
  rw [Nat.div_eq_of_lt hN]; omega
theorem top_true {x : Nat} (h : ((x : Int) / 9223372036854775808 == 1) = true) (hx : x < 18446744073709551616) : 9223372036854775808 ≤ x := by
  have : (x : Int) / 9223372036854775808 = 1 := by simpa using h
  omega
theorem top_false {x : Nat} (h : ((x : Int) / 9223372036854775808 == 1) = false) (hx : x < 18446744073709551616) : x < 9223372036854775808 := by
  have : ¬ (x : Int) / 9223372036854775808 = 1 := by simpa using h
  omega
theorem bit_lo {H L j : Nat} (hL : L < 18446744073709551616) (hj : j < 64) : (H * 18446744073709551616 + L) / 2 ^ j % 2 = L / 2 ^ j % 2 := by
  have e : H * 18446744073709551616 = 2 ^ j * (H * 2 ^ (63 - j) * 2) := by
    have h : 18446744073709551616 = 2 ^ j * (2 ^ (63 - j) * 2) := by
      rw [← Nat.pow_succ, ← Nat.pow_add, show j + (63 - j).succ = 64 by omega]
    rw [h, Nat.mul_left_comm, Nat.mul_assoc H]
  rw [e, Nat.mul_add_div (Nat.two_pow_pos j)]
  omega
theorem bit_hi {H L j : Nat} (hL : L < 18446744073709551616) (hj : 64 ≤ j) : (H * 18446744073709551616 + L) / 2 ^ j = H / 2 ^ (j - 64) := by
  have e : 2 ^ j = 18446744073709551616 * 2 ^ (j - 64) := by
    have : (18446744073709551616 : Nat) = 2 ^ 64 := by decide
    rw [this, ← Nat.pow_add, show 64 + (j - 64) = j by omega]
  rw [e, ← Nat.div_div_eq_div_mul, Nat.mul_comm H, Nat.mul_add_div (by omega), Nat.div_eq_of_lt hL, Nat.add_zero]
theorem bitE_hi {H L j : Nat} (hH : H < 18446744073709551616) (hL : L < 18446744073709551616) (hj : 64 ≤ j) :
    bits .and .u64 ((H : Int) / 2 ^ (j - 64)) 1 = (((H * 18446744073709551616 + L) / 2 ^ j % 2 : Nat) : Int) := by
  rw [bit_hi hL hj, div_cast, u64_and1 _ (Nat.lt_of_le_of_lt (Nat.div_le_self _ _) hH)]
theorem and63 {j : Nat} (hj : j < 64) : bits .and .i64 (j : Int) 63 = (j : Int) := by
  have f : ∀ x : Nat, x < 9223372036854775808 → (BitVec.ofInt 64 (x : Int)).toNat = x := fun x hx => by
    rw [BitVec.ofInt_natCast, BitVec.toNat_ofNat]; exact Nat.mod_eq_of_lt (by omega)
  show IntKind.i64.wrap ((BitVec.ofInt 64 (j : Int) &&& BitVec.ofInt 64 ((63 : Nat) : Int)).toNat : Int) = _
  rw [BitVec.toNat_and, f _ (by omega), f _ (by omega)]
  have e : j &&& 63 = j := by
    have := Nat.and_two_pow_sub_one_eq_mod j 6
    rw [show (63 : Nat) = 2 ^ 6 - 1 by decide, this]
    omega
  rw [e, IntWalk.i64_in _ (by omega)]
theorem bitE_lo {H L j : Nat} (hL : L < 18446744073709551616) (hj : j < 64) :
    bits .and .u64 ((L : Int) / 2 ^ min (IntKind.u64.wrap (bits .and .i64 (j : Int) 63)).toNat 64) 1 = (((H * 18446744073709551616 + L) / 2 ^ j % 2 : Nat) : Int) := by
  rw [and63 hj, u64w j (by omega), Int.toNat_natCast, Nat.min_eq_left (by omega), bit_lo hL hj, div_cast, u64_and1 _ (Nat.lt_of_le_of_lt (Nat.div_le_self _ _) hL)]

theorem r2_top {N c j Q R : Nat} (h : Inv2 N c (j + 1) Q R) (ht : ((Q : Int) / 9223372036854775808 == 1) = true) : 18446744073709551616 ≤ N / c := by
  obtain ⟨h1, h2, h3⟩ := h
  have hq := top_true ht h3
  have hc : 0 < c := by omega
  rw [Nat.le_div_iff_mul_le hc]
  have h4 : Q * c ≤ N / 2 ^ (j + 1) := by omega
  have h5 : N / 2 ^ (j + 1) ≤ N / 2 := by
    rw [Nat.pow_succ, Nat.mul_comm, ← Nat.div_div_eq_div_mul]
    exact Nat.div_le_self _ _
  have h6 : 9223372036854775808 * c ≤ Q * c := Nat.mul_le_mul_right _ hq
  omega
theorem r2_x {N c j Q R : Nat} (hc : c < 9223372036854775808) (h : Inv2 N c (j + 1) Q R) {E : Int} (hE : E = ((N / 2 ^ j % 2 : Nat) : Int)) :
    bits .or .u64 (IntKind.u64.wrap ((R : Int) * 2)) E = ((R * 2 + N / 2 ^ j % 2 : Nat) : Int) := by
  obtain ⟨_, h2, _⟩ := h
  rw [hE, show (R : Int) * 2 = ((R * 2 : Nat) : Int) by omega, u64w _ (by omega), u64_or _ _ (by omega) (by omega), or_two _ _ (by omega)]
theorem r2_keep {N c j Q R : Nat} (hc : c < 9223372036854775808) (h : Inv2 N c (j + 1) Q R) {E : Int} (hE : E = ((N / 2 ^ j % 2 : Nat) : Int))
    (hq : ((Q : Int) / 9223372036854775808 == 1) = false) (hx : bits .or .u64 (IntKind.u64.wrap ((R : Int) * 2)) E < (c : Int)) :
    ∃ Q' R' : Nat, IntKind.u64.wrap ((Q : Int) * 2) = (Q' : Int) ∧ bits .or .u64 (IntKind.u64.wrap ((R : Int) * 2)) E = (R' : Int) ∧ Inv2 N c j Q' R' := by
  have e := r2_x hc h hE
  rw [e] at hx
  obtain ⟨h1, h2, h3⟩ := h
  have hq2 := top_false hq h3
  suffices hI : Inv2 N c j (Q * 2) (R * 2 + N / 2 ^ j % 2) from ⟨_, _, by rw [show (Q : Int) * 2 = ((Q * 2 : Nat) : Int) by omega, u64w _ (by omega)], e, hI⟩
  unfold Inv2
  refine And.intro ?_ (And.intro (by omega) (by omega))
  have hs := div_step N j
  rw [hs, ← h1, Nat.mul_right_comm Q 2 c]
  omega
theorem r2_sub {N c j Q R : Nat} (hc : c < 9223372036854775808) (h : Inv2 N c (j + 1) Q R) {E : Int} (hE : E = ((N / 2 ^ j % 2 : Nat) : Int))
    (hq : ((Q : Int) / 9223372036854775808 == 1) = false) (hx : (c : Int) ≤ bits .or .u64 (IntKind.u64.wrap ((R : Int) * 2)) E) :
    ∃ Q' R' : Nat, bits .or .u64 (IntKind.u64.wrap ((Q : Int) * 2)) 1 = (Q' : Int) ∧ IntKind.u64.wrap (bits .or .u64 (IntKind.u64.wrap ((R : Int) * 2)) E - (c : Int)) = (R' : Int) ∧ Inv2 N c j Q' R' := by
  have e := r2_x hc h hE
  rw [e] at hx
  obtain ⟨h1, h2, h3⟩ := h
  have hq2 := top_false hq h3
  have e1 : bits .or .u64 (IntKind.u64.wrap ((Q : Int) * 2)) 1 = ((Q * 2 + 1 : Nat) : Int) := by
    rw [show (Q : Int) * 2 = ((Q * 2 : Nat) : Int) by omega, u64w _ (by omega)]
    have h := u64_or (Q * 2) 1 (by omega) (by omega)
    rw [or_two _ _ (by omega)] at h
    exact h
  have e2 : IntKind.u64.wrap (bits .or .u64 (IntKind.u64.wrap ((R : Int) * 2)) E - (c : Int)) = ((R * 2 + N / 2 ^ j % 2 - c : Nat) : Int) := by
    rw [e, show ((R * 2 + N / 2 ^ j % 2 : Nat) : Int) - (c : Int) = ((R * 2 + N / 2 ^ j % 2 - c : Nat) : Int) by omega, u64w _ (by omega)]
  suffices hI : Inv2 N c j (Q * 2 + 1) (R * 2 + N / 2 ^ j % 2 - c) from ⟨_, _, e1, e2, hI⟩
  unfold Inv2
  refine And.intro ?_ (And.intro (by omega) (by omega))
  have hs := div_step N j
  rw [hs, ← h1, Nat.add_mul, Nat.mul_right_comm Q 2 c]
  omega
theorem r2_over {N c k Q R : Nat} (hc : c < 9223372036854775808) (h : Inv2 N c k Q R) (ho : (R : Int) / 9223372036854775808 = 1) : False := by
  obtain ⟨_, h2, _⟩ := h
  omega
theorem r2_end {N c Q R : Nat} (h : Inv2 N c 0 Q R) : N / c = Q ∧ N / c < 18446744073709551616 := by
  obtain ⟨h1, h2, h3⟩ := h
  have hc : 0 < c := by omega
  have e : N = c * Q + R := by rw [Nat.pow_zero, Nat.div_one] at h1; rw [Nat.mul_comm]; exact h1.symm
  have e2 : N / c = Q := by rw [e, Nat.mul_add_div hc, Nat.div_eq_of_lt h2, Nat.add_zero]
  exact ⟨e2, by rw [e2]; exact h3⟩
end Go.Proofs.Ytojbhckgegoldaa
