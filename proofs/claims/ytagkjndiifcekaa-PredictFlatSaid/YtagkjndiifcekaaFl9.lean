/- Chapter 9, pure: rows that are alike, of one colour: the differences are noughts behind the first. -/
import Derived.Test.YtagkjndiifcekaaBk9
namespace Go.Proofs.Ytagkjndiifcekaa
open Go.RowKit
set_option linter.unusedVariables false
set_option maxRecDepth 100000

/-- What stands where in rows done. -/
theorem doF_get (t : Int) (c n : Nat) (zs : List Int) (hn : 0 < n) : ∀ (k r : Nat), n * (r + k) = zs.length → ∀ (i j : Nat), i < k → j < n →
    (doF t c n true zs (n * k) (n * r)).getD (i * (n + 1) + 1 + j) 0 = (zs.getD (n * (r + i) + j) 0 - gsZ t c n zs (n * (r + i) + j)) % 256
  | 0, r, hl, i, j, hi, hj => by omega
  | k + 1, r, hl, i, j, hi, hj => by
    have hl2 : n * (r + 1 + k) = zs.length := by rw [← hl]; congr 1; omega
    have hrn : n * r + n ≤ zs.length := by
      rw [← hl2, Nat.add_right_comm, Nat.mul_add, Nat.mul_add, Nat.mul_one]
      omega
    rw [Nat.mul_succ n k, doF_row t c n true zs hn r (n * k) hrn, if_pos rfl]
    obtain ⟨row, hrow⟩ : ∃ row, ((List.range' (n * r) n).map fun j => (zs.getD j 0 - gsZ t c n zs j) % 256) = row := ⟨_, rfl⟩
    have hrl : row.length = n := by rw [← hrow]; simp
    rw [hrow]
    cases i with
    | zero =>
      rw [Nat.zero_mul, Nat.zero_add, Nat.add_comm 1 j, List.singleton_append, List.getD_cons_succ]
      simp only [List.getD]
      rw [List.getElem?_append_left (by omega), ← hrow]
      simp [hj, List.getD]
    | succ i =>
      have e : (i + 1) * (n + 1) + 1 + j = ([t] ++ row).length + (i * (n + 1) + 1 + j) := by
        rw [List.length_append, List.length_singleton, hrl, Nat.succ_mul]; omega
      rw [← List.append_assoc, e]
      simp only [List.getD]
      rw [List.getElem?_append_right (by omega), Nat.add_sub_cancel_left]
      have ih := doF_get t c n zs hn k (r + 1) hl2 i j (by omega) hj
      rw [Nat.mul_succ] at ih
      simp only [List.getD] at ih
      rw [ih, show r + 1 + i = r + (i + 1) by omega]
def flatZ (cs : List Int) (n cc m : Nat) : List Int := (List.range m).map fun i => cs.getD (i % n % cc) 0
theorem flatZ_len (cs : List Int) (n cc m : Nat) : (flatZ cs n cc m).length = m := by simp [flatZ]
theorem flatZ_get (cs : List Int) (n cc m i : Nat) (h : i < m) : (flatZ cs n cc m).getD i 0 = cs.getD (i % n % cc) 0 := by simp [flatZ, List.getD, h]
theorem flatZ_snoc (cs : List Int) (n cc m : Nat) : flatZ cs n cc (m + 1) = flatZ cs n cc m ++ [cs.getD (m % n % cc) 0] := by simp [flatZ, List.range_succ]
theorem idx_mod (n i j : Nat) (h : j < n) : (n * i + j) % n = j := by rw [Nat.add_comm, Nat.add_mul_mod_self_left]; exact Nat.mod_eq_of_lt h
/-- Above: noughts behind the first row. -/
theorem flat_up (cs : List Int) (hcs : ∀ z ∈ cs, 0 ≤ z ∧ z < 256) (n cc k : Nat) (hn : 0 < n) (i j : Nat) (hi : i < k) (hj : j < n) :
    (doF 2 cc n true (flatZ cs n cc (n * k)) (n * k) 0).getD (i * (n + 1) + 1 + j) 0 = if 0 < i then 0 else cs.getD (j % cc) 0 := by
  have hm : n * i + j < n * k := by
    have : n * (i + 1) ≤ n * k := Nat.mul_le_mul_left n hi
    rw [Nat.mul_succ] at this
    omega
  have h := doF_get 2 cc n (flatZ cs n cc (n * k)) hn k 0 (by rw [flatZ_len, Nat.zero_add]) i j hi hj
  rw [Nat.mul_zero, Nat.zero_add] at h
  rw [h, flatZ_get _ _ _ _ _ hm, idx_mod n i j hj]
  have hr := getD_rng cs hcs (j % cc)
  unfold gsZ guessZ
  rw [if_neg (by decide), if_pos rfl]
  unfold abZ
  cases i with
  | zero =>
    rw [if_neg (by omega), if_neg (by omega)]
    omega
  | succ i =>
    have e : n * (i + 1) + j - n = n * i + j := by rw [Nat.mul_succ]; omega
    rw [if_pos (by rw [Nat.mul_succ]; omega), e, flatZ_get _ _ _ _ _ (by omega), idx_mod n i j hj, if_pos (by omega)]
    omega
/-- Left: noughts behind the first of each colour. -/
theorem flat_left (cs : List Int) (hcs : ∀ z ∈ cs, 0 ≤ z ∧ z < 256) (n cc k : Nat) (hn : 0 < n) (hc : 0 < cc) (i j : Nat) (hi : i < k) (hj : j < n) :
    (doF 1 cc n true (flatZ cs n cc (n * k)) (n * k) 0).getD (i * (n + 1) + 1 + j) 0 = if cc ≤ j then 0 else cs.getD (j % cc) 0 := by
  have hm : n * i + j < n * k := by
    have : n * (i + 1) ≤ n * k := Nat.mul_le_mul_left n hi
    rw [Nat.mul_succ] at this
    omega
  have h := doF_get 1 cc n (flatZ cs n cc (n * k)) hn k 0 (by rw [flatZ_len, Nat.zero_add]) i j hi hj
  rw [Nat.mul_zero, Nat.zero_add] at h
  rw [h, flatZ_get _ _ _ _ _ hm, idx_mod n i j hj]
  have hr := getD_rng cs hcs (j % cc)
  unfold gsZ guessZ
  rw [if_pos rfl]
  unfold leZ
  rw [idx_mod n i j hj]
  by_cases h2 : cc ≤ j
  · rw [if_pos h2, if_pos h2, show n * i + j - cc = n * i + (j - cc) by omega, flatZ_get _ _ _ _ _ (by omega), idx_mod n i (j - cc) (by omega)]
    have e : (j - cc) % cc = j % cc := by
      rw [show j = (j - cc) + cc by omega, Nat.add_mod_right]
      congr 1
      omega
    rw [e]
    omega
  · rw [if_neg h2, if_neg h2]
    omega
theorem flat_len (t : Int) (cs : List Int) (n cc k : Nat) (hn : 0 < n) : (doF t cc n true (flatZ cs n cc (n * k)) (n * k) 0).length = (n + 1) * k := by
  have := doF_all_len t cc n true (flatZ cs n cc (n * k)) hn k 0 (by rw [flatZ_len, Nat.zero_add])
  rw [Nat.mul_zero, if_pos rfl] at this
  rw [this, Nat.succ_mul]
end Go.Proofs.Ytagkjndiifcekaa
