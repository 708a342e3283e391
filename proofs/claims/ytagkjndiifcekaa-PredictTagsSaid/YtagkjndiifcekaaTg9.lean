/- Chapter 9, pure: rows of whatever tags, row by row. -/
import Derived.Test.YtagkjndiifcekaaPd9
namespace Go.Proofs.Ytagkjndiifcekaa
open Go.RowKit
set_option linter.unusedVariables false
set_option maxRecDepth 100000

/-- A row hangs on the last row ahead of it alone. -/
theorem gsZ_behind (t : Int) (c n : Nat) (P L : List Int) (i : Nat) (hc : 0 < c) (hn : 0 < n) (hP : P.length % n = 0) (hi : n ≤ i) : gsZ t c n (P ++ L) (P.length + i) = gsZ t c n L i := by
  have hm : (P.length + i) % n = i % n := by rw [Nat.add_mod, hP, Nat.zero_add, Nat.mod_mod]
  have key : ∀ j, (P ++ L).getD (P.length + j) 0 = L.getD j 0 := fun j => by
    simp only [List.getD]
    rw [List.getElem?_append_right (by omega), Nat.add_sub_cancel_left]
  have hml := Nat.mod_le i n
  have h1 : leZ c n (P ++ L) (P.length + i) = leZ c n L i := by
    unfold leZ
    rw [hm]
    split
    · rename_i h
      rw [show P.length + i - c = P.length + (i - c) by omega, key]
    · rfl
  have h2 : abZ n (P ++ L) (P.length + i) = abZ n L i := by
    unfold abZ
    rw [if_pos (by omega), if_pos hi, show P.length + i - n = P.length + (i - n) by omega, key]
  have h3 : beZ c n (P ++ L) (P.length + i) = beZ c n L i := by
    unfold beZ
    rw [hm]
    by_cases h : c ≤ i % n
    · have hin : i % n + n ≤ i := by
        have h5 : i % n = (i - n) % n := by
          have : i = (i - n) + n := by omega
          rw [this, Nat.add_mod_right, Nat.add_sub_cancel]
        have := Nat.mod_le (i - n) n
        omega
      rw [if_pos ⟨by omega, h⟩, if_pos ⟨hi, h⟩, show P.length + i - n - c = P.length + (i - n - c) by omega, key]
    · rw [if_neg (fun e => h e.2), if_neg (fun e => h e.2)]
  rw [gsZ, gsZ, h1, h2, h3]
theorem rowU_behind (t : Int) (c n : Nat) (P : List Int) (hc : 0 < c) (hn : 0 < n) (hP : P.length % n = 0) : ∀ (xs L : List Int), n ≤ L.length → rowU t c n xs (P ++ L) = P ++ rowU t c n xs L
  | [], L, h => rfl
  | x :: xs, L, h => by
    rw [rowU, rowU, List.length_append, gsZ_behind t c n P L L.length hc hn hP h, List.append_assoc]
    exact rowU_behind t c n P hc hn hP xs _ (by rw [List.length_append]; omega)
theorem rowU_plain (c n : Nat) : ∀ (xs out : List Int), (∀ z ∈ xs, 0 ≤ z ∧ z < 256) → rowU 0 c n xs out = out ++ xs
  | [], out, h => by rw [rowU, List.append_nil]
  | x :: xs, out, h => by
    have hx := h x (List.mem_cons_self ..)
    have e : (x + gsZ 0 c n out out.length) % 256 = x := by
      unfold gsZ guessZ
      rw [if_neg (by decide), if_neg (by decide), if_neg (by decide), if_neg (by decide)]
      omega
    rw [rowU, e, rowU_plain c n xs _ (fun z hz => h z (List.mem_cons_of_mem _ hz)), List.append_assoc]
    rfl
theorem rowU_keep (t : Int) (c n : Nat) : ∀ (xs out : List Int), ∃ Y, rowU t c n xs out = out ++ Y ∧ Y.length = xs.length
  | [], out => ⟨[], by rw [rowU, List.append_nil], rfl⟩
  | x :: xs, out => by
    obtain ⟨Y, h1, h2⟩ := rowU_keep t c n xs (out ++ [(x + gsZ t c n out out.length) % 256])
    exact ⟨(x + gsZ t c n out out.length) % 256 :: Y, by rw [rowU, h1, List.append_assoc]; rfl, by simp [h2]⟩
/-- A row of a tag. -/
def tagU (c n : Nat) (out row : List Int) : List Int := rowU (row.getD 0 0) c n (row.drop 1) out
theorem undF_rows (c n : Nat) : ∀ (Rs : List (List Int)) (A out : List Int) (f : Nat), (∀ r ∈ Rs, r.length = n + 1 ∧ r.getD 0 0 ≤ 4) → Rs.length ≤ f → undF c n 1 (A ++ Rs.flatten) f A.length out = (Rs.foldl (tagU c n) out, 0)
  | [], A, out, f, _, _ => by
    cases f with
    | zero => rfl
    | succ f => rw [undF, if_neg (by simp)]; rfl
  | r :: Rs, A, out, f, h, hf => by
    obtain ⟨f, rfl⟩ : ∃ f', f = f' + 1 := ⟨f - 1, by simp at hf; omega⟩
    obtain ⟨hl, ht⟩ := h r (List.mem_cons_self ..)
    have hA : (A ++ (r :: Rs).flatten).getD A.length 0 = r.getD 0 0 := by
      simp only [List.getD, List.flatten_cons]
      rw [List.getElem?_append_right (Nat.le_refl _), Nat.sub_self, List.getElem?_append_left (by omega)]
    have hd : ((A ++ (r :: Rs).flatten).drop (A.length + 1)).take n = r.drop 1 := by
      rw [← List.drop_drop, List.drop_left, List.flatten_cons, List.drop_append_of_le_length (by omega), List.take_left' (by rw [List.length_drop]; omega)]
    rw [undF, if_pos (by simp [hl]; omega), if_pos rfl, hA, if_neg (by omega), hd, List.foldl_cons]
    have ih := undF_rows c n Rs (A ++ r) (tagU c n out r) f (fun x hx => h x (List.mem_cons_of_mem _ hx)) (by simp at hf; omega)
    rw [List.length_append, hl] at ih
    rw [List.flatten_cons, ← List.append_assoc, show A.length + n + 1 = A.length + (n + 1) by omega]
    exact ih
theorem flat_len9 (n : Nat) : ∀ (Rs : List (List Int)), (∀ r ∈ Rs, r.length = n + 1 ∧ r.getD 0 0 ≤ 4) → Rs.flatten.length = (n + 1) * Rs.length
  | [], _ => by simp
  | r :: Rs, h => by
    rw [List.flatten_cons, List.length_append, flat_len9 n Rs (fun x hx => h x (List.mem_cons_of_mem _ hx)), (h r (List.mem_cons_self ..)).1, List.length_cons, Nat.mul_succ]; omega
theorem tagU_len (c n : Nat) (out row : List Int) (h : row.length = n + 1) : (tagU c n out row).length = out.length + n := by
  unfold tagU
  rw [rowU_len, List.length_drop, h]; omega
theorem fold_len (c n : Nat) : ∀ (Rs : List (List Int)) (out : List Int), (∀ r ∈ Rs, r.length = n + 1 ∧ r.getD 0 0 ≤ 4) → (Rs.foldl (tagU c n) out).length = out.length + n * Rs.length
  | [], out, _ => by simp
  | r :: Rs, out, h => by
    rw [List.foldl_cons, fold_len c n Rs _ (fun x hx => h x (List.mem_cons_of_mem _ hx)), tagU_len c n out r (h r (List.mem_cons_self ..)).1, List.length_cons, Nat.mul_succ]; omega
theorem fold_rng (c n : Nat) : ∀ (Rs : List (List Int)) (out : List Int), (∀ z ∈ out, 0 ≤ z ∧ z < 256) → ∀ z ∈ Rs.foldl (tagU c n) out, 0 ≤ z ∧ z < 256
  | [], out, h => h
  | r :: Rs, out, h => by
    rw [List.foldl_cons]
    exact fold_rng c n Rs _ (rowU_rng _ c n _ _ h)
/-- Undone, of Predictor 15. -/
theorem undZ_rows (c k n : Nat) (hm : mayZ 15 c k = true) (hn : c * k = n) (hn1 : 0 < n) (Rs : List (List Int)) (h : ∀ r ∈ Rs, r.length = n + 1 ∧ r.getD 0 0 ≤ 4) : undZ 15 c k Rs.flatten = (Rs.foldl (tagU c n) [], 0) := by
  have hCK : ((c : Int) * (k : Int)).toNat = n := by rw [← Int.natCast_mul, hn]; rfl
  have hl := flat_len9 n Rs h
  rw [undZ, if_neg (by rw [hm]; decide), if_neg (by decide), hCK, if_pos (show (10 : Int) ≤ 15 by decide), if_neg (by rw [hl, Nat.mul_mod_right]; decide)]
  have := undF_rows c n Rs [] [] Rs.flatten.length h (by rw [hl]; exact Nat.le_mul_of_pos_left _ (by omega))
  simpa using this
/-- The last row of many is what it is behind the row ahead of it alone. -/
theorem tag_last (c n : Nat) (out last row : List Int) (hc : 0 < c) (hn : 0 < n) (hr : row.length = n + 1) (P : List Int) (ho : out = P ++ last) (hP : P.length % n = 0) (hl : last.length = n) :
    ∃ Y, Y.length = n ∧ tagU c n out row = out ++ Y ∧ tagU c n last row = last ++ Y := by
  obtain ⟨Y, h1, h2⟩ := rowU_keep (row.getD 0 0) c n (row.drop 1) last
  refine ⟨Y, by rw [h2, List.length_drop, hr]; rfl, ?_, h1⟩
  unfold tagU
  rw [ho, rowU_behind _ c n P hc hn hP _ last (by omega), h1, List.append_assoc]
end Go.Proofs.Ytagkjndiifcekaa
