/- A number read by digits is the number that chapter 2 asks. -/
import Derived.Test.YtojbhckgegoldaaFxRead
namespace Go.Proofs.Ytojbhckgegoldaa
set_option linter.unusedVariables false

theorem scan_dig : ∀ (l : List Int) (P D : Nat), scanP l P D = scanP (l.drop (dlen l)) P (D + dlen l)
  | [], P, D => by simp [dlen]
  | z :: r, P, D => by
    rw [dlen]
    by_cases hz : 48 ≤ z ∧ z ≤ 57
    · rw [if_pos hz, scanP, if_neg (by omega), if_pos hz, scan_dig r P (D + 1), List.drop_succ_cons]
      congr 1
      omega
    · rw [if_neg hz]; rfl
/-- As aheadN, from the left. -/
def sat : List Int → Int → Int
  | [], a => a
  | z :: r, a => if 48 ≤ z ∧ z ≤ 57 then sat r (min (a * 10 + (z - 48)) 2147483648) else a
theorem sat_top : ∀ l : List Int, sat l 2147483648 = 2147483648
  | [] => rfl
  | z :: r => by
    rw [sat]
    split
    · next hz => rw [show min (2147483648 * 10 + (z - 48)) 2147483648 = (2147483648 : Int) by omega]; exact sat_top r
    · rfl
theorem dlen_drop (l : List Int) (h : dlen l < l.length) : l.drop (dlen l) = l.getD (dlen l) 0 :: l.drop (dlen l + 1) := drop_getD l _ h
theorem sat_ahead (l : List Int) : ∀ j, j ≤ dlen l → sat l 0 = sat (l.drop j) (aheadN l j)
  | 0, _ => rfl
  | j + 1, h => by
    have hl := dlen_le l
    have hd := dlen_in l j (by omega)
    rw [sat_ahead l j (by omega), drop_getD l j (by omega), sat, if_pos hd]
    rfl
theorem ahead_sat (l : List Int) : aheadN l (dlen l) = sat l 0 := by
  rw [sat_ahead l (dlen l) (Nat.le_refl _)]
  by_cases h : dlen l < l.length
  · rw [dlen_drop l h, sat, if_neg (by have := dlen_out l h; omega)]
  · rw [List.drop_of_length_le (by omega)]; rfl
theorem whole_sat : ∀ (l : List Int) (a : Int), 0 ≤ a → a ≤ 2147483647 → (l.drop (dlen l) = [] ∨ ∃ r, l.drop (dlen l) = 46 :: r) →
    wholeZ l a = if sat l a ≤ 2147483647 then some (sat l a, l.drop (dlen l)) else none
  | [], a, h0, h1, _ => by rw [wholeZ, sat, if_pos h1]; rfl
  | z :: r, a, h0, h1, hr => by
    rw [dlen] at hr ⊢
    rw [sat, wholeZ]
    by_cases hz : 48 ≤ z ∧ z ≤ 57
    · rw [if_pos hz] at hr ⊢
      rw [List.drop_succ_cons] at hr
      rw [if_neg (show ¬ z = 46 by omega), if_pos hz, List.drop_succ_cons]
      by_cases hb : 2147483647 < 10 * a + (z - 48)
      · rw [if_pos hb, show min (a * 10 + (z - 48)) 2147483648 = (2147483648 : Int) by omega, sat_top, if_neg (by omega)]
      · rw [if_neg hb, show min (a * 10 + (z - 48)) 2147483648 = 10 * a + (z - 48) by omega]
        exact whole_sat r _ (by omega) (by omega) hr
    · rw [if_neg hz] at hr ⊢
      rw [if_neg hz, if_pos h1]
      rcases hr with hr | ⟨r', hr⟩
      · cases hr
      · rw [List.drop_zero] at hr ⊢
        injection hr with h2 h3
        rw [if_pos h2]
theorem fracN_more (l : List Int) : ∀ j, fracN l (5 + j) = fracN l 5
  | 0 => rfl
  | j + 1 => by
    have hu : ∀ j, unitA (6 + j) = 0 := by
      intro j
      induction j with
      | zero => decide
      | succ j ih => rw [← Nat.add_assoc, unitA, ih]; rfl
    rw [← Nat.add_assoc, fracN, fracN_more l j, show 5 + j + 1 = 6 + j by omega, hu, Int.mul_zero, Int.add_zero]
theorem fracN_K (l : List Int) (h : dlen l = l.length) : fracN l (dlen l) = fracK l 5 := by
  rw [h]
  match l with
  | [] => simp [fracN, fracK]
  | [a] => simp [fracN, fracK, unitA]; omega
  | [a, b] => simp [fracN, fracK, unitA]; omega
  | [a, b, c] => simp [fracN, fracK, unitA]; omega
  | [a, b, c, d] => simp [fracN, fracK, unitA]; omega
  | a :: b :: c :: d :: e :: r =>
    have hl : (a :: b :: c :: d :: e :: r).length = 5 + r.length := by simp; omega
    rw [hl, fracN_more]
    simp [fracN, fracK, unitA]
    omega

/-- No point. -/
theorem rest_form (neg : Bool) (l : List Int) (hp : dlen l < l.length → l.getD (dlen l) 0 ≠ 46) (h : dlen l < l.length ∨ dlen l = 0) : restS neg l = (0, false, 4) := by
  rw [restS, scan_dig]
  by_cases hlt : dlen l < l.length
  · have hd := dlen_out l hlt
    rw [dlen_drop l hlt, scanP, if_neg (hp hlt), if_neg (by omega)]
  · rw [List.drop_of_length_le (by omega)]
    simp only [scanP]
    rw [if_pos (.inr (by omega))]
theorem rest_whole (neg : Bool) (l : List Int) (h1 : dlen l = l.length) (h0 : 0 < dlen l) : restS neg l = if 2147483647 < aheadN l (dlen l) then (0, false, 5) else (sgZ neg (aheadN l (dlen l)), true, 0) := by
  have e : l.drop (dlen l) = [] := List.drop_of_length_le (by omega)
  rw [restS, scan_dig, e]
  simp only [scanP]
  rw [if_neg (by omega), whole_sat l 0 (by omega) (by omega) (.inl e), ahead_sat]
  by_cases hb : sat l 0 ≤ 2147483647
  · rw [if_pos hb, if_neg (by omega)]
    rfl
  · rw [if_neg hb, if_pos (by omega)]
/-- A point. -/
theorem point_form (neg : Bool) (l : List Int) (hlt : dlen l < l.length) (hp : l.getD (dlen l) 0 = 46) (K : Nat) (hK : dlen (l.drop (dlen l + 1)) = K) (h : dlen l + 1 + K < l.length ∨ dlen l + K = 0) : restS neg l = (0, false, 4) := by
  rw [restS, scan_dig, dlen_drop l hlt, hp, scanP, if_pos rfl, scan_dig, hK]
  by_cases hm : dlen l + 1 + K < l.length
  · obtain ⟨m, hmm⟩ : ∃ m, l.drop (dlen l + 1) = m := ⟨_, rfl⟩
    rw [hmm] at hK ⊢
    have hml : m.length = l.length - (dlen l + 1) := by rw [← hmm, List.length_drop]
    have hd := dlen_out m (by omega)
    rw [← hK, dlen_drop m (by omega), scanP]
    by_cases h46 : m.getD (dlen m) 0 = 46
    · rw [if_pos h46]
      cases hs : scanP (m.drop (dlen m + 1)) (0 + 1 + 1) (0 + dlen l + dlen m) with
      | none => rfl
      | some x =>
        have := (scanP_mono _ _ _ _ hs).1
        obtain ⟨a, b⟩ := x
        simp only
        rw [if_pos (.inl (by simp at this; omega))]
    · rw [if_neg h46, if_neg (by omega)]
  · rw [List.drop_of_length_le (by rw [List.length_drop]; omega)]
    simp only [scanP]
    rw [if_pos (.inr (by omega))]
theorem point_whole (neg : Bool) (l : List Int) (hlt : dlen l < l.length) (hp : l.getD (dlen l) 0 = 46) (K : Nat) (hK : dlen (l.drop (dlen l + 1)) = K) (h1 : dlen l + 1 + K = l.length) (h0 : 0 < dlen l + K) :
    restS neg l = if 214748364799999 < aheadN l (dlen l) * 100000 + fracN (l.drop (dlen l + 1)) K then (0, false, 5) else (sgZ neg (aheadN l (dlen l) * 100000 + fracN (l.drop (dlen l + 1)) K), false, 0) := by
  have e : l.drop (dlen l) = 46 :: l.drop (dlen l + 1) := by rw [dlen_drop l hlt, hp]
  obtain ⟨m, hmm⟩ : ∃ m, l.drop (dlen l + 1) = m := ⟨_, rfl⟩
  rw [hmm] at hK e ⊢
  have hml : m.length = l.length - (dlen l + 1) := by rw [← hmm, List.length_drop]
  have hbd := fracN_bd m K (by omega)
  have hub := unitA_bd K
  have hf := fracN_K m (by omega)
  rw [hK] at hf
  have hbd5 : fracN m K ≤ 99999 := by
    have hok : ∀ z ∈ m, 48 ≤ z ∧ z ≤ 57 := fun z hz => by
      obtain ⟨i, hi, rfl⟩ := List.getElem_of_mem hz
      have := dlen_in m i (by omega)
      simpa [List.getD, hi] using this
    rw [hf]
    exact (fracK_bd5 m hok 5 (by omega)).2
  rw [restS, scan_dig, e, scanP, if_pos rfl, scan_dig, hK, List.drop_of_length_le (show m.length ≤ K by omega)]
  simp only [scanP]
  rw [if_neg (by omega), whole_sat l 0 (by omega) (by omega) (.inr ⟨_, e⟩), e, ← ahead_sat]
  by_cases hb : aheadN l (dlen l) ≤ 2147483647
  · rw [if_pos hb, if_neg (by omega)]
    show (if (0 + 1 = 0) then _ else (sgZ neg (aheadN l (dlen l) * 100000 + fracK (List.drop 1 (46 :: m)) 5), false, 0)) = _
    rw [if_neg (by omega), hf]
    rfl
  · rw [if_neg hb, if_pos (by omega)]
end Go.Proofs.Ytojbhckgegoldaa
