/- The project's own codes (package inflate): how many codes each length has, the symbols by rising codes; no program is walked here. -/
import Derived.Test.YtebbakfjjjamkaaDoorRef4Symbol
import Derived.Test.YtebbakfjjjamkaaDoorPBits
namespace Go.Proofs.YtebbakfjjjamkaaDoor
open Go.RowKit
set_option linter.unusedVariables false
set_option maxRecDepth 100000

/-- Of the first k lengths: how many are of a length from 1 on, below K. -/
def pasK (l : List Int) (k : Nat) : Nat → Int
  | 0 => 0
  | K + 1 => pasK l k K + (if K = 0 then 0 else cntN l (K : Int) k)
/-- Where the symbol i stands among those that have a code. -/
def posZ (l : List Int) (i : Nat) : Int := pasK l l.length (l.getD i 0).toNat + cntN l (l.getD i 0) i
theorem pasK_zero (l : List Int) : ∀ K, pasK l 0 K = 0
  | 0 => rfl
  | K + 1 => by rw [pasK, pasK_zero l K]; split <;> simp [cntN]
theorem pasK_step (l : List Int) (k : Nat) : ∀ K, pasK l (k + 1) K = pasK l k K + (if 1 ≤ l.getD k 0 ∧ l.getD k 0 < (K : Int) then 1 else 0)
  | 0 => by rw [if_neg (by omega)]; rfl
  | K + 1 => by
    rw [pasK, pasK, pasK_step l k K]
    by_cases hK : K = 0
    · subst hK
      rw [if_pos rfl, if_pos rfl, if_neg (by omega), if_neg (by omega)]
    · rw [if_neg hK, if_neg hK, cntN]
      by_cases h1 : l.getD k 0 = (K : Int)
      · rw [if_pos h1, if_neg (by omega), if_pos (by omega)]; omega
      · rw [if_neg h1]
        by_cases h2 : 1 ≤ l.getD k 0 ∧ l.getD k 0 < (K : Int)
        · rw [if_pos h2, if_pos (by omega)]; omega
        · rw [if_neg h2, if_neg (by omega)]; omega
theorem pasK_bd (l : List Int) (K : Nat) : ∀ k, 0 ≤ pasK l k K ∧ pasK l k K ≤ k
  | 0 => by rw [pasK_zero]; omega
  | k + 1 => by have h := pasK_bd l K k; rw [pasK_step]; split <;> omega
theorem cntN_mono (l : List Int) (L : Int) (i : Nat) : ∀ j, cntN l L i ≤ cntN l L (i + j)
  | 0 => Int.le_refl _
  | j + 1 => by have h := cntN_mono l L i j; rw [← Nat.add_assoc, cntN]; split <;> omega
theorem cntN_lt (l : List Int) (L : Int) (i k : Nat) (h : l.getD i 0 = L) (hi : i < k) : cntN l L i + 1 ≤ cntN l L k := by
  obtain ⟨j, rfl⟩ := Nat.exists_eq_add_of_lt hi
  have h1 := cntN_mono l L (i + 1) j
  rw [show i + j + 1 = i + 1 + j by omega]
  rw [cntN, if_pos h] at h1
  exact h1
theorem pasK_mono (l : List Int) (k K : Nat) : ∀ j, pasK l k K ≤ pasK l k (K + j)
  | 0 => Int.le_refl _
  | j + 1 => by
    have h := pasK_mono l k K j
    have h2 := cntN_bd l ((K + j : Nat) : Int) k
    rw [← Nat.add_assoc, pasK]; split <;> omega
theorem posZ_next (l : List Int) (i : Nat) (hi : i < l.length) (h1 : 1 ≤ l.getD i 0) : posZ l i + 1 ≤ pasK l l.length ((l.getD i 0).toNat + 1) ∧ pasK l l.length (l.getD i 0).toNat ≤ posZ l i := by
  have h2 := cntN_lt l (l.getD i 0) i l.length rfl hi
  have h3 := cntN_bd l (l.getD i 0) i
  have e : ((l.getD i 0).toNat : Int) = l.getD i 0 := by omega
  unfold posZ
  rw [pasK, if_neg (by omega), e]
  omega
theorem posZ_bd (l : List Int) (i : Nat) (hi : i < l.length) (h1 : 1 ≤ l.getD i 0) : 0 ≤ posZ l i ∧ posZ l i < l.length := by
  have h2 := posZ_next l i hi h1
  have h3 := pasK_bd l (l.getD i 0).toNat l.length
  have h4 := pasK_bd l ((l.getD i 0).toNat + 1) l.length
  omega
/-- No two symbols stand in one place. -/
theorem posZ_inj (l : List Int) (i j : Nat) (hi : i < l.length) (hj : j < l.length) (h1 : 1 ≤ l.getD i 0) (h2 : 1 ≤ l.getD j 0) (hij : i < j) : posZ l i ≠ posZ l j := by
  have h3 := posZ_next l i hi h1
  have h4 := posZ_next l j hj h2
  rcases Int.lt_trichotomy (l.getD i 0) (l.getD j 0) with h | h | h
  · obtain ⟨d, hd⟩ := Nat.exists_eq_add_of_le (show (l.getD i 0).toNat + 1 ≤ (l.getD j 0).toNat by omega)
    have h5 := pasK_mono l l.length ((l.getD i 0).toNat + 1) d
    rw [← hd] at h5
    omega
  · have h5 := cntN_lt l (l.getD i 0) i j rfl hij
    unfold posZ
    rw [← h]
    omega
  · obtain ⟨d, hd⟩ := Nat.exists_eq_add_of_le (show (l.getD j 0).toNat + 1 ≤ (l.getD i 0).toNat by omega)
    have h5 := pasK_mono l l.length ((l.getD j 0).toNat + 1) d
    rw [← hd] at h5
    omega

/-- The c-th of those of the length L. -/
theorem cntN_at (l : List Int) (L : Int) : ∀ (k : Nat) (c : Int), 0 ≤ c → c < cntN l L k → ∃ i, i < k ∧ l.getD i 0 = L ∧ cntN l L i = c
  | 0, c, h0, h => by rw [cntN] at h; omega
  | k + 1, c, h0, h => by
    rw [cntN] at h
    by_cases hk : l.getD k 0 = L
    · rw [if_pos hk] at h
      by_cases hc : c < cntN l L k
      · obtain ⟨i, hi, h1, h2⟩ := cntN_at l L k c h0 hc
        exact ⟨i, by omega, h1, h2⟩
      · exact ⟨k, Nat.lt_succ_self _, hk, by omega⟩
    · rw [if_neg hk] at h
      obtain ⟨i, hi, h1, h2⟩ := cntN_at l L k c h0 (by omega)
      exact ⟨i, by omega, h1, h2⟩
theorem codesS_at (l : List Int) (i : Nat) (hi : i < l.length) (K : Nat) (hK : 1 ≤ K) (hK2 : K ≤ 15) (h : l.getD i 0 = K) : (codesS l).getD i 0 = firstC l K + cntN l K i := by
  have e : (codesS l).getD i 0 = if 1 ≤ l.getD i 0 ∧ (l.getD i 0 < (16 : Int) ∨ (l.getD i 0 = (16 : Int) ∧ i < 0)) then codeAt l i else 0 := by
    unfold codesS codesN
    simp [List.getD, hi]
  rw [e, if_pos ⟨by omega, .inl (by omega)⟩]
  unfold codeAt
  rw [h]
  rfl
/-- A code of the length K that is one: whose it is. -/
theorem hit_in (l : List Int) (K : Nat) (y : Int) (hK : 1 ≤ K) (hK2 : K ≤ 15) (h0 : 0 ≤ y - firstC l K) (h1 : y - firstC l K < cntN l K l.length) :
    ∃ i, i < l.length ∧ l.getD i 0 = K ∧ hitS l (codesS l) K y = some i ∧ pasK l l.length K + (y - firstC l K) = posZ l i := by
  obtain ⟨i, hi, h2, h3⟩ := cntN_at l K l.length _ h0 h1
  have h4 := codesS_at l i hi K hK hK2 h2
  refine ⟨i, hi, h2, hitS_some l _ _ _ i hi h2 (by rw [h4]; omega) (fun j hj hh => ?_), ?_⟩
  · have h5 := codesS_at l j (by omega) K hK hK2 hh.1
    have h6 := cntN_lt l K j i hh.1 hj
    rw [h5] at hh
    omega
  · unfold posZ
    rw [h2, show ((K : Int)).toNat = K from Int.toNat_natCast K]
    omega
theorem hit_out (l : List Int) (K : Nat) (y : Int) (hK : 1 ≤ K) (hK2 : K ≤ 15) (h1 : cntN l K l.length ≤ y - firstC l K) : hitS l (codesS l) K y = none := by
  refine hitS_none l _ _ _ fun i hi hh => ?_
  have h4 := codesS_at l i hi K hK hK2 hh.1
  have h5 := cntN_lt l K i l.length hh.1 hi
  rw [h4] at hh
  omega

/-- Block h holds two rows: how many codes each length has, the symbols. -/
def RawC (w : World) (h : Nat) (M S : List Int) : Prop := w.heap[h]? = some (.cells ((M.map (Value.int .i64) ++ S.map (Value.int .u16)).toArray) 110 (0, 0))
section
variable {w w' : World} {h : Nat} {M S : List Int}
theorem RawC.lt (r : RawC w h M S) : h < w.heap.size := by
  rcases Nat.lt_or_ge h w.heap.size with hlt | hge
  · exact hlt
  · unfold RawC at r; rw [Array.getElem?_eq_none hge] at r; cases r
theorem RawC.many (r : RawC w h M S) (i : Nat) (hi : i < M.length) : w.cell? ⟨h, i, none⟩ = some (.int .i64 (M.getD i 0)) := by
  rw [cell_of_row w h i _ 110 (0, 0) r]
  simp [List.getD, hi, List.getElem?_append_left]
theorem RawC.symb (r : RawC w h M S) (i : Nat) (hi : i < S.length) : w.cell? ⟨h, M.length + i, none⟩ = some (.int .u16 (S.getD i 0)) := by
  rw [cell_of_row w h (M.length + i) _ 110 (0, 0) r]
  simp [List.getD, hi]
theorem RawC.fr (r : RawC w h M S) (i : Nat) : w.frozen? ⟨h, i, none⟩ = false := by
  unfold RawC at r
  simp [World.frozen?, r]
theorem RawC.putM (r : RawC w h M S) (i : Nat) (hi : i < M.length) (z : Int) : RawC (w.setCell ⟨h, i, none⟩ (.int .i64 z)) h (M.set i z) S := by
  unfold RawC at r ⊢
  simp [World.setCell, Array.getElem?_modify, r, List.map_set, List.set_append_left _ _ (show i < (M.map (Value.int .i64)).length by simpa using hi)]
theorem RawC.putS (r : RawC w h M S) (i : Nat) (z : Int) : RawC (w.setCell ⟨h, M.length + i, none⟩ (.int .u16 z)) h M (S.set i z) := by
  unfold RawC at r ⊢
  simp [World.setCell, Array.getElem?_modify, r, List.map_set]
end
/-- The counts of the first k lengths. -/
def manyK (l : List Int) (k : Nat) : List Int := (List.range 16).map fun L : Nat => if L = 0 then 0 else cntN l (L : Int) k
theorem manyK_len (l : List Int) (k : Nat) : (manyK l k).length = 16 := by simp [manyK]
theorem manyK_at (l : List Int) (k L : Nat) (h : L < 16) : (manyK l k).getD L 0 = if L = 0 then 0 else cntN l (L : Int) k := by simp [manyK, List.getD, h]
theorem manyK_zero (l : List Int) : manyK l 0 = List.replicate 16 0 := by
  refine List.ext_getElem (by simp [manyK]) fun i h1 h2 => ?_
  simp only [manyK, List.getElem_map, List.getElem_range, List.getElem_replicate, cntN]
  split <;> rfl
theorem manyK_step (l : List Int) (k L : Nat) (h1 : 1 ≤ L) (h15 : L ≤ 15) (h : l.getD k 0 = (L : Int)) : manyK l (k + 1) = (manyK l k).set L (cntN l (L : Int) k + 1) := by
  refine List.ext_getElem (by simp [manyK]) fun i h2 h3 => ?_
  rw [List.getElem_set]
  simp only [manyK, List.getElem_map, List.getElem_range]
  by_cases hi : L = i
  · subst hi
    rw [if_pos rfl, if_neg (by omega), cntN, if_pos h]
  · rw [if_neg hi]
    by_cases h0 : i = 0
    · rw [if_pos h0, if_pos h0]
    · rw [if_neg h0, if_neg h0, cntN, if_neg (by omega), Int.add_zero]
theorem manyK_keep (l : List Int) (k : Nat) (h : l.getD k 0 ≤ 0) : manyK l (k + 1) = manyK l k := by
  refine List.ext_getElem (by simp [manyK]) fun i h2 h3 => ?_
  simp only [manyK, List.getElem_map, List.getElem_range]
  by_cases h0 : i = 0
  · rw [if_pos h0, if_pos h0]
  · rw [if_neg h0, if_neg h0, cntN, if_neg (by omega), Int.add_zero]
/-- Block h is the code of the lengths l. -/
structure CB (w : World) (h : Nat) (l : List Int) : Prop where
  raw : ∃ S : List Int, S.length = 288 ∧ RawC w h (manyK l l.length) S ∧ ∀ i, i < l.length → 1 ≤ l.getD i 0 → S.getD (posZ l i).toNat 0 = i
  len : l.length ≤ 288
  l0 : ∀ i, 0 ≤ l.getD i 0
  l15 : ∀ i, l.getD i 0 ≤ 15
theorem CB.lt {w : World} {h : Nat} {l : List Int} (c : CB w h l) : h < w.heap.size := by
  obtain ⟨S, _, hr, _⟩ := c.raw
  exact hr.lt
theorem CB.same {w w' : World} {h : Nat} {l : List Int} (c : CB w h l) (e : w'.heap[h]? = w.heap[h]?) : CB w' h l := by
  obtain ⟨S, h1, hr, h2⟩ := c.raw
  exact ⟨⟨S, h1, e.trans hr, h2⟩, c.len, c.l0, c.l15⟩
/-- What a table next holds when the first k symbols stand: where the next of each length goes. -/
def nextK (l : List Int) (k : Nat) : List Int := (List.range 17).map fun L => pasK l l.length L + (if L = 0 then 0 else cntN l (L : Int) k)
theorem nextK_len (l : List Int) (k : Nat) : (nextK l k).length = 17 := by simp [nextK]
theorem nextK_at (l : List Int) (k L : Nat) (h : L < 17) : (nextK l k).getD L 0 = pasK l l.length L + (if L = 0 then 0 else cntN l (L : Int) k) := by simp [nextK, List.getD, h]
theorem nextK_step (l : List Int) (k L : Nat) (h1 : 1 ≤ L) (h15 : L ≤ 15) (h : l.getD k 0 = (L : Int)) : nextK l (k + 1) = (nextK l k).set L (posZ l k + 1) := by
  refine List.ext_getElem (by simp [nextK]) fun i h2 h3 => ?_
  rw [List.getElem_set]
  simp only [nextK, List.getElem_map, List.getElem_range]
  by_cases hi : L = i
  · subst hi
    unfold posZ
    rw [if_pos rfl, if_neg (by omega), cntN, if_pos h, h, Int.toNat_natCast]
    omega
  · rw [if_neg hi]
    by_cases h0 : i = 0
    · rw [if_pos h0, if_pos h0]
    · rw [if_neg h0, if_neg h0, cntN, if_neg (by omega), Int.add_zero]
theorem nextK_keep (l : List Int) (k : Nat) (h : l.getD k 0 ≤ 0) : nextK l (k + 1) = nextK l k := by
  refine List.ext_getElem (by simp [nextK]) fun i h2 h3 => ?_
  simp only [nextK, List.getElem_map, List.getElem_range]
  by_cases h0 : i = 0
  · rw [if_pos h0, if_pos h0]
  · rw [if_neg h0, if_neg h0, cntN, if_neg (by omega), Int.add_zero]
/-- While the table next is made: the first K places. -/
def headK (l : List Int) (K : Nat) : List Int := (List.range 17).map fun L => if L ≤ K then pasK l l.length L else 0
theorem headK_len (l : List Int) (K : Nat) : (headK l K).length = 17 := by simp [headK]
theorem headK_at (l : List Int) (K L : Nat) (h : L < 17) : (headK l K).getD L 0 = if L ≤ K then pasK l l.length L else 0 := by simp [headK, List.getD, h]
theorem headK_zero (l : List Int) : headK l 0 = List.replicate 17 0 := by
  refine List.ext_getElem (by simp [headK]) fun i h1 h2 => ?_
  simp only [headK, List.getElem_map, List.getElem_range, List.getElem_replicate]
  by_cases h : i ≤ 0
  · rw [if_pos h, show i = 0 by omega]; rfl
  · rw [if_neg h]
theorem headK_step (l : List Int) (K : Nat) (hK : K < 16) : headK l (K + 1) = (headK l K).set (K + 1) (pasK l l.length K + (manyK l l.length).getD K 0) := by
  rw [manyK_at l _ K hK]
  refine List.ext_getElem (by simp [headK]) fun i h2 h3 => ?_
  rw [List.getElem_set]
  simp only [headK, List.getElem_map, List.getElem_range]
  by_cases hi : K + 1 = i
  · subst hi
    rw [if_pos rfl, if_pos (Nat.le_refl _), pasK]
  · rw [if_neg hi]
    by_cases h0 : i ≤ K
    · rw [if_pos h0, if_pos (by omega)]
    · rw [if_neg h0, if_neg (by omega)]
theorem headK_next (l : List Int) : headK l 16 = nextK l 0 := by
  refine List.ext_getElem (by simp [headK, nextK]) fun i h2 h3 => ?_
  have : i < 17 := by simpa [headK] using h2
  simp only [headK, nextK, List.getElem_map, List.getElem_range]
  rw [if_pos (by omega)]
  split
  · rw [Int.add_zero]
  · simp [cntN]
end Go.Proofs.YtebbakfjjjamkaaDoor
