/- Chapter 9, pure: what is done is undone as it was; how long it is. -/
import Derived.Test.YtagkjndiifcekaaDo9
namespace Go.Proofs.Ytagkjndiifcekaa
open Go.RowKit
set_option linter.unusedVariables false
set_option maxRecDepth 100000

/-- Steps of one row, none at a row's start. -/
theorem doF_run (t : Int) (c n : Nat) (ten : Bool) (zs : List Int) : ∀ (m f i : Nat), i + m ≤ zs.length → (∀ j, i ≤ j → j < i + m → ¬ (j % n = 0 ∧ ten = true)) →
    doF t c n ten zs (f + m) i = ((List.range' i m).map fun j => (zs.getD j 0 - gsZ t c n zs j) % 256) ++ doF t c n ten zs f (i + m)
  | 0, f, i, h, hj => by simp
  | m + 1, f, i, h, hj => by
    rw [show f + (m + 1) = (f + m) + 1 from rfl, doF, if_pos (show i < zs.length by omega), if_neg (hj i (Nat.le_refl _) (by omega)), List.nil_append,
      doF_run t c n ten zs m f (i + 1) (by omega) (fun j h1 h2 => hj j (by omega) (by omega)), List.range'_succ, List.map_cons, List.cons_append, show i + 1 + m = i + (m + 1) by omega]
theorem doF_row (t : Int) (c n : Nat) (ten : Bool) (zs : List Int) (hn : 0 < n) (r f : Nat) (h : n * r + n ≤ zs.length) :
    doF t c n ten zs (f + n) (n * r) = (if ten = true then [t] else []) ++ (((List.range' (n * r) n).map fun j => (zs.getD j 0 - gsZ t c n zs j) % 256) ++ doF t c n ten zs f (n * r + n)) := by
  cases ten
  · rw [if_neg (by decide), List.nil_append]
    exact doF_run t c n false zs n f (n * r) h (fun j _ _ h => by cases h.2)
  · rw [if_pos rfl]
    obtain ⟨m, rfl⟩ : ∃ m, n = m + 1 := ⟨n - 1, by omega⟩
    obtain ⟨s, hs⟩ : ∃ s, (m + 1) * r = s := ⟨_, rfl⟩
    have hs0 : s % (m + 1) = 0 := by rw [← hs]; exact Nat.mul_mod_right _ _
    rw [hs] at h ⊢
    rw [show f + (m + 1) = (f + m) + 1 from rfl, doF, if_pos (show s < zs.length by omega), if_pos ⟨hs0, rfl⟩,
      doF_run t c (m + 1) true zs m f (s + 1) (by omega) (fun j h1 h2 h3 => by
        have h4 := h3.1
        obtain ⟨q, rfl⟩ : ∃ q, j = s + q := ⟨j - s, by omega⟩
        rw [Nat.add_mod, hs0, Nat.zero_add, Nat.mod_mod, Nat.mod_eq_of_lt (by omega)] at h4
        omega),
      List.range'_succ, List.map_cons, List.cons_append, show s + 1 + m = s + (m + 1) by omega]
    rfl
theorem und_do (t : Int) (c n tags : Nat) (ten : Bool) (zs : List Int) (hc : 0 < c) (hn : 0 < n) (hz : ∀ z ∈ zs, 0 ≤ z ∧ z < 256) (ht : t ≤ 4) (htag : (tags = 1 ∧ ten = true) ∨ (tags = 0 ∧ ten = false ∧ t = 1)) :
    ∀ (k r f : Nat) (A : List Int), n * (r + k) = zs.length → k ≤ f → undF c n tags (A ++ doF t c n ten zs (n * k) (n * r)) f A.length (zs.take (n * r)) = (zs, 0)
  | 0, r, f, A, hl, hf => by
    rw [Nat.add_zero] at hl
    rw [Nat.mul_zero, doF, List.append_nil, List.take_of_length_le (by omega)]
    cases f with
    | zero => rfl
    | succ f => rw [undF, if_neg (Nat.lt_irrefl _)]
  | k + 1, r, f, A, hl, hf => by
    obtain ⟨f, rfl⟩ : ∃ f', f = f' + 1 := ⟨f - 1, by omega⟩
    have hl2 : n * (r + 1 + k) = zs.length := by rw [← hl]; congr 1; omega
    have hrn : n * r + n ≤ zs.length := by
      rw [← hl2, Nat.add_right_comm, Nat.mul_add, Nat.mul_add, Nat.mul_one]
      omega
    obtain ⟨hd, hhd⟩ : ∃ hd, (if ten = true then [t] else []) = hd := ⟨_, rfl⟩
    have hhl : hd.length = tags := by rcases htag with ⟨h1, h2⟩ | ⟨h1, h2, h3⟩ <;> (rw [← hhd, h1, h2]; rfl)
    obtain ⟨row, hrow⟩ : ∃ row, ((List.range' (n * r) n).map fun j => (zs.getD j 0 - gsZ t c n zs j) % 256) = row := ⟨_, rfl⟩
    have hrl : row.length = n := by rw [← hrow]; simp
    have hback := rowU_back t c n zs hz hc hn n (n * r) hrn
    rw [hrow] at hback
    rw [Nat.mul_succ, doF_row t c n ten zs hn r (n * k) hrn, hhd, hrow]
    obtain ⟨rest, hrest⟩ : ∃ rest, doF t c n ten zs (n * k) (n * r + n) = rest := ⟨_, rfl⟩
    have hih := und_do t c n tags ten zs hc hn hz ht htag k (r + 1) f (A ++ hd ++ row) hl2 (by omega)
    rw [Nat.mul_succ, hrest] at hih
    rw [hrest]
    have e1 : A ++ (hd ++ (row ++ rest)) = A ++ hd ++ row ++ rest := by simp [List.append_assoc]
    have e2 : A ++ (hd ++ (row ++ rest)) = (A ++ hd) ++ (row ++ rest) := by simp [List.append_assoc]
    have htv : (if tags = 1 then (A ++ (hd ++ (row ++ rest))).getD A.length 0 else 1) = t := by
      rcases htag with ⟨h1, h2⟩ | ⟨h1, h2, h3⟩
      · rw [if_pos h1, ← hhd, h2, if_pos rfl]
        simp [List.getD]
      · rw [if_neg (by omega), h3]
    rw [undF, if_pos (by simp; omega), htv, if_neg (by omega), e2, List.drop_left' (by rw [List.length_append, hhl]), List.take_left' hrl, hback, ← e2, e1,
      show A.length + n + tags = (A ++ hd ++ row).length by simp [hhl, hrl]; omega]
    exact hih
theorem doF_all_len (t : Int) (c n : Nat) (ten : Bool) (zs : List Int) (hn : 0 < n) : ∀ (k r : Nat), n * (r + k) = zs.length → (doF t c n ten zs (n * k) (n * r)).length = n * k + (if ten = true then k else 0)
  | 0, r, hl => by rw [Nat.mul_zero, doF]; simp
  | k + 1, r, hl => by
    have hl2 : n * (r + 1 + k) = zs.length := by rw [← hl]; congr 1; omega
    have hrn : n * r + n ≤ zs.length := by
      rw [← hl2, Nat.add_right_comm, Nat.mul_add, Nat.mul_add, Nat.mul_one]
      omega
    have hih := doF_all_len t c n ten zs hn k (r + 1) hl2
    rw [Nat.mul_succ, doF_row t c n ten zs hn r (n * k) hrn, List.length_append, List.length_append, List.length_map, List.length_range']
    rw [Nat.mul_succ] at hih
    rw [hih]
    cases ten <;> simp <;> omega
/-- Of each shape: what is done, how long it is, and undone it is what it was. -/
theorem undZ_doZ (P C K : Int) (zs : List Int) (hm : mayZ P C K = true) (hz : ∀ z ∈ zs, 0 ≤ z ∧ z < 256) (k : Nat) (hk : (C * K).toNat * k = zs.length) :
    ∃ X, doZ P C K zs = (X, 0) ∧ undZ P C K X = (zs, 0) ∧ X.length = zs.length + (if 10 ≤ P then k else 0) := by
  obtain ⟨hP, cc, kk, nn, rfl, rfl, h1, _, _, _, _, hn1, _, hCK, hCn⟩ := may_parts hm
  rw [hCK] at hk
  have hmf : ¬ mayZ P cc kk = false := by rw [hm]; decide
  by_cases hP1 : P = 1
  · subst hP1
    refine ⟨zs, ?_, ?_, ?_⟩
    · rw [doZ, if_neg hmf, if_pos rfl]
    · rw [undZ, if_neg hmf, if_pos rfl]
    · rw [if_neg (by decide)]; rfl
  · have hmod : ¬ zs.length % nn ≠ 0 := by rw [← hk, Nat.mul_mod_right]; decide
    have hlen := doF_all_len (tagZ P) cc nn (decide (10 ≤ P)) zs (by omega) k 0 (by rw [Nat.zero_add]; exact hk)
    rw [Nat.mul_zero, hk] at hlen
    have htl : tagZ P ≤ 4 := by
      unfold tagZ
      split
      · omega
      · split <;> omega
    have hund : ∀ tags f, ((tags = 1 ∧ decide (10 ≤ P) = true) ∨ (tags = 0 ∧ decide (10 ≤ P) = false ∧ tagZ P = 1)) → k ≤ f → undF cc nn tags (doF (tagZ P) cc nn (decide (10 ≤ P)) zs zs.length 0) f 0 [] = (zs, 0) := by
      intro tags f htag hf
      have h := und_do (tagZ P) cc nn tags (decide (10 ≤ P)) zs (by omega) (by omega) hz htl htag k 0 f [] (by rw [Nat.zero_add]; exact hk) hf
      rw [Nat.mul_zero, hk] at h
      simpa using h
    have hkk : k ≤ nn * k := Nat.le_mul_of_pos_left k (by omega)
    refine ⟨doF (tagZ P) cc nn (decide (10 ≤ P)) zs zs.length 0, ?_, ?_, ?_⟩
    · rw [doZ, if_neg hmf, if_neg hP1, hCK, hCn, if_neg hmod]
    · rw [undZ, if_neg hmf, if_neg hP1, hCK, hCn]
      by_cases h10 : 10 ≤ P
      · rw [if_pos h10, if_neg (by rw [hlen, if_pos (by simpa using h10), ← hk, show nn * k + k = (nn + 1) * k by rw [Nat.succ_mul], Nat.mul_mod_right]; decide)]
        exact hund 1 _ (.inl ⟨rfl, by simpa using h10⟩) (by rw [hlen, ← hk]; omega)
      · rw [if_neg h10, if_neg (by rw [hlen, if_neg (by simpa using h10), Nat.add_zero, Nat.add_zero]; exact hmod)]
        have hP2 : P = 2 := by omega
        exact hund 0 _ (.inr ⟨rfl, by simpa using h10, by rw [tagZ, if_pos hP2]⟩) (by rw [hlen, ← hk]; omega)
    · rw [hlen]
      by_cases h10 : 10 ≤ P
      · rw [if_pos h10, if_pos (by simpa using h10)]
      · rw [if_neg h10, if_neg (by simpa using h10)]
end Go.Proofs.Ytagkjndiifcekaa
