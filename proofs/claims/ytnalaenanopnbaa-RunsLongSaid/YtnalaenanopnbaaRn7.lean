/- Chapter 7, pure: what a row of runs says, how bytes are written as one, and that it comes back. -/
import Derived.Test.YtnalaenanopnbaaBytes
namespace Go.Proofs.Ytnalaenanopnbaa
set_option linter.unusedVariables false

/-- What stands behind a place in a row of runs: k bytes as they are first. -/
def rdR (M : Nat) : List Int → Nat → List Int → List Int × Int
  | [], _, _ => ([], 2)
  | c :: l, k + 1, out => if out.length < M then rdR M l k (out ++ [c]) else ([], 7)
  | [n], 0, out => if n = 128 then (out, 0) else ([], 2)
  | n :: c :: l, 0, out =>
    if n = 128 then (out, 0)
    else if n < 128 then (if out.length < M then rdR M l n.toNat (out ++ [c]) else ([], 7))
    else if out.length + (257 - n).toNat ≤ M then rdR M l 0 (out ++ List.replicate (257 - n).toNat c) else ([], 7)
theorem rd_nil (M k : Nat) (out : List Int) : rdR M [] k out = ([], 2) := by rw [rdR]
theorem rd_lit (M k : Nat) (c : Int) (l out : List Int) : rdR M (c :: l) (k + 1) out = if out.length < M then rdR M l k (out ++ [c]) else ([], 7) := by rw [rdR]
theorem rd_end (M : Nat) (l out : List Int) : rdR M (128 :: l) 0 out = (out, 0) := by
  cases l <;> rw [rdR, if_pos rfl]
theorem rd_few (M : Nat) (n : Int) (l out : List Int) (h0 : 0 ≤ n) (h : n < 128) : rdR M (n :: l) 0 out = rdR M l (n.toNat + 1) out := by
  cases l with
  | nil => rw [rdR, rdR, if_neg (by omega)]
  | cons c l => rw [rdR, rdR, if_neg (by omega), if_pos h]
theorem rd_row0 (M : Nat) (n : Int) (out : List Int) (h : 128 < n) : rdR M [n] 0 out = ([], 2) := by rw [rdR, if_neg (by omega)]
/-- j bytes more, then on. -/
def repR (M : Nat) (l : List Int) (c : Int) (j : Nat) (out : List Int) : List Int × Int := if out.length + j ≤ M then rdR M l 0 (out ++ List.replicate j c) else ([], 7)
theorem rd_row (M : Nat) (n c : Int) (l out : List Int) (h : 128 < n) : rdR M (n :: c :: l) 0 out = repR M l c (257 - n).toNat out := by
  rw [rdR, if_neg (by omega), if_neg (by omega), repR]
theorem rep_zero (M : Nat) (l : List Int) (c : Int) (out : List Int) (h : out.length ≤ M) : repR M l c 0 out = rdR M l 0 out := by
  rw [repR, if_pos (by omega)]
  simp
theorem rep_step (M : Nat) (l : List Int) (c : Int) (j : Nat) (out : List Int) : repR M l c (j + 1) out = if out.length < M then repR M l c j (out ++ [c]) else ([], 7) := by
  unfold repR
  rw [List.length_append]
  by_cases h : out.length < M
  · rw [if_pos h]
    by_cases h2 : out.length + (j + 1) ≤ M
    · rw [if_pos h2, if_pos (by simp; omega), List.append_assoc, List.replicate_succ]
      rfl
    · rw [if_neg h2, if_neg (by simp; omega)]
  · rw [if_neg h, if_neg (by omega)]

/-- How many alike stand at a place, at most f beyond n. -/
def rowF (zs : List Int) (a : Nat) : Nat → Nat → Nat
  | 0, n => n
  | f + 1, n => if a + n < zs.length ∧ zs.getD (a + n) 0 = zs.getD a 0 then rowF zs a f (n + 1) else n
def rowS (zs : List Int) (a : Nat) : Nat := rowF zs a 128 0
/-- How many bytes are written as they are. -/
def litF (zs : List Int) (a : Nat) : Nat → Nat → Nat
  | 0, k => k
  | f + 1, k => if a + k < zs.length ∧ rowS zs (a + k) < 3 then litF zs a f (k + 1) else k
def litS (zs : List Int) (a : Nat) : Nat := litF zs a 127 1
def encR (zs : List Int) : Nat → Nat → List Int
  | 0, _ => []
  | f + 1, a =>
    if a < zs.length then
      if 3 ≤ rowS zs a then (257 - (rowS zs a : Int)) :: zs.getD a 0 :: encR zs f (a + rowS zs a)
      else ((litS zs a : Int) - 1) :: ((zs.drop a).take (litS zs a) ++ encR zs f (a + litS zs a))
    else []
def encS (zs : List Int) : List Int := encR zs zs.length 0 ++ [128]

theorem rowF_bd (zs : List Int) (a : Nat) : ∀ f n, n ≤ rowF zs a f n ∧ rowF zs a f n ≤ n + f
  | 0, n => by simp [rowF]
  | f + 1, n => by
    rw [rowF]
    split
    · have := rowF_bd zs a f (n + 1); omega
    · omega
theorem rowF_len (zs : List Int) (a : Nat) : ∀ f n, a + n ≤ zs.length → a + rowF zs a f n ≤ zs.length
  | 0, n, h => h
  | f + 1, n, h => by
    rw [rowF]
    split
    · rename_i h2; exact rowF_len zs a f (n + 1) (by omega)
    · exact h
theorem rowF_eq (zs : List Int) (a : Nat) : ∀ f n i, n ≤ i → i < rowF zs a f n → zs.getD (a + i) 0 = zs.getD a 0
  | 0, n, i, h1, h2 => by simp [rowF] at h2; omega
  | f + 1, n, i, h1, h2 => by
    rw [rowF] at h2
    split at h2
    · rename_i h
      rcases Nat.lt_or_ge n i with h3 | h3
      · exact rowF_eq zs a f (n + 1) i h3 h2
      · obtain rfl : i = n := by omega
        exact h.2
    · omega
theorem rowS_bd (zs : List Int) (a : Nat) : rowS zs a ≤ 128 := by have := rowF_bd zs a 128 0; unfold rowS; omega
theorem rowS_len (zs : List Int) (a : Nat) (h : a ≤ zs.length) : a + rowS zs a ≤ zs.length := rowF_len zs a 128 0 (by omega)
theorem rowS_eq (zs : List Int) (a i : Nat) (h : i < rowS zs a) : zs.getD (a + i) 0 = zs.getD a 0 := rowF_eq zs a 128 0 i (Nat.zero_le _) h
theorem litF_bd (zs : List Int) (a : Nat) : ∀ f k, k ≤ litF zs a f k ∧ litF zs a f k ≤ k + f
  | 0, n => by simp [litF]
  | f + 1, n => by
    rw [litF]
    split
    · have := litF_bd zs a f (n + 1); omega
    · omega
theorem litF_len (zs : List Int) (a : Nat) : ∀ f k, a + k ≤ zs.length → a + litF zs a f k ≤ zs.length
  | 0, n, h => h
  | f + 1, n, h => by
    rw [litF]
    split
    · rename_i h2; exact litF_len zs a f (n + 1) (by omega)
    · exact h
theorem litS_bd (zs : List Int) (a : Nat) : 1 ≤ litS zs a ∧ litS zs a ≤ 128 := by have := litF_bd zs a 127 1; unfold litS; omega
theorem litS_len (zs : List Int) (a : Nat) (h : a < zs.length) : a + litS zs a ≤ zs.length := litF_len zs a 127 1 (by omega)
theorem enc_in (zs : List Int) (f a : Nat) (h : a < zs.length) : encR zs (f + 1) a = if 3 ≤ rowS zs a then (257 - (rowS zs a : Int)) :: zs.getD a 0 :: encR zs f (a + rowS zs a) else ((litS zs a : Int) - 1) :: ((zs.drop a).take (litS zs a) ++ encR zs f (a + litS zs a)) := by rw [encR, if_pos h]
theorem enc_out (zs : List Int) (f a : Nat) (h : zs.length ≤ a) : encR zs f a = [] := by
  cases f with
  | zero => rfl
  | succ f => rw [encR, if_neg (by omega)]
theorem enc_rng (zs : List Int) (hz : ∀ z ∈ zs, 0 ≤ z ∧ z < 256) : ∀ f a, ∀ z ∈ encR zs f a, 0 ≤ z ∧ z < 256
  | 0, a => fun z h => by simp [encR] at h
  | f + 1, a => fun z h => by
    by_cases hl : a < zs.length
    · rw [enc_in zs f a hl] at h
      split at h
      · have := rowS_bd zs a
        rcases List.mem_cons.1 h with rfl | h
        · omega
        · rcases List.mem_cons.1 h with rfl | h
          · rw [show zs.getD a 0 = zs[a] by simp [List.getD, hl]]
            exact hz _ (List.getElem_mem hl)
          · exact enc_rng zs hz f _ z h
      · have := litS_bd zs a
        rcases List.mem_cons.1 h with rfl | h
        · omega
        · rcases List.mem_append.1 h with h | h
          · exact hz z (List.mem_of_mem_drop (List.mem_of_mem_take h))
          · exact enc_rng zs hz f _ z h
    · rw [enc_out zs _ a (by omega)] at h
      cases h
theorem encS_rng (zs : List Int) (hz : ∀ z ∈ zs, 0 ≤ z ∧ z < 256) : ∀ z ∈ encS zs, 0 ≤ z ∧ z < 256 := fun z h => by
  rcases List.mem_append.1 h with h | h
  · exact enc_rng zs hz _ _ z h
  · simp at h; omega
/-- Bytes as they are, read. -/
theorem rd_lits (M : Nat) : ∀ (ys l out : List Int), rdR M (ys ++ l) ys.length out = if out.length + ys.length ≤ M ∨ ys.length = 0 then rdR M l 0 (out ++ ys) else ([], 7)
  | [], l, out => by simp
  | y :: ys, l, out => by
    rw [List.cons_append, List.length_cons, rd_lit, rd_lits M ys l (out ++ [y])]
    rw [List.length_append, List.append_assoc]
    by_cases h : out.length < M
    · rw [if_pos h]
      by_cases h2 : out.length + (ys.length + 1) ≤ M
      · rw [if_pos (.inl (by simp only [List.length_cons, List.length_nil]; omega)), if_pos (.inl h2)]
        rfl
      · rw [if_neg (by simp only [List.length_cons, List.length_nil]; omega), if_neg (by omega)]
    · rw [if_neg h, if_neg (by omega)]
theorem take_row (zs : List Int) (a : Nat) : ∀ n, n ≤ rowS zs a → a + n ≤ zs.length → (zs.drop a).take n = List.replicate n (zs.getD a 0)
  | 0, _, _ => by simp
  | n + 1, h, hl => by
    have ih := take_row zs a n (by omega) (by omega)
    have e := rowS_eq zs a n (by omega)
    rw [List.take_add_one, ih, List.replicate_succ', ← e]
    congr 1
    simp [List.getD, show a + n < zs.length by omega]
/-- What was written, read: as far as there is room. -/
theorem rd_enc (M : Nat) (zs l : List Int) (hz : ∀ z ∈ zs, 0 ≤ z ∧ z < 256) : ∀ f a, zs.length ≤ a + f → a ≤ zs.length → a ≤ M → rdR M (encR zs f a ++ l) 0 (zs.take a) = if zs.length ≤ M then rdR M l 0 zs else ([], 7)
  | 0, a, hf, ha, hM => by
    rw [encR, List.nil_append, if_pos (by omega), List.take_of_length_le (by omega)]
  | f + 1, a, hf, ha, hM => by
    have hta : (zs.take a).length = a := by rw [List.length_take]; omega
    by_cases hl : a < zs.length
    · rw [enc_in zs f a hl]
      have hsplit : ∀ n, zs.take a ++ (zs.drop a).take n = zs.take (a + n) := fun n => by rw [List.take_add]
      by_cases h3 : 3 ≤ rowS zs a
      · have h1 := rowS_bd zs a
        have h2 := rowS_len zs a ha
        rw [if_pos h3, List.cons_append, List.cons_append, rd_row _ _ _ _ _ (by omega), repR, hta]
        rw [show (257 - (257 - (rowS zs a : Int))).toNat = rowS zs a by omega, ← take_row zs a (rowS zs a) (Nat.le_refl _) h2, hsplit]
        by_cases hr : a + rowS zs a ≤ M
        · rw [if_pos hr, rd_enc M zs l hz f (a + rowS zs a) (by omega) h2 hr]
        · rw [if_neg hr, if_neg (by omega)]
      · have h1 := litS_bd zs a
        have h2 := litS_len zs a hl
        have hll : ((zs.drop a).take (litS zs a)).length = litS zs a := by rw [List.length_take, List.length_drop]; omega
        have key := rd_lits M ((zs.drop a).take (litS zs a)) (encR zs f (a + litS zs a) ++ l) (zs.take a)
        rw [hll, hta, hsplit] at key
        rw [if_neg h3, List.cons_append, List.append_assoc, rd_few _ _ _ _ (by omega) (by omega), show ((litS zs a : Int) - 1).toNat + 1 = litS zs a by omega, key]
        by_cases hr : a + litS zs a ≤ M
        · rw [if_pos (.inl hr), rd_enc M zs l hz f (a + litS zs a) (by omega) h2 hr]
        · rw [if_neg (by omega), if_neg (by omega)]
    · rw [enc_out zs _ a (by omega), List.nil_append, if_pos (by omega), List.take_of_length_le (by omega)]
theorem runs_back (M : Nat) (zs l : List Int) (hz : ∀ z ∈ zs, 0 ≤ z ∧ z < 256) : rdR M (encS zs ++ l) 0 [] = if zs.length ≤ M then (zs, 0) else ([], 7) := by
  have := rd_enc M zs (128 :: l) hz zs.length 0 (by omega) (Nat.zero_le _) (Nat.zero_le _)
  rw [encS, List.append_assoc]
  rw [List.take_zero] at this
  rw [show [128] ++ l = 128 :: l from rfl, this, rd_end]
theorem runs_cut (M : Nat) (zs : List Int) (hz : ∀ z ∈ zs, 0 ≤ z ∧ z < 256) : rdR M ((encS zs).take ((encS zs).length - 1)) 0 [] = if zs.length ≤ M then ([], 2) else ([], 7) := by
  have := rd_enc M zs [] hz zs.length 0 (by omega) (Nat.zero_le _) (Nat.zero_le _)
  rw [encS, List.length_append, List.take_left' (by simp)]
  rw [List.take_zero, List.append_nil] at this
  rw [this, rd_nil]
theorem litF_stop (zs : List Int) (a : Nat) : ∀ f k, a + litF zs a f k < zs.length → litF zs a f k < k + f → 3 ≤ rowS zs (a + litF zs a f k)
  | 0, k, _, h => by rw [litF] at h; omega
  | f + 1, k, h1, h2 => by
    rw [litF] at h1 h2 ⊢
    split at h1
    · rename_i hc
      rw [if_pos hc] at h2 ⊢
      exact litF_stop zs a f (k + 1) h1 (by omega)
    · rename_i hc
      rw [if_neg hc] at ⊢
      have : ¬ rowS zs (a + k) < 3 := fun h => hc ⟨h1, h⟩
      omega
theorem litS_stop (zs : List Int) (a : Nat) (h1 : a + litS zs a < zs.length) (h2 : litS zs a < 128) : 3 ≤ rowS zs (a + litS zs a) := litF_stop zs a 127 1 h1 (by unfold litS at h2; omega)
/-- What is written is hardly longer. -/
theorem enc_len (zs : List Int) : ∀ f a, a ≤ zs.length → (encR zs f a).length ≤ (zs.length - a) + (zs.length - a) / 3 + (if 3 ≤ rowS zs a then 0 else 1)
  | 0, a, h => by simp [encR]
  | f + 1, a, h => by
    by_cases hl : a < zs.length
    · rw [enc_in zs f a hl]
      by_cases h3 : 3 ≤ rowS zs a
      · rw [if_pos h3, if_pos h3]
        have h2 := rowS_len zs a h
        have ih := enc_len zs f (a + rowS zs a) h2
        simp only [List.length_cons]
        split at ih <;> omega
      · rw [if_neg h3, if_neg h3]
        have h1 := litS_bd zs a
        have h2 := litS_len zs a hl
        have ih := enc_len zs f (a + litS zs a) h2
        simp only [List.length_cons, List.length_append, List.length_take, List.length_drop]
        by_cases he : a + litS zs a < zs.length
        · by_cases hk : litS zs a < 128
          · rw [if_pos (litS_stop zs a he hk)] at ih
            omega
          · split at ih <;> omega
        · rw [enc_out zs f (a + litS zs a) (by omega)]
          simp only [List.length_nil]
          omega
    · rw [enc_out zs _ a (by omega)]
      exact Nat.zero_le _
theorem encS_len (zs : List Int) : 1 ≤ (encS zs).length ∧ (encS zs).length ≤ zs.length + zs.length / 3 + 2 := by
  have := enc_len zs zs.length 0 (Nat.zero_le _)
  rw [encS, List.length_append]
  simp only [List.length_cons, List.length_nil]
  split at this <;> omega
/-- One byte alone. -/
theorem rowF_all (zs : List Int) (x : Int) (h : ∀ i, i < zs.length → zs.getD i 0 = x) (a : Nat) : ∀ f n, a + n ≤ zs.length → min (n + f) (zs.length - a) ≤ rowF zs a f n
  | 0, n, _ => by simp [rowF]; omega
  | f + 1, n, hn => by
    rw [rowF]
    split
    · have := rowF_all zs x h a f (n + 1) (by omega); omega
    · rename_i hc
      have : ¬ a + n < zs.length := fun hl => hc ⟨hl, by rw [h _ hl, h a (by omega)]⟩
      omega
theorem row_all (zs : List Int) (x : Int) (h : ∀ i, i < zs.length → zs.getD i 0 = x) (a : Nat) (ha : a ≤ zs.length) : rowS zs a = min 128 (zs.length - a) := by
  have h1 := rowF_all zs x h a 128 0 (by omega)
  have h2 := rowS_bd zs a
  have h3 := rowS_len zs a ha
  unfold rowS at *
  omega
theorem litF_all (zs : List Int) (a : Nat) (h : ∀ i, a < i → i < zs.length → rowS zs i < 3) : ∀ f k, 1 ≤ k → a + k ≤ zs.length → min (k + f) (zs.length - a) ≤ litF zs a f k
  | 0, n, _, _ => by simp [litF]; omega
  | f + 1, n, h1, hn => by
    rw [litF]
    split
    · have := litF_all zs a h f (n + 1) (by omega) (by omega); omega
    · rename_i hc
      have : ¬ a + n < zs.length := fun hl => hc ⟨hl, h _ (by omega) hl⟩
      omega
theorem lit_all (zs : List Int) (a : Nat) (ha : a < zs.length) (h : ∀ i, a < i → i < zs.length → rowS zs i < 3) : litS zs a = min 128 (zs.length - a) := by
  have h1 := litF_all zs a h 127 1 (Nat.le_refl _) (by omega)
  have h2 := litS_bd zs a
  have h3 := litS_len zs a ha
  unfold litS at *
  omega
/-- What is left of a row of one byte. -/
def tlN (r : Nat) : Nat := if 3 ≤ r then 2 else if 0 < r then 1 + r else 0
theorem enc_alike (zs : List Int) (x : Int) (h : ∀ i, i < zs.length → zs.getD i 0 = x) : ∀ f a, a ≤ zs.length → zs.length ≤ a + f → (encR zs f a).length = 2 * ((zs.length - a) / 128) + tlN ((zs.length - a) % 128)
  | 0, a, h1, h2 => by
    rw [encR, show zs.length - a = 0 by omega]
    rfl
  | f + 1, a, h1, h2 => by
    by_cases hl : a < zs.length
    · rw [enc_in zs f a hl]
      have hr := row_all zs x h a h1
      by_cases h3 : 3 ≤ rowS zs a
      · rw [if_pos h3]
        have ih := enc_alike zs x h f (a + rowS zs a) (by omega) (by omega)
        simp only [List.length_cons]
        rw [ih]
        rcases Nat.lt_or_ge (zs.length - a) 128 with h4 | h4
        · rw [show zs.length - (a + rowS zs a) = 0 by omega, show (zs.length - a) % 128 = zs.length - a by omega]
          unfold tlN
          rw [if_pos (show 3 ≤ zs.length - a by omega)]
          simp
          omega
        · rw [show (zs.length - (a + rowS zs a)) % 128 = (zs.length - a) % 128 by omega]
          omega
      · rw [if_neg h3]
        have hk := lit_all zs a hl (fun i h5 h6 => by rw [row_all zs x h i (by omega)]; omega)
        simp only [List.length_cons, List.length_append, List.length_take, List.length_drop]
        rw [enc_out zs f _ (by omega), show (zs.length - a) % 128 = zs.length - a by omega]
        unfold tlN
        rw [if_neg (by omega), if_pos (by omega)]
        simp only [List.length_nil]
        omega
    · rw [enc_out zs _ a (by omega), show zs.length - a = 0 by omega]
      rfl
/-- No two alike behind each other. -/
theorem row_one (zs : List Int) (a : Nat) (h : a + 1 < zs.length → ¬ zs.getD (a + 1) 0 = zs.getD a 0) : rowS zs a < 3 := by
  unfold rowS
  rw [rowF]
  split
  · rw [rowF, if_neg (fun hc => h hc.1 hc.2)]
    omega
  · omega
theorem enc_plain (zs : List Int) (h : ∀ i, i + 1 < zs.length → ¬ zs.getD (i + 1) 0 = zs.getD i 0) : ∀ f a, a ≤ zs.length → zs.length ≤ a + f → (encR zs f a).length = (zs.length - a) + (zs.length - a + 127) / 128
  | 0, a, h1, h2 => by
    rw [encR, show zs.length - a = 0 by omega]
    rfl
  | f + 1, a, h1, h2 => by
    by_cases hl : a < zs.length
    · have h3 := row_one zs a (h a)
      have hk := lit_all zs a hl (fun i _ _ => row_one zs i (h i))
      have hb := litS_bd zs a
      have ih := enc_plain zs h f (a + litS zs a) (litS_len zs a hl) (by omega)
      rw [enc_in zs f a hl, if_neg (by omega)]
      simp only [List.length_cons, List.length_append, List.length_take, List.length_drop]
      rw [ih]
      omega
    · rw [enc_out zs _ a (by omega), show zs.length - a = 0 by omega]
      rfl
end Go.Proofs.Ytnalaenanopnbaa
