/- Chapter 8, pure: codes as a row of bits, what they say, how bytes are written by them, and that it comes back. -/
import Derived.Test.YtpnnejedfccckaaHi8
namespace Go.Proofs.Ytpnnejedfccckaa
open Go.RowKit
set_option linter.unusedVariables false
set_option maxRecDepth 100000

/-- The number that bits are, the highest first. -/
def hiV (l : List Int) : Int := l.foldl (fun a b => a * 2 + b) 0
theorem hiV_snoc (l : List Int) (x : Int) : hiV (l ++ [x]) = hiV l * 2 + x := by simp [hiV]
theorem foldl_hi (l : List Int) : ∀ a : Int, l.foldl (fun a b => a * 2 + b) a = a * 2 ^ l.length + hiV l := by
  induction l with
  | nil => intro a; simp [hiV]
  | cons x l ih =>
    intro a
    have e : (2 : Int) ^ (l.length + 1) = 2 * 2 ^ l.length := by rw [Int.pow_succ, Int.mul_comm]
    have h1 : hiV (x :: l) = (0 * 2 + x) * 2 ^ l.length + hiV l := by rw [hiV, List.foldl_cons, ih]
    rw [List.foldl_cons, ih, List.length_cons, e, h1, Int.zero_mul, Int.zero_add, Int.add_mul, Int.mul_assoc, Int.add_assoc]
theorem hiV_cons (x : Int) (l : List Int) : hiV (x :: l) = x * 2 ^ l.length + hiV l := by
  rw [hiV, List.foldl_cons, foldl_hi]; simp
theorem mod_split (c P : Int) (hp : 0 < P) : c % (P * 2) = c / P % 2 * P + c % P := by
  have h1 := Int.mul_ediv_add_emod c P
  have h2 := Int.mul_ediv_add_emod (c / P) 2
  have h3 : c % P < P := Int.emod_lt_of_pos _ hp
  have h4 : 0 ≤ c % P := Int.emod_nonneg _ (by omega)
  have hr : 0 ≤ c / P % 2 ∧ c / P % 2 ≤ 1 := by omega
  obtain ⟨d, hd⟩ : ∃ d, c / P = d := ⟨_, rfl⟩
  rw [hd] at h1 h2 hr ⊢
  obtain ⟨q, hq⟩ : ∃ q, d / 2 = q := ⟨_, rfl⟩
  obtain ⟨r, hr2⟩ : ∃ r, d % 2 = r := ⟨_, rfl⟩
  obtain ⟨m, hm⟩ : ∃ m, c % P = m := ⟨_, rfl⟩
  rw [hq, hr2] at h2
  rw [hr2] at hr ⊢
  rw [hm] at h1 h3 h4 ⊢
  have hPd : P * d = P * 2 * q + r * P := by rw [← h2, Int.mul_add, ← Int.mul_assoc, Int.mul_comm P r]
  have hc : c = (r * P + m) + (P * 2) * q := by omega
  have hlt : r * P + m < P * 2 ∧ 0 ≤ r * P + m := by
    rcases (by omega : r = 0 ∨ r = 1) with rfl | rfl <;> omega
  rw [hc, Int.add_mul_emod_self_left]
  exact Int.emod_eq_of_lt hlt.2 hlt.1
theorem hiV_hiB (c : Int) (h0 : 0 ≤ c) : ∀ k, c % 2 ^ k = hiV (hiB c k)
  | 0 => by simp [hiB, hiV]
  | k + 1 => by
    rw [hiB, hiV_cons, hiB_len, ← hiV_hiB c h0 k, Int.pow_succ]
    exact mod_split c (2 ^ k) (Int.pow_pos (by omega))
theorem hiB_bit (c : Int) : ∀ k, ∀ x ∈ hiB c k, 0 ≤ x ∧ x ≤ 1
  | 0 => fun x h => by simp [hiB] at h
  | k + 1 => fun x h => by
    rw [hiB] at h
    rcases List.mem_cons.1 h with rfl | h
    · omega
    · exact hiB_bit c k x h
theorem pow_of12 (k : Nat) (hk : 9 ≤ k ∧ k ≤ 12) : (512 : Int) ≤ 2 ^ k := by
  obtain rfl | rfl | rfl | rfl : k = 9 ∨ k = 10 ∨ k = 11 ∨ k = 12 := by omega
  all_goals decide

/-- Bits in bytes, the highest first. -/
def bz8 (B : List Int) (j : Nat) : Int := B.getD (8 * j) 0 * 128 + B.getD (8 * j + 1) 0 * 64 + B.getD (8 * j + 2) 0 * 32 + B.getD (8 * j + 3) 0 * 16 + B.getD (8 * j + 4) 0 * 8 + B.getD (8 * j + 5) 0 * 4 + B.getD (8 * j + 6) 0 * 2 + B.getD (8 * j + 7) 0
def packZ (B : List Int) : List Int := (List.range ((B.length + 7) / 8)).map (bz8 B)
theorem packZ_len (B : List Int) : (packZ B).length = (B.length + 7) / 8 := by simp [packZ]
theorem packZ_get (B : List Int) (j : Nat) (h : j < (B.length + 7) / 8) : (packZ B).getD j 0 = bz8 B j := by
  simp [packZ, List.getD, h]
theorem bit_at (B : List Int) (hB : ∀ x ∈ B, 0 ≤ x ∧ x ≤ 1) (i : Nat) : 0 ≤ B.getD i 0 ∧ B.getD i 0 ≤ 1 := by
  rcases Nat.lt_or_ge i B.length with h | h
  · rw [getD_eq B i h]; exact hB _ (List.getElem_mem h)
  · rw [show B.getD i 0 = 0 by simp [List.getD, List.getElem?_eq_none h]]; omega
theorem bz8_bd (B : List Int) (hB : ∀ x ∈ B, 0 ≤ x ∧ x ≤ 1) (j : Nat) : 0 ≤ bz8 B j ∧ bz8 B j < 256 := by
  have h0 := bit_at B hB (8 * j)
  have h1 := bit_at B hB (8 * j + 1)
  have h2 := bit_at B hB (8 * j + 2)
  have h3 := bit_at B hB (8 * j + 3)
  have h4 := bit_at B hB (8 * j + 4)
  have h5 := bit_at B hB (8 * j + 5)
  have h6 := bit_at B hB (8 * j + 6)
  have h7 := bit_at B hB (8 * j + 7)
  unfold bz8
  omega
theorem packZ_rng (B : List Int) (hB : ∀ x ∈ B, 0 ≤ x ∧ x ≤ 1) : ∀ z ∈ packZ B, 0 ≤ z ∧ z < 256 := fun z hz => by
  obtain ⟨j, _, rfl⟩ := List.mem_map.1 hz
  exact bz8_bd B hB j
theorem bz8_bit (B : List Int) (hB : ∀ x ∈ B, 0 ≤ x ∧ x ≤ 1) (j r : Nat) (hr : r < 8) : bz8 B j / 2 ^ (7 - r) % 2 = B.getD (8 * j + r) 0 := by
  have h0 := bit_at B hB (8 * j)
  have h1 := bit_at B hB (8 * j + 1)
  have h2 := bit_at B hB (8 * j + 2)
  have h3 := bit_at B hB (8 * j + 3)
  have h4 := bit_at B hB (8 * j + 4)
  have h5 := bit_at B hB (8 * j + 5)
  have h6 := bit_at B hB (8 * j + 6)
  have h7 := bit_at B hB (8 * j + 7)
  unfold bz8
  obtain rfl | rfl | rfl | rfl | rfl | rfl | rfl | rfl : r = 0 ∨ r = 1 ∨ r = 2 ∨ r = 3 ∨ r = 4 ∨ r = 5 ∨ r = 6 ∨ r = 7 := by omega
  all_goals simp only [Nat.add_zero, Nat.sub_zero, Nat.reduceSub, Int.reducePow]; omega
/-- These bytes say those bits, as far as they go. -/
def Says (zs B : List Int) : Prop := ∀ p, p < B.length → p < 8 * zs.length → hbit zs p = B.getD p 0
theorem says_pack (B more : List Int) (hB : ∀ x ∈ B, 0 ≤ x ∧ x ≤ 1) (m : Nat) : Says ((packZ B ++ more).take m) B := fun p hp hz => by
  have hj : p / 8 < (B.length + 7) / 8 := by omega
  have hm : p / 8 < m := by rw [List.length_take] at hz; omega
  have e : ((packZ B ++ more).take m).getD (p / 8) 0 = bz8 B (p / 8) := by
    rw [← packZ_get B (p / 8) hj]
    simp only [List.getD]
    rw [List.getElem?_take_of_lt hm, List.getElem?_append_left (by rw [packZ_len]; exact hj)]
  rw [hbit, e, bz8_bit B hB (p / 8) (p % 8) (by omega), show 8 * (p / 8) + p % 8 = p by omega]
theorem says_all (B more : List Int) (hB : ∀ x ∈ B, 0 ≤ x ∧ x ≤ 1) : Says (packZ B ++ more) B := by
  have := says_pack B more hB (packZ B ++ more).length
  rwa [List.take_length] at this
theorem hbits_says (zs B : List Int) (h : Says zs B) (p : Nat) : ∀ k, p + k ≤ B.length → p + k ≤ 8 * zs.length → hbits zs p k = hiV ((B.drop p).take k)
  | 0, _, _ => by simp [hbits, hiV]
  | k + 1, h1, h2 => by
    rw [hbits, hbits_says zs B h p k (by omega) (by omega), h (p + k) (by omega) (by omega)]
    rw [List.take_succ_eq_append_getElem (by rw [List.length_drop]; omega), hiV_snoc]
    congr 1
    rw [getD_eq B (p + k) (by omega)]
    simp
theorem high_code (zs B P S : List Int) (c : Int) (w : Nat) (h : Says zs B) (hB : B = P ++ (hiB c w ++ S)) (h0 : 0 ≤ c) (h1 : c < 2 ^ w) (hw : 0 < w) : highZ zs P.length w = if 8 * zs.length < P.length + w then -1 else c := by
  unfold highZ
  by_cases hs : 8 * zs.length < P.length + w
  · rw [if_pos hs, if_pos hs]
  · rw [if_neg hs, if_neg hs, hbits_says zs B h P.length w (by rw [hB, List.length_append, List.length_append, hiB_len]; omega) (by omega), hB, List.drop_left, List.take_left' (hiB_len c w), ← hiV_hiB c h0 w]
    exact Int.emod_eq_of_lt h0 h1

/-- The row that a code is; none: it may not be. -/
def lzRow (T : List (List Int)) (last : List Int) (c : Int) : Option (List Int) :=
  if c < 256 then some [c]
  else if last = [] ∨ (258 + T.length : Int) < c ∨ (c = 258 + T.length ∧ 4095 < 258 + T.length) then none
  else if c = 258 + T.length then some (last ++ [last.getD 0 0])
  else some (T.getD (c - 258).toNat [])
def lzT (T : List (List Int)) (last x : List Int) : List (List Int) := if last ≠ [] ∧ 258 + T.length < 4096 then T ++ [last ++ [x.getD 0 0]] else T
/-- What codes say. -/
def lzD (M : Nat) (zs : List Int) : Nat → Nat → List (List Int) → List Int → List Int → List Int × Int
  | 0, _, _, _, _ => ([], 2)
  | f + 1, p, T, last, out =>
    if highZ zs p (wdZ (258 + T.length)) < 0 then ([], 2)
    else if highZ zs p (wdZ (258 + T.length)) = 256 then lzD M zs f (p + wdZ (258 + T.length)) [] [] out
    else if highZ zs p (wdZ (258 + T.length)) = 257 then (out, 0)
    else match lzRow T last (highZ zs p (wdZ (258 + T.length))) with
      | none => ([], 4)
      | some x => if out.length + x.length ≤ M then lzD M zs f (p + wdZ (258 + T.length)) (lzT T last x) x (out ++ x) else ([], 7)
def lzDec (M : Nat) (zs : List Int) : List Int × Int := lzD M zs (8 * zs.length + 1) 0 [] [] []

/-- Does a row stand at a place? -/
def stL (zs : List Int) (a : Nat) (t : List Int) : Bool := (zs.drop a).take t.length == t
/-- The longest row of the table that stands there: its code, its length. -/
def lzM (zs : List Int) (a : Nat) : List (List Int) → Nat → Nat × Nat → Nat × Nat
  | [], _, cn => cn
  | t :: r, k, (c, n) => lzM zs a r (k + 1) (if n < t.length ∧ stL zs a t = true then (258 + k, t.length) else (c, n))
def lzBest (zs : List Int) (a : Nat) (TE : List (List Int)) : Nat × Nat := lzM zs a TE 0 ((zs.getD a 0).toNat, 1)
def lzN (reads : Nat) (first : Bool) : Nat := if first = false ∧ reads < 4096 then reads + 1 else reads
/-- How bytes are written. -/
def lzB (zs : List Int) : Nat → Nat → List (List Int) → Nat → Bool → List Int
  | 0, _, _, reads, _ => hiB 257 (wdZ reads)
  | f + 1, a, TE, reads, first =>
    if a < zs.length then
      hiB (lzBest zs a TE).1 (wdZ reads) ++
        (if a + (lzBest zs a TE).2 < zs.length then
          (if 258 + (TE.length + 1) = 4096 then hiB 256 (wdZ (lzN reads first)) ++ lzB zs f (a + (lzBest zs a TE).2) [] 258 true
          else lzB zs f (a + (lzBest zs a TE).2) (TE ++ [(zs.drop a).take ((lzBest zs a TE).2 + 1)]) (lzN reads first) false)
        else lzB zs f (a + (lzBest zs a TE).2) TE (lzN reads first) false)
    else hiB 257 (wdZ reads)
def lzBits (zs : List Int) : List Int := hiB 256 9 ++ lzB zs zs.length 0 [] 258 true
def lzEnc (zs : List Int) : List Int := packZ (lzBits zs)

theorem lzM_bd (zs : List Int) (a : Nat) (P : Nat × Nat → Prop) : ∀ (R : List (List Int)) (k : Nat) (cn : Nat × Nat), P cn → (∀ j t, R[j]? = some t → stL zs a t = true → P (258 + (k + j), t.length)) → P (lzM zs a R k cn)
  | [], k, cn, h, _ => by rw [lzM]; exact h
  | t :: r, k, (c, n), h, hR => by
    rw [lzM]
    refine lzM_bd zs a P r (k + 1) _ ?_ (fun j t' ht hs => ?_)
    · split
      · rename_i h1
        exact hR 0 t rfl h1.2
      · exact h
    · have := hR (j + 1) t' (by simpa using ht) hs
      rwa [show k + 1 + j = k + (j + 1) by omega]
/-- What is found: the byte itself, or a row of the table. -/
theorem best_is (zs : List Int) (a : Nat) (TE : List (List Int)) : lzBest zs a TE = ((zs.getD a 0).toNat, 1) ∨ ∃ j t, TE[j]? = some t ∧ stL zs a t = true ∧ lzBest zs a TE = (258 + j, t.length) := by
  unfold lzBest
  refine lzM_bd zs a (fun cn => cn = ((zs.getD a 0).toNat, 1) ∨ ∃ j t, TE[j]? = some t ∧ stL zs a t = true ∧ cn = (258 + j, t.length)) TE 0 _ (.inl rfl) (fun j t ht hs => .inr ⟨j, t, ht, hs, ?_⟩)
  rw [Nat.zero_add]
theorem lzB_out (zs : List Int) (f a : Nat) (TE : List (List Int)) (reads : Nat) (first : Bool) (h : zs.length ≤ a) : lzB zs f a TE reads first = hiB 257 (wdZ reads) := by
  cases f with
  | zero => rfl
  | succ f => rw [lzB, if_neg (by omega)]
theorem lzB_bit (zs : List Int) : ∀ f a TE reads first, ∀ x ∈ lzB zs f a TE reads first, 0 ≤ x ∧ x ≤ 1
  | 0, a, TE, reads, first => fun x h => hiB_bit _ _ x (by rw [lzB] at h; exact h)
  | f + 1, a, TE, reads, first => fun x h => by
    rw [lzB] at h
    split at h
    · rcases List.mem_append.1 h with h | h
      · exact hiB_bit _ _ x h
      · split at h
        · split at h
          · rcases List.mem_append.1 h with h | h
            · exact hiB_bit _ _ x h
            · exact lzB_bit zs f _ _ _ _ x h
          · exact lzB_bit zs f _ _ _ _ x h
        · exact lzB_bit zs f _ _ _ _ x h
    · exact hiB_bit _ _ x h
theorem lzBits_bit (zs : List Int) : ∀ x ∈ lzBits zs, 0 ≤ x ∧ x ≤ 1 := fun x h => by
  rcases List.mem_append.1 h with h | h
  · exact hiB_bit _ _ x h
  · exact lzB_bit zs _ _ _ _ _ x h
/-- Where the writer stands and what a reader knows there. -/
structure LzI (zs : List Int) (a : Nat) (TE : List (List Int)) (reads : Nat) (first : Bool) (T : List (List Int)) (last : List Int) : Prop where
  le : a ≤ zs.length
  rd : reads = 258 + T.length
  fst : first = true → TE = [] ∧ T = [] ∧ last = []
  nxt : first = false → last ≠ [] ∧ (a < zs.length → TE = T ++ [last ++ [zs.getD a 0]])
  lt : T.length < 3838
  few : 258 + TE.length < 4096 
  rows : ∀ t ∈ TE, t ≠ []
theorem stL_take (zs : List Int) (a : Nat) (t : List Int) (h : stL zs a t = true) : (zs.drop a).take t.length = t := by simpa [stL] using h
theorem stL_len (zs : List Int) (a : Nat) (t : List Int) (h : stL zs a t = true) : t.length ≤ zs.length - a := by
  have := congrArg List.length (stL_take zs a t h)
  rw [List.length_take, List.length_drop] at this
  omega
theorem getD_take0 (zs : List Int) (a n : Nat) (hn : 0 < n) : ((zs.drop a).take n).getD 0 0 = zs.getD a 0 := by
  simp only [List.getD, List.getElem?_take_of_lt hn, List.getElem?_drop, Nat.add_zero]
theorem take_one (zs : List Int) (a : Nat) (h : a < zs.length) : (zs.drop a).take 1 = [zs.getD a 0] := by
  rw [List.drop_eq_getElem_cons h, getD_eq zs a h]; rfl
theorem wd_pow (next : Nat) (c : Nat) (h : c < 256 ∨ c < next + 1 ∧ next ≤ 4095) : (c : Int) < 2 ^ wdZ next := by
  unfold wdZ
  split
  · show (c : Int) < 512; omega
  · split
    · show (c : Int) < 1024; omega
    · split
      · show (c : Int) < 2048; omega
      · show (c : Int) < 4096; omega
end Go.Proofs.Ytpnnejedfccckaa
