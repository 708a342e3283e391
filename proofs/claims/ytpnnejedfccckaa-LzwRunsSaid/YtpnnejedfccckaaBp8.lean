/- Rows of bits: the number that they say, the bytes that they are (chapter 5's, for seats that lack chapter 4). No program is walked here. -/
import Derived.Test.YtpnnejedfccckaaMd7
import Derived.Test.YtpnnejedfccckaaRow5
namespace Go.Proofs.Ytpnnejedfccckaa
open Go.RowKit
set_option linter.unusedVariables false
set_option maxRecDepth 100000

/-- The bit at a place; so many bits, the first the lowest. -/
def bitZ (zs : List Int) (p : Nat) : Int := zs.getD (p / 8) 0 / 2 ^ (p % 8) % 2
def bitsZ (zs : List Int) (p : Nat) : Nat → Int
  | 0 => 0
  | i + 1 => bitsZ zs p i + bitZ zs (p + i) * 2 ^ i
theorem bitZ_bd (zs : List Int) (p : Nat) : 0 ≤ bitZ zs p ∧ bitZ zs p ≤ 1 := by unfold bitZ; omega
theorem bitsZ_bd (zs : List Int) (p : Nat) : ∀ i, 0 ≤ bitsZ zs p i ∧ bitsZ zs p i < 2 ^ i
  | 0 => by simp [bitsZ]
  | i + 1 => by
    have h1 := bitsZ_bd zs p i
    have h2 := bitZ_bd zs (p + i)
    have e : (2 : Int) ^ (i + 1) = 2 ^ i * 2 := Int.pow_succ 2 i
    rw [bitsZ, e]
    rcases (show bitZ zs (p + i) = 0 ∨ bitZ zs (p + i) = 1 by omega) with h | h
    · rw [h]; omega
    · rw [h]; omega
theorem pow_le16 (i : Nat) (h : i ≤ 16) : (1 : Int) ≤ 2 ^ i ∧ (2 : Int) ^ i ≤ 65536 := by
  have h1 : 2 ^ i ≤ 2 ^ 16 := Nat.pow_le_pow_right (by omega) h
  have h2 : 0 < 2 ^ i := Nat.two_pow_pos i
  have e : ((2 ^ i : Nat) : Int) = (2 : Int) ^ i := by rw [Int.natCast_pow]; rfl
  omega

/-- The number that bits say, the first the lowest. -/
def valZ : List Int → Int
  | [] => 0
  | x :: L => x + 2 * valZ L
/-- All are 0 or 1. -/
def B01 (L : List Int) : Prop := ∀ x ∈ L, x = 0 ∨ x = 1
theorem B01.nil : B01 [] := fun _ h => by cases h
theorem B01.app {A B : List Int} (h : B01 A) (k : B01 B) : B01 (A ++ B) := fun x hx => by
  rcases List.mem_append.1 hx with hx | hx
  · exact h x hx
  · exact k x hx
theorem B01.left {A B : List Int} (h : B01 (A ++ B)) : B01 A := fun x hx => h x (List.mem_append_left _ hx)
theorem B01.right {A B : List Int} (h : B01 (A ++ B)) : B01 B := fun x hx => h x (List.mem_append_right _ hx)
theorem B01.take {L : List Int} (h : B01 L) (k : Nat) : B01 (L.take k) := fun x hx => h x (List.mem_of_mem_take hx)
theorem B01.drop {L : List Int} (h : B01 L) (k : Nat) : B01 (L.drop k) := fun x hx => h x (List.mem_of_mem_drop hx)
theorem B01.rev {L : List Int} (h : B01 L) : B01 L.reverse := fun x hx => h x (by simpa using hx)
theorem B01.one {x : Int} (h : x = 0 ∨ x = 1) : B01 [x] := fun y hy => by simp at hy; subst hy; exact h
theorem B01.getD {L : List Int} (h : B01 L) (i : Nat) : L.getD i 0 = 0 ∨ L.getD i 0 = 1 := by
  rcases Nat.lt_or_ge i L.length with hi | hi
  · have e : L.getD i 0 = L[i] := by simp [List.getD, hi]
    rw [e]; exact h _ (List.getElem_mem hi)
  · left; simp [List.getD, List.getElem?_eq_none hi]
theorem valZ_app : ∀ A B : List Int, valZ (A ++ B) = valZ A + 2 ^ A.length * valZ B
  | [], B => by simp [valZ]
  | x :: A, B => by
    rw [List.cons_append, valZ, valZ, valZ_app A B, List.length_cons, Int.pow_succ]
    have e : (2 : Int) ^ A.length * 2 * valZ B = 2 * (2 ^ A.length * valZ B) := by
      rw [Int.mul_comm ((2 : Int) ^ A.length) 2, Int.mul_assoc]
    rw [e]; omega
theorem valZ_bd : ∀ L : List Int, B01 L → 0 ≤ valZ L ∧ valZ L < 2 ^ L.length
  | [], _ => by simp [valZ]
  | x :: L, h => by
    have h1 := valZ_bd L (fun y hy => h y (List.mem_cons_of_mem _ hy))
    have h2 := h x (List.mem_cons_self ..)
    rw [valZ, List.length_cons, Int.pow_succ]
    omega
theorem valZ_zeros : ∀ n : Nat, valZ (List.replicate n 0) = 0
  | 0 => rfl
  | n + 1 => by rw [List.replicate_succ, valZ, valZ_zeros n]; rfl
theorem valZ_drop (L : List Int) (h : B01 L) (k : Nat) : valZ (L.drop k) = valZ L / 2 ^ k := by
  rcases Nat.lt_or_ge L.length k with hk | hk
  · rw [List.drop_eq_nil_of_le (by omega)]
    have h1 := valZ_bd L h
    have h2 : (2 : Int) ^ L.length ≤ 2 ^ k := by
      have := Nat.pow_le_pow_right (n := 2) (by omega) (show L.length ≤ k by omega)
      exact_mod_cast this
    rw [Int.ediv_eq_zero_of_lt h1.1 (by omega)]
    rfl
  · have e : valZ L = valZ (L.take k) + 2 ^ k * valZ (L.drop k) := by
      have := valZ_app (L.take k) (L.drop k)
      rw [List.take_append_drop, List.length_take, Nat.min_eq_left hk] at this
      exact this
    have h1 := valZ_bd (L.take k) (h.take k)
    rw [List.length_take, Nat.min_eq_left hk] at h1
    have h2 : (0 : Int) < 2 ^ k := Int.pow_pos (by omega)
    rw [e, Int.add_mul_ediv_left _ _ (by omega), Int.ediv_eq_zero_of_lt h1.1 h1.2]
    omega
theorem valZ_take (L : List Int) (h : B01 L) (k : Nat) : valZ (L.take k) = valZ L % 2 ^ k := by
  rcases Nat.lt_or_ge L.length k with hk | hk
  · rw [List.take_of_length_le (by omega)]
    have h1 := valZ_bd L h
    have h2 : (2 : Int) ^ L.length ≤ 2 ^ k := by
      have := Nat.pow_le_pow_right (n := 2) (by omega) (show L.length ≤ k by omega)
      exact_mod_cast this
    rw [Int.emod_eq_of_lt h1.1 (by omega)]
  · have e : valZ L = valZ (L.take k) + 2 ^ k * valZ (L.drop k) := by
      have := valZ_app (L.take k) (L.drop k)
      rw [List.take_append_drop, List.length_take, Nat.min_eq_left hk] at this
      exact this
    have h1 := valZ_bd (L.take k) (h.take k)
    rw [List.length_take, Nat.min_eq_left hk] at h1
    rw [e, Int.add_mul_emod_self_left, Int.emod_eq_of_lt h1.1 h1.2]
theorem valZ_bit : ∀ (L : List Int), B01 L → ∀ r, valZ L / 2 ^ r % 2 = L.getD r 0
  | [], _, r => by simp [valZ]
  | x :: L, h, 0 => by
    have h2 := h x (List.mem_cons_self ..)
    simp [valZ]
    omega
  | x :: L, h, r + 1 => by
    have h1 := valZ_bit L (fun y hy => h y (List.mem_cons_of_mem _ hy)) r
    have h2 := h x (List.mem_cons_self ..)
    have e : valZ (x :: L) / 2 ^ (r + 1) = valZ L / 2 ^ r := by
      rw [Int.pow_succ, Int.mul_comm, ← Int.ediv_ediv_of_nonneg (by omega)]
      congr 1
      rw [valZ]
      omega
    rw [e, h1]
    simp [List.getD]

/-- The lowest bits of a number, the lowest first. -/
def lowb (n : Int) : Nat → List Int
  | 0 => []
  | k + 1 => lowb n k ++ [n / 2 ^ k % 2]
theorem lowb_len (n : Int) : ∀ k, (lowb n k).length = k
  | 0 => rfl
  | k + 1 => by rw [lowb, List.length_append, lowb_len n k]; rfl
theorem lowb_01 (n : Int) : ∀ k, B01 (lowb n k)
  | 0 => B01.nil
  | k + 1 => by
    rw [lowb]
    exact (lowb_01 n k).app (B01.one (by omega))
theorem pow2_pos (k : Nat) : (0 : Int) < 2 ^ k := Int.pow_pos (by omega)
theorem valZ_lowb (n : Int) : ∀ k, valZ (lowb n k) = n % 2 ^ k
  | 0 => by simp [lowb, valZ]
  | k + 1 => by
    rw [lowb, valZ_app, valZ_lowb n k, lowb_len, Int.pow_succ]
    have h2 := pow2_pos k
    have e := Int.emod_emod_of_dvd n (show (2 : Int) ^ k ∣ 2 ^ k * 2 from ⟨2, rfl⟩)
    have h3 := Int.mul_ediv_add_emod n (2 ^ k)
    have h4 := Int.mul_ediv_add_emod (n / 2 ^ k) 2
    have h5 := Int.emod_nonneg n (show (2 : Int) ^ k ≠ 0 by omega)
    have h6 := Int.emod_lt_of_pos n h2
    obtain ⟨q, hq⟩ : ∃ q, n / 2 ^ k = q := ⟨_, rfl⟩
    obtain ⟨r, hr⟩ : ∃ r, n % 2 ^ k = r := ⟨_, rfl⟩
    rw [hq] at h3 h4 ⊢
    rw [hr] at h3 h5 h6 ⊢
    obtain ⟨P, hP⟩ : ∃ P, (2 : Int) ^ k = P := ⟨_, rfl⟩
    have hb : q % 2 = 0 ∨ q % 2 = 1 := by omega
    have h7 : 0 < P ∧ r < P := ⟨by rw [← hP]; exact h2, by rw [← hP]; exact h6⟩
    have e1 : n = (r + P * (q % 2)) + (P * 2) * (q / 2) := by
      have e3 : P * q = P * (2 * (q / 2)) + P * (q % 2) := by rw [← Int.mul_add, h4]
      have e4 : P * q + r = n := by rw [← hP]; exact h3
      rw [Int.mul_assoc]
      omega
    have e2 : n % (P * 2) = r + P * (q % 2) := by
      rw [e1, Int.add_mul_emod_self_left, Int.emod_eq_of_lt]
      · rcases hb with hb | hb <;> rw [hb] <;> omega
      · rcases hb with hb | hb <;> rw [hb] <;> omega
    simp only [valZ, Int.mul_zero, Int.add_zero]
    rw [hP, e2]
theorem lowb_getD (n : Int) : ∀ k i, i < k → (lowb n k).getD i 0 = n / 2 ^ i % 2
  | k + 1, i, h => by
    rw [lowb]
    rcases Nat.lt_or_ge i k with hi | hi
    · have e : (lowb n k ++ [n / 2 ^ k % 2]).getD i 0 = (lowb n k).getD i 0 := by
        simp [List.getD, List.getElem?_append_left (show i < (lowb n k).length by rw [lowb_len]; exact hi)]
      rw [e, lowb_getD n k i hi]
    · obtain rfl : i = k := by omega
      simp [List.getD, lowb_len]
theorem lowb_take (n : Int) (k j : Nat) (h : j ≤ k) : (lowb n k).take j = lowb n j := by
  refine list_eq_of_getD _ _ (by rw [List.length_take, lowb_len, lowb_len]; omega) fun i hi => ?_
  rw [List.length_take, lowb_len] at hi
  have e : ((lowb n k).take j).getD i 0 = (lowb n k).getD i 0 := by simp [List.getD, show i < j by omega]
  rw [e, lowb_getD _ _ _ (by omega), lowb_getD _ _ _ (by omega)]
theorem lowb_val (L : List Int) (h : B01 L) (k : Nat) (hk : L.length = k) : lowb (valZ L) k = L := by
  refine list_eq_of_getD _ _ (by rw [lowb_len]; exact hk.symm) fun i hi => ?_
  rw [lowb_len] at hi
  rw [lowb_getD _ _ _ hi, valZ_bit L h]
theorem lowb_congr (n m : Int) (k : Nat) (h : n % 2 ^ k = m % 2 ^ k) : lowb n k = lowb m k := by
  rw [← lowb_val (lowb n k) (lowb_01 n k) k (lowb_len n k), valZ_lowb, h, ← valZ_lowb, lowb_val (lowb m k) (lowb_01 m k) k (lowb_len m k)]
/-- A number's bits, the highest first. -/
def highb (n : Int) (k : Nat) : List Int := (lowb n k).reverse
theorem highb_len (n : Int) (k : Nat) : (highb n k).length = k := by rw [highb, List.length_reverse, lowb_len]
theorem highb_01 (n : Int) (k : Nat) : B01 (highb n k) := (lowb_01 n k).rev
theorem highb_succ (n : Int) (k : Nat) : highb n (k + 1) = n / 2 ^ k % 2 :: highb n k := by simp [highb, lowb]

/-- The k-th byte of a row of bits; the bytes of a row of bits. -/
def byteB (L : List Int) (k : Nat) : Int := valZ ((L.drop (8 * k)).take 8)
def pack (L : List Int) : List Int := (List.range ((L.length + 7) / 8)).map (byteB L)
theorem pack_len (L : List Int) : (pack L).length = (L.length + 7) / 8 := by simp [pack]
theorem byteB_bd (L : List Int) (h : B01 L) (k : Nat) : 0 ≤ byteB L k ∧ byteB L k < 256 := by
  have h1 := valZ_bd ((L.drop (8 * k)).take 8) ((h.drop _).take _)
  have h2 : (2 : Int) ^ ((L.drop (8 * k)).take 8).length ≤ 2 ^ 8 := by
    have := Nat.pow_le_pow_right (n := 2) (by omega) (show ((L.drop (8 * k)).take 8).length ≤ 8 by rw [List.length_take]; omega)
    exact_mod_cast this
  unfold byteB
  omega
theorem byteB_out (L : List Int) (k : Nat) (h : L.length ≤ 8 * k) : byteB L k = 0 := by
  unfold byteB
  rw [List.drop_eq_nil_of_le h]; rfl
theorem pack_getD (L : List Int) (k : Nat) : (pack L).getD k 0 = byteB L k := by
  rcases Nat.lt_or_ge k ((L.length + 7) / 8) with h | h
  · simp [pack, List.getD, h]
  · rw [byteB_out L k (by omega)]
    simp [pack, List.getD, List.getElem?_eq_none (show (List.map (byteB L) (List.range ((L.length + 7) / 8))).length ≤ k by simpa using h)]
theorem pack_rng (L : List Int) (h : B01 L) : ∀ z ∈ pack L, 0 ≤ z ∧ z < 256 := fun z hz => by
  obtain ⟨k, _, rfl⟩ := List.mem_map.1 hz
  exact byteB_bd L h k
theorem byteB_bit (L : List Int) (h : B01 L) (k r : Nat) (hr : r < 8) : byteB L k / 2 ^ r % 2 = L.getD (8 * k + r) 0 := by
  unfold byteB
  rw [valZ_bit _ ((h.drop _).take _)]
  simp [List.getD, hr]
theorem bitZ_pack (L : List Int) (h : B01 L) (p : Nat) : bitZ (pack L) p = L.getD p 0 := by
  unfold bitZ
  rw [pack_getD, byteB_bit L h _ _ (Nat.mod_lt _ (by omega)), show 8 * (p / 8) + p % 8 = p by omega]
theorem bitsZ_pack (L : List Int) (h : B01 L) (p : Nat) : ∀ m, bitsZ (pack L) p m = valZ ((L.drop p).take m)
  | 0 => by simp [bitsZ, valZ]
  | m + 1 => by
    rw [bitsZ, bitsZ_pack L h p m, bitZ_pack L h]
    rcases Nat.lt_or_ge (p + m) L.length with hl | hl
    · have e : (L.drop p).take (m + 1) = (L.drop p).take m ++ [L.getD (p + m) 0] := by
        rw [take_snocZ (L.drop p) m (by rw [List.length_drop]; omega)]
        congr 2
        simp [List.getD]
      rw [e, valZ_app, List.length_take, List.length_drop, Nat.min_eq_left (by omega)]
      simp [valZ, Int.mul_comm]
    · rw [show L.getD (p + m) 0 = 0 by simp [List.getD, List.getElem?_eq_none hl], List.take_of_length_le (show (L.drop p).length ≤ m + 1 by rw [List.length_drop]; omega), List.take_of_length_le (show (L.drop p).length ≤ m by rw [List.length_drop]; omega)]
      omega
/-- What stands behind A, in as many bits. -/
theorem bitsZ_mid (A M B : List Int) (h : B01 (A ++ M ++ B)) (p m : Nat) (hp : A.length = p) (hm : M.length = m) : bitsZ (pack (A ++ M ++ B)) p m = valZ M := by
  rw [bitsZ_pack _ h]
  subst hp hm
  simp
/-- More bits behind: the whole bytes ahead stay. -/
theorem byteB_app (A B : List Int) (k : Nat) (h : 8 * (k + 1) ≤ A.length) : byteB (A ++ B) k = byteB A k := by
  unfold byteB
  rw [List.drop_append_of_le_length (by omega), List.take_append_of_le_length (by rw [List.length_drop]; omega)]
theorem pack_app_take (A B : List Int) (k : Nat) (h : 8 * k ≤ A.length) : (pack (A ++ B)).take k = (pack A).take k := by
  refine list_eq_of_getD _ _ (by simp only [List.length_take, pack_len, List.length_append]; omega) fun i hi => ?_
  simp only [List.length_take, pack_len] at hi
  have e : ∀ X : List Int, (X.take k).getD i 0 = X.getD i 0 := fun X => by simp [List.getD, show i < k by omega]
  rw [e, e, pack_getD, pack_getD, byteB_app A B i (by omega)]
/-- Whole bytes, and what is left. -/
theorem pack_split (L : List Int) : pack L = (pack L).take (L.length / 8) ++ (if L.length % 8 = 0 then [] else [valZ (L.drop (8 * (L.length / 8)))]) := by
  by_cases h : L.length % 8 = 0
  · rw [if_pos h, List.append_nil, List.take_of_length_le (by rw [pack_len]; omega)]
  · rw [if_neg h]
    have hl : L.length / 8 < (pack L).length := by rw [pack_len]; omega
    have e := take_snocZ (pack L) (L.length / 8) hl
    rw [pack_getD, byteB, List.take_of_length_le (show (L.drop (8 * (L.length / 8))).length ≤ 8 by rw [List.length_drop]; omega)] at e
    rw [← e, List.take_of_length_le (by rw [pack_len]; omega)]
/-- One bit more. -/
theorem pack_snoc (L : List Int) (h : B01 L) (x : Int) (hx : x = 0 ∨ x = 1) :
    pack (L ++ [x]) = (pack L ++ (if L.length % 8 = 0 then [0] else [])).set (L.length / 8) (byteB L (L.length / 8) + x * 2 ^ (L.length % 8)) := by
  have hL : (pack L ++ (if L.length % 8 = 0 then [0] else [])).length = (L.length + 8) / 8 := by
    rw [List.length_append, pack_len]
    split <;> simp <;> omega
  refine list_eq_of_getD _ _ (by rw [List.length_set, hL, pack_len, List.length_append]; simp; omega) fun i hi => ?_
  rw [pack_len, List.length_append] at hi
  simp only [List.length_cons, List.length_nil, Nat.zero_add] at hi
  rw [pack_getD]
  by_cases hk : i = L.length / 8
  · subst hk
    have e : ((pack L ++ (if L.length % 8 = 0 then [0] else [])).set (L.length / 8) (byteB L (L.length / 8) + x * 2 ^ (L.length % 8))).getD (L.length / 8) 0 = byteB L (L.length / 8) + x * 2 ^ (L.length % 8) := by
      simp [List.getD, hL]
    rw [e]
    unfold byteB
    rw [List.drop_append_of_le_length (by omega), List.take_of_length_le (show (L.drop (8 * (L.length / 8)) ++ [x]).length ≤ 8 by simp; omega), valZ_app, List.take_of_length_le (show (L.drop (8 * (L.length / 8))).length ≤ 8 by simp; omega), List.length_drop,
      show L.length - 8 * (L.length / 8) = L.length % 8 by omega]
    simp [valZ, Int.mul_comm]
  · have e : ((pack L ++ (if L.length % 8 = 0 then [0] else [])).set (L.length / 8) (byteB L (L.length / 8) + x * 2 ^ (L.length % 8))).getD i 0 = (pack L ++ (if L.length % 8 = 0 then [0] else [])).getD i 0 := by
      simp [List.getD, show ¬ L.length / 8 = i by omega]
    rw [e, byteB_app L [x] i (by omega)]
    have e2 : (pack L ++ (if L.length % 8 = 0 then [0] else [])).getD i 0 = (pack L).getD i 0 := by
      simp [List.getD, List.getElem?_append_left (show i < (pack L).length by rw [pack_len]; omega)]
    rw [e2, pack_getD]
/-- Noughts up to a whole byte. -/
def padB (L : List Int) : List Int := L ++ List.replicate (8 * ((L.length + 7) / 8) - L.length) 0
theorem padB_len (L : List Int) : (padB L).length = 8 * ((L.length + 7) / 8) := by simp [padB]; omega
theorem padB_01 {L : List Int} (h : B01 L) : B01 (padB L) := h.app fun x hx => .inl (List.eq_of_mem_replicate hx)
theorem pack_pad (L : List Int) (h : B01 L) : pack (padB L) = pack L := by
  refine list_eq_of_getD _ _ (by rw [pack_len, pack_len, padB_len]; omega) fun i hi => ?_
  rw [pack_getD, pack_getD]
  unfold byteB padB
  by_cases hk : 8 * (i + 1) ≤ L.length
  · rw [List.drop_append_of_le_length (by omega), List.take_append_of_le_length (by rw [List.length_drop]; omega)]
  · rw [pack_len, padB_len] at hi
    rw [List.drop_append_of_le_length (by omega), List.take_append, valZ_app, List.take_replicate, valZ_zeros]
    omega
/-- Whole bytes behind whole bytes. -/
theorem pack_app8 (A B : List Int) (h : A.length % 8 = 0) : pack (A ++ B) = pack A ++ pack B := by
  refine list_eq_of_getD _ _ (by simp only [List.length_append, pack_len]; omega) fun i hi => ?_
  rw [pack_getD]
  by_cases hk : i < (pack A).length
  · have e : (pack A ++ pack B).getD i 0 = (pack A).getD i 0 := by simp [List.getD, List.getElem?_append_left hk]
    rw [e, pack_getD, byteB_app A B i (by rw [pack_len] at hk; omega)]
  · have e : (pack A ++ pack B).getD i 0 = (pack B).getD (i - (pack A).length) 0 := by simp [List.getD, List.getElem?_append_right (show (pack A).length ≤ i by omega)]
    rw [pack_len] at hk
    rw [e, pack_getD, pack_len]
    unfold byteB
    rw [List.drop_append, List.drop_eq_nil_of_le (show A.length ≤ 8 * i by omega), List.nil_append, show 8 * i - A.length = 8 * (i - (A.length + 7) / 8) by omega]
/-- The bits of bytes. -/
def bitsOf (zs : List Int) : List Int := zs.flatMap fun z => lowb z 8
theorem bitsOf_len : ∀ zs : List Int, (bitsOf zs).length = 8 * zs.length
  | [] => rfl
  | z :: zs => by
    have := bitsOf_len zs
    unfold bitsOf at this ⊢
    rw [List.flatMap_cons, List.length_append, lowb_len, this, List.length_cons]; omega
theorem bitsOf_01 : ∀ zs : List Int, B01 (bitsOf zs)
  | [] => B01.nil
  | z :: zs => by
    have := bitsOf_01 zs
    unfold bitsOf at this ⊢
    rw [List.flatMap_cons]
    exact (lowb_01 z 8).app this
theorem pack_one (z : Int) (h : 0 ≤ z ∧ z < 256) : pack (lowb z 8) = [z] := by
  unfold pack
  rw [lowb_len]
  show [byteB (lowb z 8) 0] = [z]
  unfold byteB
  rw [List.drop_zero, List.take_of_length_le (by rw [lowb_len]; omega), valZ_lowb, Int.emod_eq_of_lt h.1 (by have := h.2; omega)]
theorem pack_bits : ∀ zs : List Int, (∀ z ∈ zs, 0 ≤ z ∧ z < 256) → pack (bitsOf zs) = zs
  | [], _ => rfl
  | z :: zs, h => by
    have ih := pack_bits zs fun y hy => h y (List.mem_cons_of_mem _ hy)
    unfold bitsOf at ih ⊢
    rw [List.flatMap_cons, pack_app8 _ _ (by rw [lowb_len]), pack_one z (h z (List.mem_cons_self ..)), ih]
    rfl
theorem bitsOf_snoc (zs : List Int) (z : Int) : bitsOf (zs ++ [z]) = bitsOf zs ++ lowb z 8 := by simp [bitsOf]
def putB (L : List Int) (n width : Int) : List Int := if 1 ≤ width ∧ width ≤ 16 then L ++ lowb n width.toNat else L
theorem putB_01 {L : List Int} (h : B01 L) (n width : Int) : B01 (putB L n width) := by
  unfold putB
  split
  · exact h.app (lowb_01 _ _)
  · exact h
theorem putB_in (L : List Int) (n : Int) (k : Nat) (h : k ≤ 16) : putB L n k = L ++ lowb n k := by
  unfold putB
  by_cases h1 : 1 ≤ k
  · rw [if_pos (by omega)]; rfl
  · obtain rfl : k = 0 := by omega
    rw [if_neg (by omega)]; simp [lowb]
theorem wrap_u8_mod (z : Int) : IntKind.u8.wrap z = z % 256 := by rw [IntKind.wrap_u8]
end Go.Proofs.Ytpnnejedfccckaa
