/- Chapter 9, pure: left, above, beyond; what a byte is guessed to be; rows undone and done. -/
import Derived.Test.YtagkjndiifcekaaBytes
namespace Go.Proofs.Ytagkjndiifcekaa
open Go.RowKit
set_option linter.unusedVariables false
set_option maxRecDepth 100000

def mayZ (P C K : Int) : Bool := decide ((P = 1 ∨ P = 2 ∨ (10 ≤ P ∧ P ≤ 15)) ∧ 1 ≤ C ∧ C ≤ 4 ∧ 1 ≤ K ∧ K ≤ 4096)
def farZ (a b : Int) : Int := if b < a then a - b else b - a
def paethZ (a b c : Int) : Int := if farZ (a + b - c) a ≤ farZ (a + b - c) b ∧ farZ (a + b - c) a ≤ farZ (a + b - c) c then a else if farZ (a + b - c) b ≤ farZ (a + b - c) c then b else c
def guessZ (t a b c : Int) : Int := if t = 1 then a else if t = 2 then b else if t = 3 then (a + b) / 2 else if t = 4 then paethZ a b c else 0
/-- Left, above, beyond. -/
def leZ (c n : Nat) (ps : List Int) (i : Nat) : Int := if c ≤ i % n then ps.getD (i - c) 0 else 0
def abZ (n : Nat) (ps : List Int) (i : Nat) : Int := if n ≤ i then ps.getD (i - n) 0 else 0
def beZ (c n : Nat) (ps : List Int) (i : Nat) : Int := if n ≤ i ∧ c ≤ i % n then ps.getD (i - n - c) 0 else 0
def gsZ (t : Int) (c n : Nat) (ps : List Int) (i : Nat) : Int := guessZ t (leZ c n ps i) (abZ n ps i) (beZ c n ps i)
theorem getD_rng (ps : List Int) (h : ∀ z ∈ ps, 0 ≤ z ∧ z < 256) (i : Nat) : 0 ≤ ps.getD i 0 ∧ ps.getD i 0 < 256 := by
  rcases Nat.lt_or_ge i ps.length with h1 | h1
  · rw [getD_eq ps i h1]; exact h _ (List.getElem_mem h1)
  · rw [show ps.getD i 0 = 0 by simp [List.getD, List.getElem?_eq_none h1]]; omega
theorem leZ_rng (c n : Nat) (ps : List Int) (h : ∀ z ∈ ps, 0 ≤ z ∧ z < 256) (i : Nat) : 0 ≤ leZ c n ps i ∧ leZ c n ps i < 256 := by
  unfold leZ; split
  · exact getD_rng ps h _
  · omega
theorem abZ_rng (n : Nat) (ps : List Int) (h : ∀ z ∈ ps, 0 ≤ z ∧ z < 256) (i : Nat) : 0 ≤ abZ n ps i ∧ abZ n ps i < 256 := by
  unfold abZ; split
  · exact getD_rng ps h _
  · omega
theorem beZ_rng (c n : Nat) (ps : List Int) (h : ∀ z ∈ ps, 0 ≤ z ∧ z < 256) (i : Nat) : 0 ≤ beZ c n ps i ∧ beZ c n ps i < 256 := by
  unfold beZ; split
  · exact getD_rng ps h _
  · omega
theorem guessZ_rng (t a b c : Int) (ha : 0 ≤ a ∧ a < 256) (hb : 0 ≤ b ∧ b < 256) (hc : 0 ≤ c ∧ c < 256) : 0 ≤ guessZ t a b c ∧ guessZ t a b c < 256 := by
  unfold guessZ paethZ
  split
  · exact ha
  · split
    · exact hb
    · split
      · omega
      · split
        · split
          · exact ha
          · split
            · exact hb
            · exact hc
        · omega
theorem gsZ_rng (t : Int) (c n : Nat) (ps : List Int) (h : ∀ z ∈ ps, 0 ≤ z ∧ z < 256) (i : Nat) : 0 ≤ gsZ t c n ps i ∧ gsZ t c n ps i < 256 :=
  guessZ_rng t _ _ _ (leZ_rng c n ps h i) (abZ_rng n ps h i) (beZ_rng c n ps h i)
/-- What stands ahead alone counts. -/
theorem gsZ_take (t : Int) (c n : Nat) (ps : List Int) (i : Nat) (hc : 0 < c) (hn : 0 < n) : gsZ t c n (ps.take i) i = gsZ t c n ps i := by
  have key : ∀ j, j < i → (ps.take i).getD j 0 = ps.getD j 0 := fun j hj => by simp only [List.getD, List.getElem?_take_of_lt hj]
  have h1 : leZ c n (ps.take i) i = leZ c n ps i := by
    unfold leZ
    split
    · rename_i h
      have := Nat.mod_le i n
      exact key _ (by omega)
    · rfl
  have h2 : abZ n (ps.take i) i = abZ n ps i := by
    unfold abZ
    split
    · exact key _ (by omega)
    · rfl
  have h3 : beZ c n (ps.take i) i = beZ c n ps i := by
    unfold beZ
    split
    · exact key _ (by omega)
    · rfl
  rw [gsZ, gsZ, h1, h2, h3]
/-- A row undone. -/
def rowU (t : Int) (c n : Nat) : List Int → List Int → List Int
  | [], out => out
  | x :: xs, out => rowU t c n xs (out ++ [(x + gsZ t c n out out.length) % 256])
theorem rowU_len (t : Int) (c n : Nat) : ∀ (xs out : List Int), (rowU t c n xs out).length = out.length + xs.length
  | [], out => by simp [rowU]
  | x :: xs, out => by rw [rowU, rowU_len t c n xs, List.length_append]; simp; omega
theorem rowU_rng (t : Int) (c n : Nat) : ∀ (xs out : List Int), (∀ z ∈ out, 0 ≤ z ∧ z < 256) → ∀ z ∈ rowU t c n xs out, 0 ≤ z ∧ z < 256
  | [], out, h => h
  | x :: xs, out, h => by
    rw [rowU]
    refine rowU_rng t c n xs _ (fun z hz => ?_)
    rcases List.mem_append.1 hz with hz | hz
    · exact h z hz
    · simp only [List.mem_singleton] at hz
      omega
/-- Rows undone, from a place on. -/
def undF (c n tags : Nat) (zs : List Int) : Nat → Nat → List Int → List Int × Int
  | 0, _, out => (out, 0)
  | f + 1, r, out =>
    if r < zs.length then
      (if 4 < (if tags = 1 then zs.getD r 0 else 1) then ([], 4)
      else undF c n tags zs f (r + n + tags) (rowU (if tags = 1 then zs.getD r 0 else 1) c n ((zs.drop (r + tags)).take n) out))
    else (out, 0)
def undZ (P C K : Int) (zs : List Int) : List Int × Int :=
  if mayZ P C K = false then ([], 1)
  else if P = 1 then (zs, 0)
  else if zs.length % ((C * K).toNat + (if 10 ≤ P then 1 else 0)) ≠ 0 then ([], 4)
  else undF C.toNat (C * K).toNat (if 10 ≤ P then 1 else 0) zs zs.length 0 []
/-- Rows done. -/
def doF (t : Int) (c n : Nat) (ten : Bool) (zs : List Int) : Nat → Nat → List Int
  | 0, _ => []
  | f + 1, i => if i < zs.length then (if i % n = 0 ∧ ten = true then [t] else []) ++ ((zs.getD i 0 - gsZ t c n zs i) % 256 :: doF t c n ten zs f (i + 1)) else []
def tagZ (P : Int) : Int := if P = 2 then 1 else if P = 15 then 2 else P - 10
def doZ (P C K : Int) (zs : List Int) : List Int × Int :=
  if mayZ P C K = false then ([], 1)
  else if P = 1 then (zs, 0)
  else if zs.length % (C * K).toNat ≠ 0 then ([], 4)
  else (doF (tagZ P) C.toNat (C * K).toNat (decide (10 ≤ P)) zs zs.length 0, 0)
theorem doF_rng (t : Int) (c n : Nat) (ten : Bool) (zs : List Int) (ht : 0 ≤ t ∧ t < 256) : ∀ f i, ∀ z ∈ doF t c n ten zs f i, 0 ≤ z ∧ z < 256
  | 0, i => fun z h => by simp [doF] at h
  | f + 1, i => fun z h => by
    rw [doF] at h
    split at h
    · rcases List.mem_append.1 h with h | h
      · split at h
        · simp only [List.mem_singleton] at h; rw [h]; exact ht
        · cases h
      · rcases List.mem_cons.1 h with rfl | h
        · omega
        · exact doF_rng t c n ten zs ht f (i + 1) z h
    · cases h
/-- One row done, undone behind what is ahead of it. -/
theorem rowU_back (t : Int) (c n : Nat) (zs : List Int) (hz : ∀ z ∈ zs, 0 ≤ z ∧ z < 256) (hc : 0 < c) (hn : 0 < n) : ∀ (m i : Nat), i + m ≤ zs.length →
    rowU t c n ((List.range' i m).map fun j => (zs.getD j 0 - gsZ t c n zs j) % 256) (zs.take i) = zs.take (i + m)
  | 0, i, h => by simp [rowU]
  | m + 1, i, h => by
    have hl : (zs.take i).length = i := by rw [List.length_take]; omega
    have hg := getD_rng zs hz i
    rw [List.range'_succ, List.map_cons, rowU, hl, gsZ_take t c n zs i hc hn]
    have e : ((zs.getD i 0 - gsZ t c n zs i) % 256 + gsZ t c n zs i) % 256 = zs.getD i 0 := by omega
    rw [e, ← take_snocZ zs i (by omega), rowU_back t c n zs hz hc hn m (i + 1) (by omega)]
    congr 1; omega
end Go.Proofs.Ytagkjndiifcekaa
