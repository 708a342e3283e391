/- Stored blocks (chapter 4): what stands in them is what comes. -/
import Derived.Test.YtginbilakdenmaaRef4Blk
namespace Go.Proofs.Ytginbilakdenmaa
open Go.RowKit
set_option linter.unusedVariables false
set_option maxRecDepth 100000

/-- Bytes at a whole byte's place. -/
theorem bits8 (zs : List Int) (k : Nat) (h : 0 ≤ zs.getD k 0 ∧ zs.getD k 0 < 256) : bitsZ zs (8 * k) 8 = zs.getD k 0 := by
  have e : ∀ i, i < 8 → bitZ zs (8 * k + i) = zs.getD k 0 / 2 ^ i % 2 := fun i hi => by
    unfold bitZ
    rw [show (8 * k + i) / 8 = k by omega, show (8 * k + i) % 8 = i by omega]
  obtain ⟨z, hz⟩ : ∃ z, zs.getD k 0 = z := ⟨_, rfl⟩
  simp only [bitsZ, e 0 (by omega), e 1 (by omega), e 2 (by omega), e 3 (by omega), e 4 (by omega), e 5 (by omega), e 6 (by omega), e 7 (by omega)]
  rw [hz] at h ⊢
  omega
theorem bitsZ_add (zs : List Int) (p a : Nat) : ∀ b, bitsZ zs p (a + b) = bitsZ zs p a + 2 ^ a * bitsZ zs (p + a) b
  | 0 => by simp [bitsZ]
  | b + 1 => by
    rw [← Nat.add_assoc, bitsZ, bitsZ_add zs p a b, bitsZ, Int.mul_add, Int.pow_add, Nat.add_assoc p a b, Int.add_assoc]
    congr 2
    rw [← Int.mul_assoc, ← Int.mul_assoc, Int.mul_comm (bitZ zs (p + (a + b))) (2 ^ a)]
theorem bits16 (zs : List Int) (k : Nat) (h : 0 ≤ zs.getD k 0 ∧ zs.getD k 0 < 256) (h' : 0 ≤ zs.getD (k + 1) 0 ∧ zs.getD (k + 1) 0 < 256) : bitsZ zs (8 * k) 16 = zs.getD k 0 + 256 * zs.getD (k + 1) 0 := by
  rw [show (16 : Nat) = 8 + 8 from rfl, bitsZ_add, bits8 zs k h, show 8 * k + 8 = 8 * (k + 1) by omega, bits8 zs (k + 1) h']
  rfl
theorem take_in (zs : List Int) (p m : Nat) (h : p + m ≤ 8 * zs.length) : takeS zs p 0 m = (bitsZ zs p m, p + m, 0) := by
  unfold takeS
  rw [if_pos rfl, if_pos h]
/-- All of these are bytes. -/
def Bys (zs : List Int) : Prop := ∀ i, 0 ≤ zs.getD i 0 ∧ zs.getD i 0 < 256
theorem bys_of (X : List Int) (h : ∀ z ∈ X, 0 ≤ z ∧ z < 256) : Bys X := fun i => by
  rcases Nat.lt_or_ge i X.length with hi | hi
  · have e : X.getD i 0 = X[i] := by simp [List.getD, hi]
    rw [e]; exact h _ (List.getElem_mem hi)
  · have e : X.getD i 0 = 0 := by simp [List.getD, List.getElem?_eq_none hi]
    rw [e]; omega
theorem storR_all (zs : List Int) (M : Nat) (hz : Bys zs) : ∀ (n k : Nat) (out : List Int), k + n ≤ zs.length → out.length + n ≤ M → storR zs M n (8 * k) 0 out = (8 * (k + n), 0, out ++ (zs.drop k).take n)
  | 0, k, out, _, _ => by simp [storR]
  | n + 1, k, out, hk, hM => by
    rw [storR, if_pos rfl, take_in zs (8 * k) 8 (by omega), bits8 zs k (hz k)]
    dsimp only
    have e1 : putE M out 0 = 0 := by unfold putE; rw [if_neg (by omega)]
    have e2 : putO M out 0 (zs.getD k 0) = out ++ [zs.getD k 0] := by unfold putO; rw [if_pos ⟨rfl, by omega⟩]
    rw [e1, e2, show 8 * k + 8 = 8 * (k + 1) by omega, storR_all zs M hz n (k + 1) _ (by omega) (by simp; omega)]
    have e3 : zs.drop k = zs.getD k 0 :: zs.drop (k + 1) := by
      have hl : k < zs.length := by omega
      rw [List.drop_eq_getElem_cons hl]; simp [List.getD, hl]
    rw [e3, List.take_succ_cons, List.append_assoc, show k + 1 + n = k + (n + 1) by omega]
    rfl
/-- A stored block that begins at the byte k: its head, then n bytes. -/
structure Stor (zs : List Int) (k n : Nat) (last : Int) : Prop where
  b0 : zs.getD k 0 = last
  b1 : zs.getD (k + 1) 0 = (n % 256 : Nat)
  b2 : zs.getD (k + 2) 0 = (n / 256 : Nat)
  b3 : zs.getD (k + 3) 0 = 255 - (n % 256 : Nat)
  b4 : zs.getD (k + 4) 0 = 255 - (n / 256 : Nat)
  le : k + 5 + n ≤ zs.length
  lt : n < 65536
  la : last = 0 ∨ last = 1
theorem bit_at (zs : List Int) (k i : Nat) (hi : i < 8) : bitZ zs (8 * k + i) = zs.getD k 0 / 2 ^ i % 2 := by
  unfold bitZ
  rw [show (8 * k + i) / 8 = k by omega, show (8 * k + i) % 8 = i by omega]
theorem stored_head (zs : List Int) (k n : Nat) (last : Int) (h : Stor zs k n last) : takeS zs (8 * k) 0 1 = (last, 8 * k + 1, 0) ∧ takeS zs (8 * k + 1) 0 2 = (0, 8 * k + 3, 0) := by
  have h1 := h.le
  have h2 := h.b0
  have h3 := h.la
  refine ⟨?_, ?_⟩
  · rw [take_in zs _ _ (by omega)]
    have e := bit_at zs k 0 (by omega)
    rw [Nat.add_zero] at e
    simp only [bitsZ, Nat.add_zero, e, h2]
    rcases h3 with h3 | h3 <;> rw [h3] <;> rfl
  · rw [take_in zs _ _ (by omega)]
    have e1 := bit_at zs k 1 (by omega)
    have e2 := bit_at zs k 2 (by omega)
    simp only [bitsZ, Nat.add_zero, Nat.add_assoc, Nat.reduceAdd, e1, e2, h2]
    rcases h3 with h3 | h3 <;> rw [h3] <;> rfl
theorem stored_all (zs : List Int) (M k n : Nat) (last : Int) (out : List Int) (hz : Bys zs) (h : Stor zs k n last) (hM : out.length + n ≤ M) :
    blockS zs M (8 * k) out = (8 * (k + 5 + n), 0, out ++ (zs.drop (k + 5)).take n) := by
  have hh := stored_head zs k n last h
  have hle := h.le
  have hlt := h.lt
  unfold blockS
  rw [hh.1]
  dsimp only
  rw [hh.2]
  dsimp only
  rw [if_pos rfl]
  unfold kindS
  rw [if_pos rfl]
  unfold storedS algn
  rw [show (8 * k + 3 + 7) / 8 * 8 = 8 * (k + 1) by omega, take_in zs (8 * (k + 1)) 16 (by omega), bits16 zs (k + 1) (hz _) (hz _), h.b1, show k + 1 + 1 = k + 2 by omega, h.b2]
  dsimp only
  rw [show 8 * (k + 1) + 16 = 8 * (k + 3) by omega, take_in zs (8 * (k + 3)) 16 (by omega), bits16 zs (k + 3) (hz _) (hz _), h.b3, show k + 3 + 1 = k + 4 by omega, h.b4]
  dsimp only
  rw [if_neg (by omega), show ((n % 256 : Nat) + 256 * ((n / 256 : Nat) : Int)).toNat = n by omega, show 8 * (k + 3) + 16 = 8 * (k + 5) by omega, storR_all zs M hz n (k + 5) out hle hM]
/-- Stored blocks in a row: all but the last one say that more come. -/
def joinZ : List (List Int) → List Int
  | [] => []
  | [l] => [1, ((l.length % 256 : Nat) : Int), ((l.length / 256 : Nat) : Int), 255 - ((l.length % 256 : Nat) : Int), 255 - ((l.length / 256 : Nat) : Int)] ++ l
  | l :: r => [0, ((l.length % 256 : Nat) : Int), ((l.length / 256 : Nat) : Int), 255 - ((l.length % 256 : Nat) : Int), 255 - ((l.length / 256 : Nat) : Int)] ++ l ++ joinZ r
theorem drop_get (zs : List Int) (k i : Nat) : (zs.drop k).getD i 0 = zs.getD (k + i) 0 := by simp [List.getD]
theorem stor_of (zs : List Int) (k : Nat) (last : Int) (l r : List Int) (hl : l.length < 65536) (la : last = 0 ∨ last = 1)
    (h : zs.drop k = [last, ((l.length % 256 : Nat) : Int), ((l.length / 256 : Nat) : Int), 255 - ((l.length % 256 : Nat) : Int), 255 - ((l.length / 256 : Nat) : Int)] ++ l ++ r) : Stor zs k l.length last ∧ (zs.drop (k + 5)).take l.length = l ∧ zs.drop (k + 5 + l.length) = r := by
  have hg := fun i => drop_get zs k i
  rw [h] at hg
  have hd5 : zs.drop (k + 5) = l ++ r := by rw [← List.drop_drop, h]; rfl
  have hlen : zs.length - k = 5 + l.length + r.length := by
    have := congrArg List.length h
    simp at this
    omega
  refine ⟨⟨(hg 0).symm, (hg 1).symm, (hg 2).symm, (hg 3).symm, (hg 4).symm, by omega, hl, la⟩, ?_, ?_⟩
  · rw [hd5]; simp
  · rw [← List.drop_drop, hd5]; simp
/-- They are read as what stands in them; what is behind them is not read. -/
theorem blocks_join (zs : List Int) (M : Nat) (hz : Bys zs) : ∀ (ls : List (List Int)) (k F : Nat) (out r : List Int), ls ≠ [] → (∀ l ∈ ls, l.length < 65536) → zs.drop k = joinZ ls ++ r → out.length + ls.flatten.length ≤ M → 8 * zs.length - 8 * k < F →
    blocksR zs M F (8 * k) out = (out ++ ls.flatten, k + (joinZ ls).length, 0)
  | [], _, _, _, _, h, _, _, _, _ => absurd rfl h
  | [l], k, F, out, r, _, hb, hd, hM, hF => by
    obtain ⟨J, rfl⟩ : ∃ J, F = J + 1 := ⟨F - 1, by omega⟩
    obtain ⟨h1, h2, h3⟩ := stor_of zs k 1 l r (hb l (by simp)) (.inr rfl) hd
    simp only [List.flatten_cons, List.flatten_nil, List.append_nil] at hM ⊢
    rw [blocksR, (stored_head zs k _ _ h1).1, stored_all zs M k _ _ out hz h1 hM, h2]
    dsimp only
    rw [if_neg (fun h => h rfl), if_pos rfl]
    simp [joinZ]
    omega
  | l :: l' :: ls, k, F, out, r, _, hb, hd, hM, hF => by
    obtain ⟨J, rfl⟩ : ∃ J, F = J + 1 := ⟨F - 1, by omega⟩
    have hd' : zs.drop k = [0, ((l.length % 256 : Nat) : Int), ((l.length / 256 : Nat) : Int), 255 - ((l.length % 256 : Nat) : Int), 255 - ((l.length / 256 : Nat) : Int)] ++ l ++ (joinZ (l' :: ls) ++ r) := by
      rw [hd, joinZ]
      · simp
      · simp
    obtain ⟨h1, h2, h3⟩ := stor_of zs k 0 l _ (hb l (by simp)) (.inl rfl) hd'
    have hle := h1.le
    rw [List.flatten_cons, List.length_append] at hM
    have ih := blocks_join zs M hz (l' :: ls) (k + 5 + l.length) J (out ++ l) r (by simp) (fun x hx => hb x (List.mem_cons_of_mem _ hx)) h3 (by rw [List.length_append]; omega) (by omega)
    rw [blocksR, (stored_head zs k _ _ h1).1, stored_all zs M k _ _ out hz h1 (by omega), h2]
    dsimp only
    rw [if_neg (fun h => h rfl), if_neg (by decide), ih, List.flatten_cons (l := l), List.append_assoc]
    have hj : (joinZ (l :: l' :: ls)).length = 5 + l.length + (joinZ (l' :: ls)).length := by
      rw [show joinZ (l :: l' :: ls) = [0, ((l.length % 256 : Nat) : Int), ((l.length / 256 : Nat) : Int), 255 - ((l.length % 256 : Nat) : Int), 255 - ((l.length / 256 : Nat) : Int)] ++ l ++ joinZ (l' :: ls) from rfl]
      simp
      omega
    rw [hj, show k + (5 + l.length + (joinZ (l' :: ls)).length) = k + 5 + l.length + (joinZ (l' :: ls)).length by omega]
end Go.Proofs.Ytginbilakdenmaa
