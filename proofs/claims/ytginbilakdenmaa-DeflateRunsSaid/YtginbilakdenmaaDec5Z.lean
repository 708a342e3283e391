/- What Fixed writes is read as it was (chapters 4 and 5). No program is walked here. What Fixed writes is read as it was: symbol by symbol, the block, the blocks (chapters 4 and 5). No program is walked here. What Fixed, Stored, Zlib write is read as it was, with room and without, whole and cut (chapters 4 and 5). No program is walked here. -/
import Derived.Test.YtginbilakdenmaaFix5
import Derived.Test.YtginbilakdenmaaRef4Blk
import Derived.Test.YtginbilakdenmaaRef4Join
import Derived.Test.YtginbilakdenmaaZl5
import Derived.Test.YtginbilakdenmaaRef4Unz
namespace Go.Proofs.Ytginbilakdenmaa
open Go.RowKit
set_option linter.unusedVariables false
set_option maxRecDepth 100000

/-- Bytes whose bits are L, as far as both go. -/
structure Src (Z L : List Int) : Prop where
  bit : ∀ p, p < L.length → p < 8 * Z.length → bitZ Z p = L.getD p 0
  b01 : B01 L
theorem src_more (L Y : List Int) (h : B01 L) : Src (pack L ++ Y) L := ⟨fun p hp _ => by
  rw [← bitZ_pack L h p]
  unfold bitZ
  have e : (pack L ++ Y).getD (p / 8) 0 = (pack L).getD (p / 8) 0 := by
    simp [List.getD, List.getElem?_append_left (show p / 8 < (pack L).length by rw [pack_len]; omega)]
  rw [e], h⟩
theorem src_cut (L : List Int) (h : B01 L) (k : Nat) : Src ((pack L).take k) L := ⟨fun p _ hp => by
  rw [← bitZ_pack L h p]
  unfold bitZ
  rw [List.length_take] at hp
  have e : ((pack L).take k).getD (p / 8) 0 = (pack L).getD (p / 8) 0 := by
    simp [List.getD, show p / 8 < k by omega]
  rw [e], h⟩
theorem src_bits (Z L : List Int) (h : Src Z L) (p : Nat) : ∀ m, p + m ≤ L.length → p + m ≤ 8 * Z.length → bitsZ Z p m = valZ ((L.drop p).take m)
  | 0, _, _ => by simp [bitsZ, valZ]
  | m + 1, h1, h2 => by
    rw [bitsZ, src_bits Z L h p m (by omega) (by omega), h.bit (p + m) (by omega) (by omega)]
    have e : (L.drop p).take (m + 1) = (L.drop p).take m ++ [L.getD (p + m) 0] := by
      rw [take_snocZ (L.drop p) m (by rw [List.length_drop]; omega)]
      congr 2
      simp [List.getD]
    rw [e, valZ_app, List.length_take, List.length_drop, Nat.min_eq_left (by omega)]
    simp [valZ, Int.mul_comm]
theorem src_take (Z A M B : List Int) (h : Src Z (A ++ (M ++ B))) (p m : Nat) (hp : A.length = p) (hm : M.length = m) (hle : p + m ≤ 8 * Z.length) : takeS Z p 0 m = (valZ M, p + m, 0) := by
  unfold takeS
  rw [if_pos rfl, if_pos hle, src_bits Z _ h p m (by simp [hp, hm]) hle]
  subst hp hm
  simp
theorem take_short (Z : List Int) (p m : Nat) (h : 8 * Z.length < p + m) : takeS Z p 0 m = (0, p, 2) := by
  unfold takeS
  rw [if_pos rfl, if_neg (by omega)]
theorem highb_getD (C : Int) : ∀ w k, k < w → (highb C w).getD k 0 = C / 2 ^ (w - 1 - k) % 2
  | w + 1, 0, _ => by rw [highb_succ]; simp
  | w + 1, k + 1, h => by
    rw [highb_succ, show w + 1 - 1 - (k + 1) = w - 1 - k by omega, ← highb_getD C w k (by omega)]
    simp [List.getD]
/-- s is the symbol of w bits that say C, and nothing stands ahead of it. -/
structure Pre (l cs : List Int) (s w : Nat) (C : Int) : Prop where
  w1 : 1 ≤ w
  w15 : w ≤ 15
  no : ∀ n, 1 ≤ n → n < w → hitS l cs (n : Int) (C / 2 ^ (w - n)) = none
  hit : hitS l cs (w : Int) C = some s
  c0 : 0 ≤ C
  c1 : C < 2 ^ w
theorem half_step (C : Int) (r : Nat) : 2 * (C / 2 ^ (r + 1)) + C / 2 ^ r % 2 = C / 2 ^ r := by
  have e : C / 2 ^ (r + 1) = C / 2 ^ r / 2 := by
    rw [Int.pow_succ, Int.ediv_ediv_of_nonneg (Int.le_of_lt (pow2_pos r))]
  rw [e]
  omega
theorem sym_go (Z A B l cs : List Int) (s w : Nat) (C : Int) (hP : Pre l cs s w C) (h : Src Z (A ++ (highb C w ++ B))) (p : Nat) (hp : A.length = p) :
    ∀ r k F, k + r = w → 1 ≤ r → r ≤ F → (p + w ≤ 8 * Z.length → symR Z l cs F ((k + 1 : Nat) : Int) (C / 2 ^ r) (p + k) = ((s : Int), p + w, 0)) ∧ (8 * Z.length < p + w → (symR Z l cs F ((k + 1 : Nat) : Int) (C / 2 ^ r) (p + k)).2.2 = 2)
  | r + 1, k, F, hk, _, hF => by
    obtain ⟨F, rfl⟩ : ∃ j, F = j + 1 := ⟨F - 1, by omega⟩
    rw [symR]
    by_cases hl : p + k + 1 ≤ 8 * Z.length
    · have hb : bitZ Z (p + k) = C / 2 ^ r % 2 := by
        rw [h.bit (p + k) (by simp [hp, highb_len]; omega) (by omega)]
        have e : (A ++ (highb C w ++ B)).getD (p + k) 0 = (highb C w).getD k 0 := by
          subst hp
          rw [List.getD, List.getD, List.getElem?_append_right (Nat.le_add_right _ _), Nat.add_sub_cancel_left, List.getElem?_append_left (show k < (highb C w).length by rw [highb_len]; omega)]
        rw [e, highb_getD C w k (by omega), show w - 1 - k = r by omega]
      rw [if_pos hl, hb, half_step]
      rcases Nat.eq_zero_or_pos r with h0 | h0
      · subst h0
        have hw : k + 1 = w := by omega
        rw [hw, show C / 2 ^ 0 = C by simp, hP.hit]
        dsimp only
        rw [show p + k + 1 = p + w by omega]
        exact ⟨fun _ => rfl, fun h => absurd h (by omega)⟩
      · have hno := hP.no (k + 1) (by omega) (by omega)
        rw [show w - (k + 1) = r by omega] at hno
        rw [hno]
        dsimp only
        have ih := sym_go Z A B l cs s w C hP h p hp r (k + 1) F (by omega) h0 (by omega)
        exact ih
    · rw [if_neg hl]
      exact ⟨fun h => absurd h (by omega), fun _ => rfl⟩
theorem src_sym (Z A B l cs : List Int) (s w : Nat) (C : Int) (hP : Pre l cs s w C) (h : Src Z (A ++ (highb C w ++ B))) (p : Nat) (hp : A.length = p) :
    (p + w ≤ 8 * Z.length → symR Z l cs 15 1 0 p = ((s : Int), p + w, 0)) ∧ (8 * Z.length < p + w → (symR Z l cs 15 1 0 p).2.2 = 2) := by
  have h1 := sym_go Z A B l cs s w C hP h p hp w 0 15 (by omega) hP.w1 hP.w15
  rw [Int.ediv_eq_zero_of_lt hP.c0 hP.c1] at h1
  exact h1
/-- The fixed codes. -/
def fcode (i : Nat) : Int := if i ≤ 143 then 48 + (i : Int) else if i ≤ 255 then 256 + (i : Int) else if i ≤ 279 then (i : Int) - 256 else (i : Int) - 88
theorem fix_codes : codesS fixLs = (List.range 288).map fcode := by decide +kernel
theorem dis_codes : codesS fixDs = (List.range 32).map (fun i : Nat => (i : Int)) := by decide +kernel
theorem fixLs_at (i : Nat) (h : i < 288) : fixLs.getD i 0 = fixL i := by simp [fixLs, fixLN, List.getD, h]
theorem fixCs_at (i : Nat) (h : i < 288) : (codesS fixLs).getD i 0 = fcode i := by rw [fix_codes]; simp [List.getD, h]
theorem fixDs_at (i : Nat) (h : i < 32) : fixDs.getD i 0 = 5 := by simp [fixDs, fixDN, List.getD, h]
theorem disCs_at (i : Nat) (h : i < 32) : (codesS fixDs).getD i 0 = i := by rw [dis_codes]; simp [List.getD, h]
theorem fixLs_len : fixLs.length = 288 := fixLN_len 288
theorem fixDs_len : fixDs.length = 32 := fixDN_len 32
theorem fix_cases (i : Nat) (h : i < 288) : (fixL i = 7 ∧ 0 ≤ fcode i ∧ fcode i ≤ 23 ∧ fcode i = (i : Int) - 256) ∨ (fixL i = 8 ∧ 48 ≤ fcode i ∧ fcode i ≤ 191 ∧ fcode i = 48 + (i : Int)) ∨ (fixL i = 8 ∧ 192 ≤ fcode i ∧ fcode i ≤ 199 ∧ fcode i = (i : Int) - 88) ∨ (fixL i = 9 ∧ 400 ≤ fcode i ∧ fcode i ≤ 511 ∧ fcode i = 256 + (i : Int)) := by
  unfold fixL fcode
  by_cases h1 : i ≤ 143
  · simp only [if_pos h1]; exact .inr (.inl ⟨by simp, by omega, by omega, by simp⟩)
  · by_cases h2 : i ≤ 255
    · simp only [if_neg h1, if_pos h2]; exact .inr (.inr (.inr ⟨by simp, by omega, by omega, by simp⟩))
    · by_cases h3 : i ≤ 279
      · simp only [if_neg h1, if_neg h2, if_pos h3]; exact .inl ⟨by simp, by omega, by omega, by simp⟩
      · simp only [if_neg h1, if_neg h2, if_neg h3]; exact .inr (.inr (.inl ⟨by simp, by omega, by omega, by simp⟩))
theorem pre_fix (s : Nat) (h : s < 288) : Pre fixLs (codesS fixLs) s (fixL s).toNat (fcode s) := by
  have hc := fix_cases s h
  refine ⟨by omega, by omega, fun n n1 nw => ?_, ?_, by omega, ?_⟩
  · refine hitS_none _ _ _ _ fun i hi hh => ?_
    rw [fixLs_len] at hi
    rw [fixLs_at i hi, fixCs_at i hi] at hh
    have hi2 := fix_cases i hi
    have hn : n = 7 ∨ n = 8 := by omega
    have hw : (fixL s).toNat - n = 1 ∨ (fixL s).toNat - n = 2 := by omega
    obtain ⟨h1, h2⟩ := hh
    rcases hw with hw | hw
    · rw [hw, show (2 : Int) ^ 1 = 2 from rfl] at h2
      rcases hn with rfl | rfl <;> omega
    · rw [hw, show (2 : Int) ^ 2 = 4 from rfl] at h2
      rcases hn with rfl | rfl <;> omega
  · refine hitS_some _ _ _ _ s (by rw [fixLs_len]; exact h) (by rw [fixLs_at s h]; omega) (fixCs_at s h) fun i hi hh => ?_
    rw [fixLs_at i (by omega), fixCs_at i (by omega)] at hh
    have hi2 := fix_cases i (by omega)
    omega
  · have hw : (fixL s).toNat = 7 ∨ (fixL s).toNat = 8 ∨ (fixL s).toNat = 9 := by omega
    rcases hw with hw | hw | hw
    · rw [hw, show (2 : Int) ^ 7 = 128 from rfl]; omega
    · rw [hw, show (2 : Int) ^ 8 = 256 from rfl]; omega
    · rw [hw, show (2 : Int) ^ 9 = 512 from rfl]; omega
theorem pre_dis (s : Nat) (h : s < 32) : Pre fixDs (codesS fixDs) s 5 s := by
  refine ⟨by omega, by omega, fun n n1 nw => ?_, ?_, by omega, ?_⟩
  · refine hitS_none _ _ _ _ fun i hi hh => ?_
    rw [fixDs_len] at hi
    rw [fixDs_at i hi] at hh
    omega
  · refine hitS_some _ _ _ _ s (by rw [fixDs_len]; exact h) (by rw [fixDs_at s h]; rfl) (disCs_at s h) fun i hi hh => ?_
    rw [fixDs_at i (by omega), disCs_at i (by omega)] at hh
    omega
  · rw [show (2 : Int) ^ 5 = 32 from rfl]; omega
theorem symB_eq (s : Nat) (h : s < 288) : symB s = highb (fcode s) (fixL s).toNat := by rw [symB, fixLs_at s h, fixCs_at s h]
theorem src_lit (Z A B : List Int) (s : Nat) (hs : s < 288) (h : Src Z (A ++ (symB s ++ B))) (p : Nat) (hp : A.length = p) :
    (p + (symB s).length ≤ 8 * Z.length → symR Z fixLs (codesS fixLs) 15 1 0 p = ((s : Int), p + (symB s).length, 0)) ∧ (8 * Z.length < p + (symB s).length → (symR Z fixLs (codesS fixLs) 15 1 0 p).2.2 = 2) := by
  rw [symB_eq s hs] at h ⊢
  rw [highb_len]
  exact src_sym Z A B _ _ s _ _ (pre_fix s hs) h p hp
/-- Lengths and distances come back. -/
theorem len_back : ∀ n : Fin 259, 3 ≤ n.val → lenB (lenK n.val).1.toNat + (lenK n.val).2.1 = n.val ∧ lenE (lenK n.val).1.toNat = (lenK n.val).2.2.toNat ∧ (lenK n.val).2.1 < 2 ^ (lenK n.val).2.2.toNat ∧ (((lenK n.val).1.toNat ≤ 264 ∨ (lenK n.val).1.toNat = 285) → (lenK n.val).2.2 = 0 ∧ (lenK n.val).2.1 = 0) := by decide +kernel
theorem dis_back : ∀ n : Fin 65, 1 ≤ n.val → disB (disK n.val).1.toNat + (disK n.val).2.1 = n.val ∧ disE (disK n.val).1.toNat = (disK n.val).2.2.toNat ∧ (disK n.val).2.1 < 2 ^ (disK n.val).2.2.toNat ∧ ((disK n.val).1.toNat ≤ 3 → (disK n.val).2.2 = 0 ∧ (disK n.val).2.1 = 0) := by decide +kernel
/-- A row that stood behind, copied. -/
theorem copy_back (zs : List Int) (most d : Nat) (hd : 1 ≤ d) : ∀ n a, a + n ≤ zs.length → d ≤ a → a ≤ most → (∀ i, i < n → zs.getD (a + i) 0 = zs.getD (a + i - d) 0) →
    (a + n ≤ most → copyR most d n 0 (zs.take a) = (0, zs.take (a + n))) ∧ (most < a + n → (copyR most d n 0 (zs.take a)).1 = 7)
  | 0, a, _, _, h3, _ => by
    rw [copyR]
    exact ⟨fun _ => rfl, fun h => absurd h (by omega)⟩
  | n + 1, a, h1, h2, h3, h4 => by
    have hl : (zs.take a).length = a := by rw [List.length_take]; omega
    have hz : (zs.take a).getD (a - d) 0 = zs.getD a 0 := by
      have h0 := h4 0 (by omega)
      rw [Nat.add_zero] at h0
      rw [h0]
      simp [List.getD, show a - d < a by omega]
    rw [copyR, if_pos rfl, hl, hz]
    by_cases hm : a < most
    · have e1 : putE most (zs.take a) 0 = 0 := by unfold putE; rw [if_neg (by omega)]
      have e2 : putO most (zs.take a) 0 (zs.getD a 0) = zs.take (a + 1) := by
        unfold putO
        rw [if_pos ⟨rfl, by omega⟩, take_snocZ zs a (by omega)]
      rw [e1, e2]
      have ih := copy_back zs most d hd n (a + 1) (by omega) (by omega) (by omega) (fun i hi => by
        have := h4 (i + 1) (by omega)
        rw [show a + 1 + i = a + (i + 1) by omega]
        exact this)
      rw [show a + 1 + n = a + (n + 1) by omega] at ih
      exact ih
    · have e1 : putE most (zs.take a) 0 = 7 := by unfold putE; rw [if_pos (by omega)]
      rw [e1, copyR_bad _ _ _ _ _ (by decide)]
      exact ⟨fun h => absurd h (by omega), fun _ => rfl⟩
/-- What a reading of all comes to: the end q; with room it is zs, without it is too much, cut it is too short. -/
def Post5 (Z zs : List Int) (most q : Nat) (R : Nat × Int × List Int) : Prop :=
  (q ≤ 8 * Z.length → zs.length ≤ most → R = (q, 0, zs)) ∧ (q ≤ 8 * Z.length → most < zs.length → R.2.1 = 7) ∧ (8 * Z.length < q → zs.length ≤ most → R.2.1 = 2)
theorem dec_go (Z zs : List Int) (most : Nat) (hz : ∀ z ∈ zs, 0 ≤ z ∧ z < 256) :
    ∀ f a F p (A B : List Int), Src Z (A ++ (fixR zs f a ++ (symB 256 ++ B))) → A.length = p → a ≤ zs.length → zs.length ≤ a + f → a ≤ most → p ≤ 8 * Z.length → 8 * Z.length < F + p →
      Post5 Z zs most (p + (fixR zs f a).length + (symB 256).length) (codedR Z fixLs (codesS fixLs) fixDs (codesS fixDs) most F p 0 (zs.take a)) := by
  intro f
  induction f with
  | zero =>
    intro a F p A B h hp ha hf hm hpz hF
    obtain rfl : a = zs.length := by omega
    rw [fixR] at h ⊢
    obtain ⟨F, rfl⟩ : ∃ j, F = j + 1 := ⟨F - 1, by omega⟩
    rw [codedR, if_neg (show ¬ ¬ (0 : Int) = 0 from fun h => h rfl)]
    have hs := src_lit Z A B 256 (by omega) (by simpa using h) p hp
    unfold Post5
    rw [List.length_nil, Nat.add_zero, List.take_length]
    rcases Nat.lt_or_ge (8 * Z.length) (p + (symB 256).length) with hl | hl
    · have h2 := hs.2 hl
      have h3 : ¬ (symR Z fixLs (codesS fixLs) 15 1 0 p).2.2 = 0 := by rw [h2]; decide
      dsimp only
      rw [if_pos (.inl h3)]
      exact ⟨fun h => absurd h (by omega), fun h => absurd h (by omega), fun _ _ => h2⟩
    · rw [hs.1 hl]
      dsimp only
      rw [if_pos (.inr rfl)]
      exact ⟨fun _ _ => rfl, fun _ h => absurd h (by omega), fun h => absurd h (by omega)⟩
  | succ f ih =>
    intro a F p A B h hp ha hf hm hpz hF
    by_cases hlt : a < zs.length
    · obtain ⟨F, rfl⟩ : ∃ j, F = j + 1 := ⟨F - 1, by omega⟩
      have hbd := bestN_bd zs a (by omega) (min 64 a)
      rw [fixR, if_pos hlt] at h ⊢
      rw [codedR, if_neg (show ¬ ¬ (0 : Int) = 0 from fun h => h rfl)]
      by_cases h3 : (bestS zs a).1 < 3
      · rw [if_pos h3] at h ⊢
        have hzz := hz _ (List.getElem_mem hlt)
        have ez : zs.getD a 0 = zs[a] := getD_eq zs a hlt
        obtain ⟨z, hzv⟩ : ∃ z : Nat, zs.getD a 0 = z := ⟨(zs.getD a 0).toNat, by omega⟩
        have hz256 : z < 256 := by omega
        rw [hzv, Int.toNat_natCast] at h ⊢
        rw [List.append_assoc] at h
        have hs := src_lit Z A _ z (by omega) h p hp
        have hw := symB_len z (by omega)
        rw [List.length_append]
        obtain ⟨wl, hwl⟩ : ∃ wl, (symB z).length = wl := ⟨_, rfl⟩
        rw [hwl] at hs hw ⊢
        rcases Nat.lt_or_ge (8 * Z.length) (p + wl) with hl | hl
        · have h2 := hs.2 hl
          have h3 : ¬ (symR Z fixLs (codesS fixLs) 15 1 0 p).2.2 = 0 := by rw [h2]; decide
          dsimp only
          rw [if_pos (.inl h3)]
          exact ⟨fun h => absurd h (by omega), fun h => absurd h (by omega), fun _ _ => h2⟩
        · rw [hs.1 hl]
          dsimp only
          rw [if_neg (by omega), if_pos (by omega)]
          have hl2 : (zs.take a).length = a := by rw [List.length_take]; omega
          by_cases hmm : a < most
          · have e1 : putE most (zs.take a) 0 = 0 := by unfold putE; rw [if_neg (by omega)]
            have e2 : putO most (zs.take a) 0 (z : Int) = zs.take (a + 1) := by
              unfold putO
              rw [if_pos ⟨rfl, by omega⟩, take_snocZ zs a hlt, hzv]
            rw [e1, e2]
            have := ih (a + 1) F (p + wl) (A ++ symB z) B (by rw [List.append_assoc]; exact h) (by rw [List.length_append]; omega) (by omega) (by omega) (by omega) (by omega) (by omega)
            rw [show p + (wl + (fixR zs f (a + 1)).length) + (symB 256).length = p + wl + (fixR zs f (a + 1)).length + (symB 256).length by omega]
            exact this
          · have e1 : putE most (zs.take a) 0 = 7 := by unfold putE; rw [if_pos (by omega)]
            rw [e1, codedR_bad _ _ _ _ _ _ _ _ _ _ (by decide)]
            exact ⟨fun _ h => absurd h (by omega), fun _ _ => rfl, fun _ h => absurd h (by omega)⟩
      · rw [if_neg h3] at h ⊢
        have hb1 : (bestS zs a) = bestN zs a (min 64 a) := rfl
        rw [← hb1] at hbd
        obtain ⟨n, d, hnd⟩ : ∃ n d, bestS zs a = (n, d) := ⟨_, _, rfl⟩
        rw [hnd] at h h3 hbd ⊢
        dsimp only at h h3 hbd ⊢
        have hq := hbd.2.2.2 (by omega)
        have hlb := lenK_bd ⟨n, by omega⟩ (by dsimp only; omega)
        have hdb := disK_bd ⟨d, by omega⟩ (by dsimp only; omega)
        have hlk := len_back ⟨n, by omega⟩ (by dsimp only; omega)
        have hdk := dis_back ⟨d, by omega⟩ (by dsimp only; omega)
        dsimp only at hlb hdb hlk hdk
        rw [lenBits, disBits] at h ⊢
        obtain ⟨s, x, e, hse⟩ : ∃ s x e, lenK n = (s, x, e) := ⟨_, _, _, rfl⟩
        obtain ⟨s', x', e', hse'⟩ : ∃ s x e, disK d = (s, x, e) := ⟨_, _, _, rfl⟩
        rw [hse] at h hlb hlk ⊢
        rw [hse'] at h hdb hdk ⊢
        dsimp only at h hlb hdb hlk hdk ⊢
        obtain ⟨S, rfl⟩ : ∃ S : Nat, s = S := ⟨s.toNat, by omega⟩
        obtain ⟨E, rfl⟩ : ∃ E : Nat, e = E := ⟨e.toNat, by omega⟩
        obtain ⟨S', rfl⟩ : ∃ S : Nat, s' = S := ⟨s'.toNat, by omega⟩
        obtain ⟨E', rfl⟩ : ∃ E : Nat, e' = E := ⟨e'.toNat, by omega⟩
        simp only [Int.toNat_natCast] at h hlk hdk ⊢
        -- the four parts
        have h0 : Src Z (A ++ (symB S ++ (lowb x E ++ (highb S' 5 ++ (lowb x' E' ++ (fixR zs f (a + n) ++ (symB 256 ++ B))))))) := by simpa only [List.append_assoc] using h
        have h1 : Src Z ((A ++ symB S) ++ (lowb x E ++ (highb S' 5 ++ (lowb x' E' ++ (fixR zs f (a + n) ++ (symB 256 ++ B)))))) := by simpa only [List.append_assoc] using h
        have h2 : Src Z ((A ++ symB S ++ lowb x E) ++ (highb S' 5 ++ (lowb x' E' ++ (fixR zs f (a + n) ++ (symB 256 ++ B))))) := by simpa only [List.append_assoc] using h
        have h4 : Src Z ((A ++ symB S ++ lowb x E ++ highb S' 5) ++ (lowb x' E' ++ (fixR zs f (a + n) ++ (symB 256 ++ B)))) := by simpa only [List.append_assoc] using h
        have h5 : Src Z ((A ++ symB S ++ lowb x E ++ highb S' 5 ++ lowb x' E') ++ (fixR zs f (a + n) ++ (symB 256 ++ B))) := by simpa only [List.append_assoc] using h
        have hw := symB_len S (by omega)
        have hs0 := src_lit Z A _ S (by omega) h0 p hp
        obtain ⟨wl, hwl⟩ : ∃ wl, (symB S).length = wl := ⟨_, rfl⟩
        rw [hwl] at hs0 hw
        simp only [List.length_append, lowb_len, highb_len, hwl]
        have l1 : (A ++ symB S).length = p + wl := by rw [List.length_append]; omega
        have l2 : (A ++ symB S ++ lowb x E).length = p + wl + E := by rw [List.length_append, l1, lowb_len]
        have l4 : (A ++ symB S ++ lowb x E ++ highb S' 5).length = p + wl + E + 5 := by rw [List.length_append, l2, highb_len]
        have l5 : (A ++ symB S ++ lowb x E ++ highb S' 5 ++ lowb x' E').length = p + wl + E + 5 + E' := by rw [List.length_append, l4, lowb_len]
        have hvx : valZ (lowb x E) = x := by rw [valZ_lowb, Int.emod_eq_of_lt hlb.2.2.1 hlk.2.2.1]
        have hvx' : valZ (lowb x' E') = x' := by rw [valZ_lowb, Int.emod_eq_of_lt hdb.2.2.1 hdk.2.2.1]
        have hq2 : p + (wl + E + (5 + E' + (fixR zs f (a + n)).length)) + (symB 256).length = p + wl + E + 5 + E' + (fixR zs f (a + n)).length + (symB 256).length := by omega
        rw [hq2]
        have hQ : p + wl + E + 5 + E' ≤ p + wl + E + 5 + E' + (fixR zs f (a + n)).length + (symB 256).length := by omega
        obtain ⟨Q, hQQ⟩ : ∃ Q, p + wl + E + 5 + E' + (fixR zs f (a + n)).length + (symB 256).length = Q := ⟨_, rfl⟩
        rw [hQQ] at hQ ⊢
        have short : ∀ R : Nat × Int × List Int, 8 * Z.length < p + wl + E + 5 + E' → R.2.1 = 2 → Post5 Z zs most Q R := fun R hl hR => ⟨fun h => absurd h (by omega), fun h => absurd h (by omega), fun _ _ => hR⟩
        -- the length's symbol
        rcases Nat.lt_or_ge (8 * Z.length) (p + wl) with hl | hl
        · have h2 := hs0.2 hl
          have h3 : ¬ (symR Z fixLs (codesS fixLs) 15 1 0 p).2.2 = 0 := by rw [h2]; decide
          rw [if_pos (.inl h3)]
          exact short _ (by omega) h2
        rw [hs0.1 hl]
        dsimp only
        rw [if_neg (by omega), if_neg (by omega), if_neg (by omega), Int.toNat_natCast]
        -- its bits
        have hls : (p + wl + E ≤ 8 * Z.length → lenS Z (p + wl) 0 S = ((n : Int), p + wl + E, 0)) ∧ (8 * Z.length < p + wl + E → (lenS Z (p + wl) 0 S).2 = (p + wl, 2)) := by
          unfold lenS
          by_cases hc : S ≤ 264 ∨ S = 285
          · have h6 := hlk.2.2.2 hc
            have hE0 : E = 0 := by omega
            rw [if_pos hc]
            subst hE0
            exact ⟨fun _ => by rw [show lenB S = (n : Int) by omega]; rfl, fun h => absurd h (by omega)⟩
          · rw [if_neg hc, hlk.2.1]
            refine ⟨fun hle => ?_, fun hle => ?_⟩
            · rw [src_take Z _ _ _ h1 (p + wl) E l1 (lowb_len _ _) hle, hvx]
              dsimp only
              rw [hlk.1]
            · rw [take_short Z (p + wl) E hle]
        rcases Nat.lt_or_ge (8 * Z.length) (p + wl + E) with hl2 | hl2
        · have h6 := hls.2 hl2
          have h7 : symS Z fixDs (codesS fixDs) (lenS Z (p + wl) 0 S).2.1 (lenS Z (p + wl) 0 S).2.2 = (0, p + wl, 2) := by
            rw [h6]; unfold symS; rw [if_neg (show ¬ (2 : Int) = 0 by decide)]
          rw [h7]
          dsimp only
          rw [if_pos (show ¬ (2 : Int) = 0 by decide)]
          exact short _ (by omega) rfl
        rw [hls.1 hl2]
        dsimp only
        -- the distance's symbol
        have hs1 := src_sym Z _ _ _ _ S' 5 S' (pre_dis S' (by omega)) h2 (p + wl + E) l2
        have hss : symS Z fixDs (codesS fixDs) (p + wl + E) 0 = symR Z fixDs (codesS fixDs) 15 1 0 (p + wl + E) := by unfold symS; rw [if_pos rfl]
        rw [hss]
        rcases Nat.lt_or_ge (8 * Z.length) (p + wl + E + 5) with hl3 | hl3
        · have h6 := hs1.2 hl3
          rw [if_pos (by rw [h6]; decide)]
          exact short _ (by omega) h6
        rw [hs1.1 hl3]
        dsimp only
        rw [if_neg (by decide), if_neg (by omega), Int.toNat_natCast]
        -- its bits
        have hds : (p + wl + E + 5 + E' ≤ 8 * Z.length → disS Z (p + wl + E + 5) 0 S' = ((d : Int), p + wl + E + 5 + E', 0)) ∧ (8 * Z.length < p + wl + E + 5 + E' → (disS Z (p + wl + E + 5) 0 S').2 = (p + wl + E + 5, 2)) := by
          unfold disS
          by_cases hc : S' ≤ 3
          · have h6 := hdk.2.2.2 hc
            have hE0 : E' = 0 := by omega
            rw [if_pos hc]
            subst hE0
            exact ⟨fun _ => by rw [show disB S' = (d : Int) by omega], fun h => absurd h (by omega)⟩
          · rw [if_neg hc, hdk.2.1]
            refine ⟨fun hle => ?_, fun hle => ?_⟩
            · rw [src_take Z _ _ _ h4 (p + wl + E + 5) E' l4 (lowb_len _ _) hle, hvx', ← hdk.1]
            · rw [take_short Z (p + wl + E + 5) E' hle]
        rcases Nat.lt_or_ge (8 * Z.length) (p + wl + E + 5 + E') with hl4 | hl4
        · have h6 := hds.2 hl4
          rw [h6]
          dsimp only
          rw [if_neg (fun h => absurd h.1 (by decide)), copyR_bad _ _ _ _ _ (by decide)]
          dsimp only
          rw [codedR_bad _ _ _ _ _ _ _ _ _ _ (by decide)]
          exact short _ (by omega) rfl
        rw [hds.1 hl4]
        dsimp only
        have hl6 : (zs.take a).length = a := by rw [List.length_take]; omega
        rw [if_neg (by rw [hl6]; omega), Int.toNat_natCast, Int.toNat_natCast]
        have hcp := copy_back zs most d hq.1 n a hbd.2.2.1 (by omega) hm (fun i hi => likeS_eq zs a d i (by rw [← hq.2]; exact hi))
        by_cases hmm : a + n ≤ most
        · rw [hcp.1 hmm]
          dsimp only
          have := ih (a + n) F (p + wl + E + 5 + E') _ B h5 l5 hbd.2.2.1 (by omega) hmm (by omega) (by omega)
          rw [hQQ] at this
          exact this
        · have h7 := hcp.2 (by omega)
          rw [h7, codedR_bad _ _ _ _ _ _ _ _ _ _ (by decide)]
          exact ⟨fun _ h => absurd h (by omega), fun _ _ => rfl, fun _ h => absurd h (by omega)⟩
    · have ih2 := ih a F p A B (by
        rw [fixR, if_neg hlt] at h
        have : fixR zs f a = [] := by cases f with
          | zero => rfl
          | succ f => rw [fixR, if_neg hlt]
        rw [this]; exact h) hp ha (by omega) hm hpz hF
      have e1 : fixR zs (f + 1) a = [] := by rw [fixR, if_neg hlt]
      have e2 : fixR zs f a = [] := by cases f with
        | zero => rfl
        | succ f => rw [fixR, if_neg hlt]
      rw [e1]
      rw [e2] at ih2
      exact ih2
/-- The two answers of a block's head. -/
theorem head_short (Z : List Int) (h : Z.length = 0) (most : Nat) (F : Nat) (out : List Int) : (blocksR Z most (F + 1) 0 out).2.2 = 2 := by
  have h1 : takeS Z 0 0 1 = (0, 0, 2) := take_short Z 0 1 (by omega)
  have h2 : takeS Z 0 2 2 = (0, 0, 2) := by unfold takeS; rw [if_neg (by decide)]
  have h3 : blockS Z most 0 out = (0, 2, out) := by
    unfold blockS
    rw [h1]
    dsimp only
    rw [h2, if_neg (by decide)]
  rw [blocksR, h3, if_pos (show ¬ (2 : Int) = 0 by decide)]
theorem fix_post (Z zs : List Int) (most : Nat) (hz : ∀ z ∈ zs, 0 ≤ z ∧ z < 256) (h : Src Z (fixBits zs)) :
    ((fixBits zs).length ≤ 8 * Z.length → zs.length ≤ most → blocksS Z most = (zs, ((fixBits zs).length + 7) / 8, 0)) ∧
    ((fixBits zs).length ≤ 8 * Z.length → most < zs.length → (blocksS Z most).2.2 = 7) ∧
    (8 * Z.length < (fixBits zs).length → zs.length ≤ most → (blocksS Z most).2.2 = 2) := by
  have hL : (fixBits zs).length = 3 + (fixR zs zs.length 0).length + (symB 256).length := by
    unfold fixBits; simp only [List.length_append, List.length_cons, List.length_nil]; omega
  have hs := symB_len 256 (by omega)
  unfold blocksS
  by_cases h0 : Z.length = 0
  · exact ⟨fun h => absurd h (by omega), fun h => absurd h (by omega), fun _ _ => head_short Z h0 most _ _⟩
  · have t1 : takeS Z 0 0 1 = (1, 1, 0) := by
      have := src_take Z [] [1] ([1, 0] ++ (fixR zs zs.length 0 ++ symB 256)) h 0 1 rfl rfl (by omega)
      rw [this]; rfl
    have t2 : takeS Z 1 0 2 = (1, 3, 0) := by
      have := src_take Z [1] [1, 0] (fixR zs zs.length 0 ++ symB 256) h 1 2 rfl rfl (by omega)
      rw [this]; rfl
    have hgo := dec_go Z zs most hz zs.length 0 (8 * Z.length + 1) 3 [1, 1, 0] [] (by rw [List.append_nil]; exact h) rfl (Nat.zero_le _) (by omega) (Nat.zero_le _) (by omega) (by omega)
    rw [List.take_zero, ← hL] at hgo
    have hb : blockS Z most 0 [] = codedR Z fixLs (codesS fixLs) fixDs (codesS fixDs) most (8 * Z.length + 1) 3 0 [] := by
      unfold blockS
      rw [t1]
      dsimp only
      rw [t2]
      dsimp only
      rw [if_pos rfl]
      unfold kindS
      rw [if_neg (by decide), if_pos rfl]
    rw [blocksR, hb, t1]
    obtain ⟨p1, p2, p3⟩ := hgo
    refine ⟨fun h1 h2 => ?_, fun h1 h2 => ?_, fun h1 h2 => ?_⟩
    · rw [p1 h1 h2]
      dsimp only
      rw [if_neg (fun h => h rfl), if_pos rfl]
    · have := p2 h1 h2
      rw [if_pos (by rw [this]; decide)]
      exact this
    · have := p3 h1 h2
      rw [if_pos (by rw [this]; decide)]
      exact this
theorem fixedS_len (zs : List Int) : (fixedS zs).length = ((fixBits zs).length + 7) / 8 := pack_len _
theorem fix_full (zs Y : List Int) (most : Nat) (hz : ∀ z ∈ zs, 0 ≤ z ∧ z < 256) (hm : zs.length ≤ most) : blocksS (fixedS zs ++ Y) most = (zs, (fixedS zs).length, 0) := by
  have h := (fix_post (fixedS zs ++ Y) zs most hz (src_more _ _ (fixBits_01 zs))).1 (by rw [List.length_append, fixedS_len]; omega) hm
  rw [h, fixedS_len]
theorem fix_limit (zs Y : List Int) (most : Nat) (hz : ∀ z ∈ zs, 0 ≤ z ∧ z < 256) (hm : most < zs.length) : (blocksS (fixedS zs ++ Y) most).2.2 = 7 :=
  (fix_post (fixedS zs ++ Y) zs most hz (src_more _ _ (fixBits_01 zs))).2.1 (by rw [List.length_append, fixedS_len]; omega) hm
theorem fix_cut (zs : List Int) (k most : Nat) (hz : ∀ z ∈ zs, 0 ≤ z ∧ z < 256) (hm : zs.length ≤ most) (hk : k < (fixedS zs).length) : (blocksS ((fixedS zs).take k) most).2.2 = 2 :=
  (fix_post ((fixedS zs).take k) zs most hz (src_cut _ (fixBits_01 zs) k)).2.2 (by rw [List.length_take]; rw [fixedS_len] at hk ⊢; omega) hm

/-- Stored blocks without room, and cut. -/
theorem storR_limit (zs : List Int) (M : Nat) (hz : Bys zs) : ∀ (n k : Nat) (out : List Int), k + n ≤ zs.length → out.length ≤ M → M < out.length + n → (storR zs M n (8 * k) 0 out).2.1 = 7
  | 0, k, out, _, h1, h2 => absurd h2 (by omega)
  | n + 1, k, out, hk, h1, h2 => by
    rw [storR, if_pos rfl, take_in zs (8 * k) 8 (by omega), bits8 zs k (hz k)]
    dsimp only
    by_cases hm : out.length < M
    · have e1 : putE M out 0 = 0 := by unfold putE; rw [if_neg (by omega)]
      have e2 : putO M out 0 (zs.getD k 0) = out ++ [zs.getD k 0] := by unfold putO; rw [if_pos ⟨rfl, hm⟩]
      rw [e1, e2, show 8 * k + 8 = 8 * (k + 1) by omega]
      exact storR_limit zs M hz n (k + 1) _ (by omega) (by simp; omega) (by simp; omega)
    · have e1 : putE M out 0 = 7 := by unfold putE; rw [if_pos (by omega)]
      rw [e1, storR_bad _ _ _ _ _ _ (by decide)]
theorem storR_cut (zs : List Int) (M : Nat) (hz : Bys zs) : ∀ (n k : Nat) (out : List Int), k ≤ zs.length → zs.length < k + n → out.length + n ≤ M → (storR zs M n (8 * k) 0 out).2.1 = 2
  | 0, k, out, h0, h1, h2 => absurd h1 (by omega)
  | n + 1, k, out, h0, h1, h2 => by
    rw [storR, if_pos rfl]
    by_cases hk : k < zs.length
    · rw [take_in zs (8 * k) 8 (by omega), bits8 zs k (hz k)]
      dsimp only
      have e1 : putE M out 0 = 0 := by unfold putE; rw [if_neg (by omega)]
      have e2 : putO M out 0 (zs.getD k 0) = out ++ [zs.getD k 0] := by unfold putO; rw [if_pos ⟨rfl, by omega⟩]
      rw [e1, e2, show 8 * k + 8 = 8 * (k + 1) by omega]
      exact storR_cut zs M hz n (k + 1) _ (by omega) (by omega) (by simp; omega)
    · rw [take_short zs (8 * k) 8 (by omega)]
      dsimp only
      have e1 : putE M out 2 = 2 := by unfold putE; rw [if_neg (fun h => absurd h.1 (by decide))]
      rw [e1, storR_bad _ _ _ _ _ _ (by decide)]
/-- A stored block's head is there. -/
structure SHead (Z : List Int) (n : Nat) : Prop where
  b0 : Z.getD 0 0 = 1
  b1 : Z.getD 1 0 = (n % 256 : Nat)
  b2 : Z.getD 2 0 = (n / 256 : Nat)
  b3 : Z.getD 3 0 = 255 - (n % 256 : Nat)
  b4 : Z.getD 4 0 = 255 - (n / 256 : Nat)
theorem shead_take (zs Y : List Int) (k : Nat) (hk : 5 ≤ k) : SHead ((joinZ [zs] ++ Y).take k) zs.length := by
  have e : ∀ i, i < 5 → ((joinZ [zs] ++ Y).take k).getD i 0 = (joinZ [zs]).getD i 0 := fun i hi => by
    have hl := join1_len zs
    simp [List.getD, show i < k by omega, List.getElem?_append_left (show i < (joinZ [zs]).length by omega)]
  exact ⟨by rw [e 0 (by omega)]; rfl, by rw [e 1 (by omega)]; rfl, by rw [e 2 (by omega)]; rfl, by rw [e 3 (by omega)]; rfl, by rw [e 4 (by omega)]; rfl⟩
theorem sblock (Z : List Int) (n M : Nat) (hz : Bys Z) (h : SHead Z n) (hl : 5 ≤ Z.length) (hn : n < 65536) : blockS Z M 0 [] = storR Z M n (8 * 5) 0 [] := by
  have t1 : takeS Z 0 0 1 = (1, 1, 0) := by
    rw [take_in Z _ _ (by omega)]
    have e := bit_at Z 0 0 (by omega)
    rw [show 8 * 0 + 0 = 0 from rfl] at e
    simp only [bitsZ, Nat.add_zero, e, h.b0]
    rfl
  have t2 : takeS Z 1 0 2 = (0, 3, 0) := by
    rw [take_in Z _ _ (by omega)]
    have e1 := bit_at Z 0 1 (by omega)
    have e2 := bit_at Z 0 2 (by omega)
    rw [show 8 * 0 + 1 = 1 from rfl] at e1
    rw [show 8 * 0 + 2 = 2 from rfl] at e2
    simp only [bitsZ, Nat.add_zero, Nat.reduceAdd, e1, e2, h.b0]
    rfl
  unfold blockS
  rw [t1]
  dsimp only
  rw [t2]
  dsimp only
  rw [if_pos rfl]
  unfold kindS
  rw [if_pos rfl]
  unfold storedS algn
  rw [show (3 + 7) / 8 * 8 = 8 * 1 from rfl, take_in Z (8 * 1) 16 (by omega), bits16 Z 1 (hz _) (hz _), h.b1, h.b2]
  dsimp only
  rw [show 8 * 1 + 16 = 8 * 3 from rfl, take_in Z (8 * 3) 16 (by omega), bits16 Z 3 (hz _) (hz _), h.b3, h.b4]
  dsimp only
  rw [if_neg (by omega), show ((n % 256 : Nat) + 256 * ((n / 256 : Nat) : Int)).toNat = n by omega]
theorem stor_full (zs Y : List Int) (M : Nat) (hz : Bys (joinZ [zs] ++ Y)) (hn : zs.length < 65536) (hm : zs.length ≤ M) : blocksS (joinZ [zs] ++ Y) M = (zs, (joinZ [zs]).length, 0) := by
  have h := blocks_join (joinZ [zs] ++ Y) M hz [zs] 0 (8 * (joinZ [zs] ++ Y).length + 1) [] Y (by simp) (fun l hl => by simp at hl; subst hl; exact hn) (by simp) (by simpa using hm) (by omega)
  unfold blocksS
  rw [show (0 : Nat) = 8 * 0 from rfl, h]
  simp
theorem stor_limit (zs Y : List Int) (M : Nat) (hz : Bys (joinZ [zs] ++ Y)) (hn : zs.length < 65536) (hm : M < zs.length) : (blocksS (joinZ [zs] ++ Y) M).2.2 = 7 := by
  have hl := join1_len zs
  have hh := shead_take zs Y (joinZ [zs] ++ Y).length (by rw [List.length_append]; omega)
  rw [List.take_length] at hh
  have hb := sblock _ zs.length M hz hh (by rw [List.length_append]; omega) hn
  have h7 := storR_limit (joinZ [zs] ++ Y) M hz zs.length 5 [] (by rw [List.length_append]; omega) (Nat.zero_le _) (by simpa using hm)
  rw [← hb] at h7
  unfold blocksS
  rw [blocksR, if_pos (by rw [h7]; decide)]
  exact h7
theorem bys_take {Z : List Int} (h : Bys Z) (k : Nat) : Bys (Z.take k) := fun i => by
  rcases Nat.lt_or_ge i k with hi | hi
  · have e : (Z.take k).getD i 0 = Z.getD i 0 := by simp [List.getD, hi]
    rw [e]; exact h i
  · have e : (Z.take k).getD i 0 = 0 := by simp [List.getD, List.getElem?_take, show ¬ i < k by omega]
    rw [e]; omega
theorem stor_cut (zs : List Int) (k M : Nat) (hz : Bys (joinZ [zs])) (hn : zs.length < 65536) (hm : zs.length ≤ M) (hk : k < (joinZ [zs]).length) : (blocksS ((joinZ [zs]).take k) M).2.2 = 2 := by
  have hl := join1_len zs
  have hlt : ((joinZ [zs]).take k).length = k := by rw [List.length_take]; omega
  have hzk := bys_take hz k
  obtain ⟨Z, hZ⟩ : ∃ Z, (joinZ [zs]).take k = Z := ⟨_, rfl⟩
  unfold blocksS
  by_cases h0 : k = 0
  · exact head_short _ (by omega) M _ _
  · by_cases h5 : 5 ≤ k
    · have hh := shead_take zs [] k h5
      rw [List.append_nil] at hh
      have hb := sblock _ zs.length M hzk hh (by omega) hn
      have h2 := storR_cut ((joinZ [zs]).take k) M hzk zs.length 5 [] (by omega) (by omega) (by simpa using hm)
      rw [← hb] at h2
      rw [blocksR, if_pos (by rw [h2]; decide)]
      exact h2
    · have e0 : ((joinZ [zs]).take k).getD 0 0 = 1 := by
        have : ((joinZ [zs]).take k).getD 0 0 = (joinZ [zs]).getD 0 0 := by simp [List.getD, show 0 < k by omega]
        rw [this]; rfl
      rw [hZ] at e0 hlt hzk ⊢
      have t1 : takeS Z 0 0 1 = (1, 1, 0) := by
        rw [take_in Z _ _ (by omega)]
        have e := bit_at Z 0 0 (by omega)
        rw [show 8 * 0 + 0 = 0 from rfl] at e
        simp only [bitsZ, Nat.add_zero, e, e0]
        rfl
      have t2 : takeS Z 1 0 2 = (0, 3, 0) := by
        rw [take_in Z _ _ (by omega)]
        have e1 := bit_at Z 0 1 (by omega)
        have e2 := bit_at Z 0 2 (by omega)
        rw [show 8 * 0 + 1 = 1 from rfl] at e1
        rw [show 8 * 0 + 2 = 2 from rfl] at e2
        simp only [bitsZ, Nat.add_zero, Nat.reduceAdd, e1, e2, e0]
        rfl
      have hb : (blockS Z M 0 []).2.1 = 2 := by
        unfold blockS
        rw [t1]
        dsimp only
        rw [t2]
        dsimp only
        rw [if_pos rfl]
        unfold kindS
        rw [if_pos rfl]
        unfold storedS algn
        rw [show (3 + 7) / 8 * 8 = 8 from rfl]
        have h2 : (takeS Z (takeS Z 8 0 16).2.1 (takeS Z 8 0 16).2.2 16).2.2 = 2 := by
          by_cases h3 : 3 ≤ k
          · rw [take_in Z 8 16 (by omega)]
            dsimp only
            rw [take_short Z (8 + 16) 16 (by omega)]
          · rw [take_short Z 8 16 (by omega)]
            unfold takeS
            rw [if_neg (show ¬ (2 : Int) = 0 by decide)]
        dsimp only
        rw [h2, if_neg (fun h => absurd h.1 (by decide)), storR_bad _ _ _ _ _ _ (by decide)]
      rw [blocksR, if_pos (by rw [hb]; decide)]
      exact hb
theorem join_rng (zs : List Int) (hz : ∀ z ∈ zs, 0 ≤ z ∧ z < 256) (hn : zs.length < 65536) : ∀ z ∈ joinZ [zs], 0 ≤ z ∧ z < 256 := fun z h => by
  rw [show joinZ [zs] = [1, ((zs.length % 256 : Nat) : Int), ((zs.length / 256 : Nat) : Int), 255 - ((zs.length % 256 : Nat) : Int), 255 - ((zs.length / 256 : Nat) : Int)] ++ zs from rfl] at h
  rcases List.mem_append.1 h with h | h
  · simp only [List.mem_cons, List.not_mem_nil, or_false] at h
    omega
  · exact hz z h
theorem fixed_rng (zs : List Int) : ∀ z ∈ fixedS zs, 0 ≤ z ∧ z < 256 := pack_rng _ (fixBits_01 zs)
theorem body_full (zs Y : List Int) (M : Nat) (hz : ∀ z ∈ zs, 0 ≤ z ∧ z < 256) (hY : ∀ z ∈ Y, 0 ≤ z ∧ z < 256) (hn : zs.length < 65536) (hm : zs.length ≤ M) : blocksS (bodyS zs ++ Y) M = (zs, (bodyS zs).length, 0) := by
  unfold bodyS
  split
  · exact stor_full zs Y M (bys_of _ fun z h => by
      rcases List.mem_append.1 h with h | h
      · exact join_rng zs hz hn z h
      · exact hY z h) hn hm
  · exact fix_full zs Y M hz hm
theorem body_limit (zs Y : List Int) (M : Nat) (hz : ∀ z ∈ zs, 0 ≤ z ∧ z < 256) (hY : ∀ z ∈ Y, 0 ≤ z ∧ z < 256) (hn : zs.length < 65536) (hm : M < zs.length) : (blocksS (bodyS zs ++ Y) M).2.2 = 7 := by
  unfold bodyS
  split
  · exact stor_limit zs Y M (bys_of _ fun z h => by
      rcases List.mem_append.1 h with h | h
      · exact join_rng zs hz hn z h
      · exact hY z h) hn hm
  · exact fix_limit zs Y M hz hm
theorem body_cut (zs : List Int) (k M : Nat) (hz : ∀ z ∈ zs, 0 ≤ z ∧ z < 256) (hn : zs.length < 65536) (hm : zs.length ≤ M) (hk : k < (bodyS zs).length) : (blocksS ((bodyS zs).take k) M).2.2 = 2 := by
  unfold bodyS at hk ⊢
  split
  · rename_i h
    rw [if_pos h] at hk
    exact stor_cut zs k M (bys_of _ (join_rng zs hz hn)) hn hm hk
  · rename_i h
    rw [if_neg h] at hk
    exact fix_cut zs k M hz hm hk
theorem numZ_big4 (v : Int) (v0 : 0 ≤ v) (v1 : v ≤ 4294967295) : numZ (big4 v) = v := by
  simp [numZ, big4]
  omega
theorem zlibS_len (zs : List Int) : (zlibS zs).length = (bodyS zs).length + 6 := by simp [zlibS, big4]
theorem zlib_head (zs Y : List Int) : (zlibS zs ++ Y).getD 0 0 = 120 ∧ (zlibS zs ++ Y).getD 1 0 = 1 ∧ (zlibS zs ++ Y).drop 2 = bodyS zs ++ (big4 (moreV 1 zs) ++ Y) := by
  refine ⟨rfl, rfl, ?_⟩
  simp [zlibS]
theorem head_ok : headB 120 1 := by decide
theorem unz_full (zs Y : List Int) (M : Nat) (hz : ∀ z ∈ zs, 0 ≤ z ∧ z < 256) (hY : ∀ z ∈ Y, 0 ≤ z ∧ z < 256) (hn : zs.length < 65536) (hm : zs.length ≤ M) : unzS (zlibS zs ++ Y) M = (zs, (zlibS zs).length, 0) := by
  obtain ⟨h0, h1, h2⟩ := zlib_head zs Y
  have hv := moreV_bd 1 zs
  have hl := zlibS_len zs
  have hb := body_full zs (big4 (moreV 1 zs) ++ Y) M hz (fun z h => by
    rcases List.mem_append.1 h with h | h
    · exact big4_rng _ z h
    · exact hY z h) hn hm
  have hd : ((zlibS zs ++ Y).drop (2 + (bodyS zs).length)).take 4 = big4 (moreV 1 zs) := by
    rw [← List.drop_drop, h2]
    simp [big4]
  unfold unzS
  rw [h0, h1, h2, hb]
  dsimp only
  rw [if_neg (by rw [List.length_append]; omega), if_neg (fun h => h head_ok), if_neg (fun h => h rfl), if_neg (by rw [List.length_append]; omega), hd, numZ_big4 _ hv.1 hv.2, if_neg (fun h => h rfl), hl]
theorem unz_limit (zs Y : List Int) (M : Nat) (hz : ∀ z ∈ zs, 0 ≤ z ∧ z < 256) (hY : ∀ z ∈ Y, 0 ≤ z ∧ z < 256) (hn : zs.length < 65536) (hm : M < zs.length) : (unzS (zlibS zs ++ Y) M).2.2 = 7 := by
  obtain ⟨h0, h1, h2⟩ := zlib_head zs Y
  have hl := zlibS_len zs
  have hb := body_limit zs (big4 (moreV 1 zs) ++ Y) M hz (fun z h => by
    rcases List.mem_append.1 h with h | h
    · exact big4_rng _ z h
    · exact hY z h) hn hm
  unfold unzS
  rw [h0, h1, h2, if_neg (by rw [List.length_append]; omega), if_neg (fun h => h head_ok), if_pos (by rw [hb]; decide)]
  exact hb
theorem unz_cut (zs : List Int) (k M : Nat) (hz : ∀ z ∈ zs, 0 ≤ z ∧ z < 256) (hn : zs.length < 65536) (hm : zs.length ≤ M) (hk : k < (zlibS zs).length) : (unzS ((zlibS zs).take k) M).2.2 = 2 := by
  have hl := zlibS_len zs
  have hlt : ((zlibS zs).take k).length = k := by rw [List.length_take]; omega
  unfold unzS
  rw [hlt]
  by_cases h2k : k < 2
  · rw [if_pos h2k]
  · have h0 : ((zlibS zs).take k).getD 0 0 = 120 := by
      have : ((zlibS zs).take k).getD 0 0 = (zlibS zs).getD 0 0 := by simp [List.getD, show 0 < k by omega]
      rw [this]; rfl
    have h1 : ((zlibS zs).take k).getD 1 0 = 1 := by
      have : ((zlibS zs).take k).getD 1 0 = (zlibS zs).getD 1 0 := by simp [List.getD, show 1 < k by omega]
      rw [this]; rfl
    rw [if_neg h2k, h0, h1, if_neg (fun h => h head_ok)]
    have hd : ((zlibS zs).take k).drop 2 = (bodyS zs ++ big4 (moreV 1 zs)).take (k - 2) := by
      rw [List.drop_take]; simp [zlibS]
    rw [hd]
    by_cases hb : k - 2 < (bodyS zs).length
    · rw [List.take_append_of_le_length (by omega)]
      have := body_cut zs (k - 2) M hz hn hm hb
      rw [if_pos (by rw [this]; decide)]
      exact this
    · rw [List.take_append, List.take_of_length_le (by omega)]
      have := body_full zs ((big4 (moreV 1 zs)).take (k - 2 - (bodyS zs).length)) M hz (fun z h => big4_rng _ z (List.mem_of_mem_take h)) hn hm
      rw [this]
      dsimp only
      rw [if_neg (fun h => h rfl), if_pos (by omega)]
end Go.Proofs.Ytginbilakdenmaa
