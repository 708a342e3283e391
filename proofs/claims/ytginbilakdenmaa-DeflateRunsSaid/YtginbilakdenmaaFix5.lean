/- Chapter 5's reference: the symbol of a length and of a distance, what stands behind it, how wide. Chapter 5's reference: how many bytes stand so many places behind, too. Chapter 5: what Fixed writes, as a row of bits. No program is walked here. -/
import Derived.Test.YtginbilakdenmaaRef4Bits
import Derived.Test.YtginbilakdenmaaBit5
import Derived.Test.YtginbilakdenmaaRef4Fixed
namespace Go.Proofs.Ytginbilakdenmaa
open Go.RowKit
set_option linter.unusedVariables false
set_option maxRecDepth 100000

/-- The symbol of a length among 265 .. 264 + k, what stands behind it, how wide. -/
def lenKF (n : Nat) : Nat → Int × Int × Int
  | 0 => ((n : Int) + 254, 0, 0)
  | j + 1 => if (4 + ((j % 4 : Nat) : Int)) * 2 ^ ((j + 4) / 4) + 3 ≤ (n : Int) then (265 + (j : Int), (n : Int) - ((4 + ((j % 4 : Nat) : Int)) * 2 ^ ((j + 4) / 4) + 3), (((j + 4) / 4 : Nat) : Int)) else lenKF n j
def lenK (n : Nat) : Int × Int × Int := if n = 258 then (285, 0, 0) else lenKF n 20
theorem len_bd : ∀ m, m < 4 → ∀ e, e < 7 → 0 ≤ (4 + ((m : Nat) : Int)) * 2 ^ e ∧ (4 + ((m : Nat) : Int)) * 2 ^ e ≤ 448 := by decide

set_option maxHeartbeats 2000000 in
theorem lengthCodeC (n : Nat) (w : World) (hn : n ≤ 1000) (s x e : Int) (hs : lenK n = (s, x, e)) :
    Calls Try.prog 39 #[.int .i64 n] w fun r w' => r = .returned (.tuple #[.int .i64 s, .int .i64 x, .int .i64 e]) ∧ Below w.heap.size w w' := by
  unfold lenK at hs
  by_cases h258 : n = 258
  · rw [if_pos h258] at hs
    obtain ⟨rfl, rfl, rfl⟩ : (285 : Int) = s ∧ (0 : Int) = x ∧ (0 : Int) = e := by simpa [Prod.ext_iff] using hs
    subst h258
    clear hs
    go_enter Try.func39, Try.ntmps39
    go_wp2
    go_ret3
    exact ⟨rfl, Below.refl _ _⟩
  rw [if_neg h258] at hs
  have hne : ((n : Int) == 258) = false := beq_eq_false_iff_ne.2 (by omega)
  go_enter Try.func39, Try.ntmps39
  go_wp2_with fail
  go_loopw [5, 6, 7] (fun sv a6 a7 wr => ∃ k : Nat, k ≤ 20 ∧ sv = .int .i64 ((264 + k : Nat) : Int) ∧ Hid (lenKF n k = (s, x, e)) ∧ Hid (Below w.heap.size w wr)) (fun sv _ _ _ => (intOf sv).toNat)
  case atStart => exact ⟨20, Nat.le_refl _, rfl, Lib.hid hs, Lib.hid (Below.refl _ _)⟩
  case round =>
    obtain ⟨k, hk, rfl, HS, HB⟩ := hrel
    cases k with
    | zero =>
      have h := HS.out
      obtain ⟨rfl, rfl, rfl⟩ : (n : Int) + 254 = s ∧ (0 : Int) = x ∧ (0 : Int) = e := by simpa [lenKF, Prod.ext_iff] using h
      clear h hs
      go_wp2
      go_ret3
      exact ⟨rfl, HB.out⟩
    | succ j =>
      have h := HS.out
      rw [lenKF] at h
      obtain ⟨E, hE⟩ : ∃ E, (j + 4) / 4 = E := ⟨_, rfl⟩
      obtain ⟨M, hM⟩ : ∃ M, j % 4 = M := ⟨_, rfl⟩
      rw [hE, hM] at h
      have hb := len_bd M (by omega) E (by omega)
      obtain ⟨X, hX⟩ : ∃ X : Int, (4 + (M : Int)) * 2 ^ E = X := ⟨_, rfl⟩
      rw [hX] at h hb
      obtain ⟨S, hS⟩ : ∃ S, 264 + (j + 1) = S := ⟨_, rfl⟩
      rw [hS]
      have e1 : ((S : Int) - 261) / 4 = E := by omega
      have e2 : ((S : Int) - 265) % 4 = M := by omega
      have e3 : IntKind.i64.wrap ((4 + (M : Int)) * 2 ^ E) = X := by rw [hX]; exact IntWalk.i64_in _ (by omega)
      have hgt : (264 : Int) < S := by omega
      have hSb : (S : Int) ≤ 284 := by omega
      have hEb : (E : Int) ≤ 6 := by omega
      have hMb : (M : Int) ≤ 3 := by omega
      have HSJ := Lib.hid hS
      clear hE hM hX hS hs
      by_cases hx : X + 3 ≤ (n : Int)
      · rw [if_pos hx] at h
        obtain ⟨h1, h2, h3⟩ : 265 + (j : Int) = s ∧ (n : Int) - (X + 3) = x ∧ (E : Int) = e := by simpa [Prod.ext_iff] using h
        have h4 : (S : Int) = s := by have := HSJ.out; omega
        subst h4 h2 h3
        clear h h1
        go_wp2
        go_ret3
        exact ⟨by rw [← e1]; rfl, HB.out⟩
      · rw [if_neg hx] at h
        have HN := Lib.hid h
        clear h
        go_wp2
        go_roundw
        case rel => exact ⟨j, by omega, by have := HSJ.out; go_num, HN, HB⟩
        case measure => have := HSJ.out; simp [intOf]; omega
/-- The symbol of a distance among 4 .. 3 + k, what stands behind it, how wide. -/
def disKF (n : Nat) : Nat → Int × Int × Int
  | 0 => ((n : Int) - 1, 0, 0)
  | j + 1 => if (2 + ((j % 2 : Nat) : Int)) * 2 ^ ((j + 2) / 2) + 1 ≤ (n : Int) then (4 + (j : Int), (n : Int) - ((2 + ((j % 2 : Nat) : Int)) * 2 ^ ((j + 2) / 2) + 1), (((j + 2) / 2 : Nat) : Int)) else disKF n j
def disK (n : Nat) : Int × Int × Int := disKF n 26
theorem dis_bd : ∀ m, m < 2 → ∀ e, e < 14 → 0 ≤ (2 + ((m : Nat) : Int)) * 2 ^ e ∧ (2 + ((m : Nat) : Int)) * 2 ^ e ≤ 24576 := by decide

set_option maxHeartbeats 2000000 in
theorem distanceCodeC (n : Nat) (w : World) (hn : n ≤ 100000) (s x e : Int) (hs : disK n = (s, x, e)) :
    Calls Try.prog 40 #[.int .i64 n] w fun r w' => r = .returned (.tuple #[.int .i64 s, .int .i64 x, .int .i64 e]) ∧ Below w.heap.size w w' := by
  unfold disK at hs
  go_enter Try.func40, Try.ntmps40
  go_wp2_with fail
  go_loopw [5, 6, 7] (fun sv a6 a7 wr => ∃ k : Nat, k ≤ 26 ∧ sv = .int .i64 ((3 + k : Nat) : Int) ∧ Hid (disKF n k = (s, x, e)) ∧ Hid (Below w.heap.size w wr)) (fun sv _ _ _ => (intOf sv).toNat)
  case atStart => exact ⟨26, Nat.le_refl _, rfl, Lib.hid hs, Lib.hid (Below.refl _ _)⟩
  case round =>
    obtain ⟨k, hk, rfl, HS, HB⟩ := hrel
    cases k with
    | zero =>
      have h := HS.out
      obtain ⟨rfl, rfl, rfl⟩ : (n : Int) - 1 = s ∧ (0 : Int) = x ∧ (0 : Int) = e := by simpa [disKF, Prod.ext_iff] using h
      clear h hs
      go_wp2
      go_ret3
      exact ⟨rfl, HB.out⟩
    | succ j =>
      have h := HS.out
      rw [disKF] at h
      obtain ⟨E, hE⟩ : ∃ E, (j + 2) / 2 = E := ⟨_, rfl⟩
      obtain ⟨M, hM⟩ : ∃ M, j % 2 = M := ⟨_, rfl⟩
      rw [hE, hM] at h
      have hb := dis_bd M (by omega) E (by omega)
      obtain ⟨X, hX⟩ : ∃ X : Int, (2 + (M : Int)) * 2 ^ E = X := ⟨_, rfl⟩
      rw [hX] at h hb
      obtain ⟨S, hS⟩ : ∃ S, 3 + (j + 1) = S := ⟨_, rfl⟩
      rw [hS]
      have e1 : (S : Int) / 2 - 1 = E := by omega
      have e2 : (S : Int) % 2 = M := by omega
      have e3 : IntKind.i64.wrap ((2 + (M : Int)) * 2 ^ E) = X := by rw [hX]; exact IntWalk.i64_in _ (by omega)
      have hgt : (3 : Int) < S := by omega
      have hSb : (S : Int) ≤ 29 := by omega
      have hEb : (E : Int) ≤ 13 := by omega
      have hMb : (M : Int) ≤ 1 := by omega
      have HSJ := Lib.hid hS
      clear hE hM hX hS hs
      by_cases hx : X + 1 ≤ (n : Int)
      · rw [if_pos hx] at h
        obtain ⟨h1, h2, h3⟩ : 4 + (j : Int) = s ∧ (n : Int) - (X + 1) = x ∧ (E : Int) = e := by simpa [Prod.ext_iff] using h
        have h4 : (S : Int) = s := by have := HSJ.out; omega
        subst h4 h2 h3
        clear h h1
        go_wp2
        go_ret3
        exact ⟨by rw [← e1]; rfl, HB.out⟩
      · rw [if_neg hx] at h
        have HN := Lib.hid h
        clear h
        go_wp2
        go_roundw
        case rel => exact ⟨j, by omega, by have := HSJ.out; go_num, HN, HB⟩
        case measure => have := HSJ.out; simp [intOf]; omega
/-- From n on, at most f more. -/
def likeF (zs : List Int) (a back : Nat) : Nat → Nat → Nat
  | 0, n => n
  | f + 1, n => if a + n < zs.length ∧ zs.getD (a + n) 0 = zs.getD (a + n - back) 0 then likeF zs a back f (n + 1) else n
def likeS (zs : List Int) (a back : Nat) : Nat := likeF zs a back 258 0

set_option maxHeartbeats 2000000 in
theorem alikeC (A : Option Addr) (n c B a back : Nat) (zs : List Int) (w : World) (hb : Byt w B A n c zs) (hB : B ≤ w.heap.size) (hn : n ≤ 1000000) (ha : a ≤ n) (hk : back ≤ a) (x : Nat) (hs : likeS zs a back = x) :
    Calls Try.prog 37 #[.slice A n c, .int .i64 a, .int .i64 back] w fun r w' => r = .returned (.int .i64 x) ∧ Below w.heap.size w w' := by
  unfold likeS at hs
  have HB := Lib.hid hb
  have HBS := Lib.hid hB
  have HLEN := Lib.hid hb.len
  clear hb hB
  go_enter Try.func37, Try.ntmps37
  go_wp2_with fail
  go_loopw [7] (fun iv wr => ∃ k : Nat, k ≤ 258 ∧ iv = .int .i64 k ∧ Hid (likeF zs a back (258 - k) k = x) ∧ Hid (Below w.heap.size w wr)) (fun iv _ => 258 - (intOf iv).toNat)
  case atStart => exact ⟨0, Nat.zero_le _, rfl, Lib.hid hs, Lib.hid (Below.refl _ _)⟩
  case round =>
    obtain ⟨k, hk2, rfl, HS, HBL⟩ := hrel
    by_cases h1 : k < 258
    · have h := HS.out
      obtain ⟨f, hf⟩ : ∃ f, 258 - k = f + 1 := ⟨257 - k, by omega⟩
      rw [hf, likeF, HLEN.out] at h
      have hf2 : 258 - (k + 1) = f := by omega
      by_cases h2 : a + k < n
      · have hby := HB.out.below (HBL.out.mono HBS.out) (Nat.le_refl _)
        obtain ⟨b, o, rfl, _, hc⟩ := hby.cell (by omega)
        obtain ⟨P, hP⟩ : ∃ P, a + k = P := ⟨_, rfl⟩
        rw [hP] at h h2
        obtain ⟨R, hR⟩ : ∃ R, P - back = R := ⟨_, rfl⟩
        rw [hR] at h
        have c1 := hc P h2
        have c2 := hc R (by omega)
        obtain ⟨y, hy⟩ : ∃ y, zs.getD P 0 = y := ⟨_, rfl⟩
        obtain ⟨z, hz⟩ : ∃ z, zs.getD R 0 = z := ⟨_, rfl⟩
        rw [hy] at h c1
        rw [hz] at h c2
        have e1 : (a : Int) + k = P := by omega
        have e2 : (P : Int) - back = R := by omega
        have g1 : (P : Int) < n := by omega
        have g2 : (R : Int) < n := by omega
        have g3 : (k : Int) < 258 := by omega
        clear hby hc hP hR hy hz hf hs
        by_cases h3 : y = z
        · rw [if_pos ⟨h2, h3⟩, ← hf2] at h
          subst h3
          have HN := Lib.hid h
          clear h hf2
          go_wp2_with fail
          go_quiet (fail)
          go_wp2_with fail
          go_roundw
          case rel => exact ⟨k + 1, by omega, by go_num, HN, Lib.hid (by first | exact HBL.out | exact below_drewN HBL.out _)⟩
          case measure => simp [intOf]; omega
        · rw [if_neg (fun hh => h3 hh.2)] at h
          subst h
          have hyz : (y == z) = false := beq_eq_false_iff_ne.2 h3
          clear hf2
          go_wp2_with fail
          go_quiet (fail)
          go_wp2_with fail
          go_ret
          exact ⟨rfl, by first | exact HBL.out | exact below_drewN HBL.out _⟩
      · rw [if_neg (fun hh => h2 hh.1)] at h
        subst h
        obtain ⟨P, hP⟩ : ∃ P, a + k = P := ⟨_, rfl⟩
        have e1 : (a : Int) + k = P := by omega
        have e0 : IntKind.i64.wrap (P : Int) = P := IntWalk.i64_in _ (by omega)
        have g1 : decide ((P : Int) < n) = false := decide_eq_false (by omega)
        have g4 : decide (P < n) = false := decide_eq_false (by omega)
        have g5 : ¬ P < n := by omega
        clear hP h2
        have g3 : (k : Int) < 258 := by omega
        clear hf hf2 hs
        go_wp2_with fail
        go_quiet (fail)
        go_wp2_with fail
        go_ret
        exact ⟨rfl, by first | exact HBL.out | exact below_drewN HBL.out _⟩
    · have h := HS.out
      have hk8 : k = 258 := by omega
      subst hk8
      have h' : (258 : Nat) = x := by simpa [likeF] using h
      subst h'
      clear h hs
      go_wp2_with fail
      go_quiet (fail)
      go_wp2_with fail
      go_ret
      exact ⟨rfl, by first | exact HBL.out | exact below_drewN HBL.out _⟩
/-- The longest row that stood behind, too, among the k nearest: how long, how far. -/
def bestN (zs : List Int) (a : Nat) : Nat → Nat × Nat
  | 0 => (0, 0)
  | k + 1 => if (bestN zs a k).1 < likeS zs a (k + 1) then (likeS zs a (k + 1), k + 1) else bestN zs a k
def bestS (zs : List Int) (a : Nat) : Nat × Nat := bestN zs a (min 64 a)
/-- A symbol's bits by the fixed code. -/
def symB (s : Nat) : List Int := highb ((codesS fixLs).getD s 0) (fixLs.getD s 0).toNat
def lenBits (n : Nat) : List Int := symB (lenK n).1.toNat ++ lowb (lenK n).2.1 (lenK n).2.2.toNat
def disBits (d : Nat) : List Int := highb (disK d).1 5 ++ lowb (disK d).2.1 (disK d).2.2.toNat
/-- What is written from a place on. -/
def fixR (zs : List Int) : Nat → Nat → List Int
  | 0, _ => []
  | f + 1, a =>
    if a < zs.length then
      if (bestS zs a).1 < 3 then symB (zs.getD a 0).toNat ++ fixR zs f (a + 1)
      else lenBits (bestS zs a).1 ++ (disBits (bestS zs a).2 ++ fixR zs f (a + (bestS zs a).1))
    else []
def fixBits (zs : List Int) : List Int := [1, 1, 0] ++ (fixR zs zs.length 0 ++ symB 256)
def fixedS (zs : List Int) : List Int := pack (fixBits zs)

theorem likeF_bd (zs : List Int) (a b : Nat) : ∀ f n, n ≤ likeF zs a b f n ∧ likeF zs a b f n ≤ n + f
  | 0, n => by simp [likeF]
  | f + 1, n => by
    rw [likeF]
    split
    · have := likeF_bd zs a b f (n + 1); omega
    · omega
theorem likeF_len (zs : List Int) (a b : Nat) : ∀ f n, a + n ≤ zs.length → a + likeF zs a b f n ≤ zs.length
  | 0, n, h => h
  | f + 1, n, h => by
    rw [likeF]
    split
    · rename_i h2; exact likeF_len zs a b f (n + 1) (by omega)
    · exact h
theorem likeF_eq (zs : List Int) (a b : Nat) : ∀ f n i, n ≤ i → i < likeF zs a b f n → zs.getD (a + i) 0 = zs.getD (a + i - b) 0
  | 0, n, i, h1, h2 => by simp [likeF] at h2; omega
  | f + 1, n, i, h1, h2 => by
    rw [likeF] at h2
    split at h2
    · rename_i h
      rcases Nat.lt_or_ge n i with h3 | h3
      · exact likeF_eq zs a b f (n + 1) i h3 h2
      · obtain rfl : i = n := by omega
        exact h.2
    · omega
theorem likeS_bd (zs : List Int) (a b : Nat) : likeS zs a b ≤ 258 := by have := likeF_bd zs a b 258 0; unfold likeS; omega
theorem likeS_len (zs : List Int) (a b : Nat) (h : a ≤ zs.length) : a + likeS zs a b ≤ zs.length := likeF_len zs a b 258 0 (by omega)
theorem likeS_eq (zs : List Int) (a b i : Nat) (h : i < likeS zs a b) : zs.getD (a + i) 0 = zs.getD (a + i - b) 0 := likeF_eq zs a b 258 0 i (Nat.zero_le _) h
theorem bestN_bd (zs : List Int) (a : Nat) (ha : a ≤ zs.length) : ∀ k, (bestN zs a k).1 ≤ 258 ∧ (bestN zs a k).2 ≤ k ∧ a + (bestN zs a k).1 ≤ zs.length ∧ (1 ≤ (bestN zs a k).1 → 1 ≤ (bestN zs a k).2 ∧ (bestN zs a k).1 = likeS zs a (bestN zs a k).2)
  | 0 => by simp [bestN]; omega
  | k + 1 => by
    have ih := bestN_bd zs a ha k
    rw [bestN]
    split
    · exact ⟨likeS_bd _ _ _, Nat.le_refl _, likeS_len _ _ _ ha, fun _ => ⟨Nat.le_add_left _ _, rfl⟩⟩
    · exact ⟨ih.1, by omega, ih.2.2.1, ih.2.2.2⟩
theorem symB_01 (s : Nat) : B01 (symB s) := highb_01 _ _
theorem lenBits_01 (n : Nat) : B01 (lenBits n) := (symB_01 _).app (lowb_01 _ _)
theorem disBits_01 (n : Nat) : B01 (disBits n) := (highb_01 _ _).app (lowb_01 _ _)
theorem fixR_01 (zs : List Int) : ∀ f a, B01 (fixR zs f a)
  | 0, a => B01.nil
  | f + 1, a => by
    rw [fixR]
    split
    · split
      · exact (symB_01 _).app (fixR_01 zs f _)
      · exact (lenBits_01 _).app ((disBits_01 _).app (fixR_01 zs f _))
    · exact B01.nil
theorem fixBits_01 (zs : List Int) : B01 (fixBits zs) := (show B01 [1, 1, 0] from fun x hx => by simp at hx; omega).app ((fixR_01 zs _ _).app (symB_01 _))
/-- The fixed codes: how long, within what. -/
theorem fixL_bd : ∀ s : Fin 288, 7 ≤ fixLs.getD s.val 0 ∧ fixLs.getD s.val 0 ≤ 9 ∧ 0 ≤ (codesS fixLs).getD s.val 0 ∧ (codesS fixLs).getD s.val 0 < 512 := by decide +kernel
theorem symB_len (s : Nat) (h : s < 288) : 7 ≤ (symB s).length ∧ (symB s).length ≤ 9 := by
  have := fixL_bd ⟨s, h⟩
  dsimp only at this
  rw [symB, highb_len]
  omega
theorem lenK_bd : ∀ n : Fin 259, 3 ≤ n.val → 257 ≤ (lenK n.val).1 ∧ (lenK n.val).1 ≤ 285 ∧ 0 ≤ (lenK n.val).2.1 ∧ (lenK n.val).2.1 < 32 ∧ 0 ≤ (lenK n.val).2.2 ∧ (lenK n.val).2.2 ≤ 5 := by decide +kernel
theorem disK_bd : ∀ d : Fin 65, 1 ≤ d.val → 0 ≤ (disK d.val).1 ∧ (disK d.val).1 ≤ 11 ∧ 0 ≤ (disK d.val).2.1 ∧ (disK d.val).2.1 < 16 ∧ 0 ≤ (disK d.val).2.2 ∧ (disK d.val).2.2 ≤ 4 := by decide +kernel
theorem lenBits_len (n : Nat) (h1 : 3 ≤ n) (h2 : n ≤ 258) : (lenBits n).length ≤ 14 := by
  have h := lenK_bd ⟨n, by omega⟩ h1
  dsimp only at h
  have h3 := symB_len (lenK n).1.toNat (by omega)
  rw [lenBits, List.length_append, lowb_len]
  omega
theorem disBits_len (n : Nat) (h1 : 1 ≤ n) (h2 : n ≤ 64) : (disBits n).length ≤ 9 := by
  have h := disK_bd ⟨n, by omega⟩ h1
  dsimp only at h
  rw [disBits, List.length_append, lowb_len, highb_len]
  omega
theorem fixR_len (zs : List Int) (hz : ∀ z ∈ zs, 0 ≤ z ∧ z < 256) : ∀ f a, (fixR zs f a).length ≤ 9 * (zs.length - a)
  | 0, a => by simp [fixR]
  | f + 1, a => by
    rw [fixR]
    by_cases h : a < zs.length
    · rw [if_pos h]
      have hb := bestN_bd zs a (by omega) (min 64 a)
      split
      · have e : zs.getD a 0 = zs[a] := by simp [List.getD, h]
        have h1 := hz _ (List.getElem_mem h)
        have h2 := symB_len (zs.getD a 0).toNat (by rw [e]; omega)
        have h3 := fixR_len zs hz f (a + 1)
        rw [List.length_append]
        omega
      · rename_i hn
        unfold bestS at hn ⊢
        have h2 := hb.2.2.2 (by omega)
        have h3 := lenBits_len (bestN zs a (min 64 a)).1 (by omega) hb.1
        have h4 := disBits_len (bestN zs a (min 64 a)).2 h2.1 (by omega)
        have h5 := fixR_len zs hz f (a + (bestN zs a (min 64 a)).1)
        rw [List.length_append, List.length_append]
        omega
    · rw [if_neg h]; simp
end Go.Proofs.Ytginbilakdenmaa
