/- Chapter 5: how short a row is written that comes again and again. -/
import Derived.Test.YtginbilakdenmaaLaw5Do
import Derived.Test.YtginbilakdenmaaDec5Z
namespace Go.Proofs.Ytginbilakdenmaa
set_option linter.unusedVariables false

/-- From the P-th element on each is as the one P before it. -/
def Per (zs : List Int) (P : Nat) : Prop := ∀ i, P ≤ i → i < zs.length → zs.getD i 0 = zs.getD (i - P) 0
theorem likeF_per (zs : List Int) (a P : Nat) (h : Per zs P) (hP : P ≤ a) : ∀ f n, a + n ≤ zs.length → min (n + f) (zs.length - a) ≤ likeF zs a P f n
  | 0, n, _ => by simp [likeF]; omega
  | f + 1, n, hn => by
    rw [likeF]
    split
    · have := likeF_per zs a P h hP f (n + 1) (by omega); omega
    · rename_i hc
      have : ¬ a + n < zs.length := fun hl => hc ⟨hl, h (a + n) (by omega) hl⟩
      omega
theorem bestN_ge (zs : List Int) (a d : Nat) (hd : 1 ≤ d) : ∀ k, d ≤ k → likeS zs a d ≤ (bestN zs a k).1
  | 0, h => by omega
  | k + 1, h => by
    rw [bestN]
    rcases Nat.eq_or_lt_of_le h with e | hlt
    · subst e
      split
      · exact Nat.le_refl _
      · omega
    · have ih := bestN_ge zs a d hd k (by omega)
      split
      · dsimp only; omega
      · exact ih
theorem best_per (zs : List Int) (a P : Nat) (h : Per zs P) (h1 : 1 ≤ P) (h2 : P ≤ 64) (hP : P ≤ a) (ha : a ≤ zs.length) : (bestS zs a).1 = min 258 (zs.length - a) := by
  have hb := bestN_bd zs a ha (min 64 a)
  have hg := bestN_ge zs a P h1 (min 64 a) (by omega)
  have hl := likeF_per zs a P h hP 258 0 (by omega)
  unfold likeS at hg
  unfold bestS
  omega
theorem again_len (zs : List Int) (a : Nat) (ha : a ≤ zs.length) (h3 : ¬ (bestS zs a).1 < 3) : (lenBits (bestS zs a).1).length ≤ 14 ∧ (disBits (bestS zs a).2).length ≤ 9 ∧ a + (bestS zs a).1 ≤ zs.length := by
  have hb := bestN_bd zs a ha (min 64 a)
  unfold bestS at h3 ⊢
  have h2 := hb.2.2.2 (by omega)
  exact ⟨lenBits_len _ (by omega) hb.1, disBits_len _ h2.1 (by omega), hb.2.2.1⟩
theorem late_len (zs : List Int) (P : Nat) (hz : ∀ z ∈ zs, 0 ≤ z ∧ z < 256) (h : Per zs P) (h1 : 1 ≤ P) (h2 : P ≤ 64) : ∀ f a, P ≤ a → a ≤ zs.length → (fixR zs f a).length ≤ 23 * ((zs.length - a + 257) / 258)
  | 0, a, _, _ => by simp [fixR]
  | f + 1, a, hP, ha => by
    have hbest := best_per zs a P h h1 h2 hP ha
    by_cases h3 : (bestS zs a).1 < 3
    · have := fixR_len zs hz (f + 1) a
      omega
    · have hl := again_len zs a ha h3
      have ih := late_len zs P hz h h1 h2 f (a + (bestS zs a).1) (by omega) hl.2.2
      rw [fixR, if_pos (by omega), if_neg h3, List.length_append, List.length_append]
      omega
theorem early_len (zs : List Int) (P : Nat) (hz : ∀ z ∈ zs, 0 ≤ z ∧ z < 256) (h : Per zs P) (h1 : 1 ≤ P) (h2 : P ≤ 64) : ∀ f a, a < P → a ≤ zs.length → (fixR zs f a).length ≤ 9 * (P - a) + 23 * ((zs.length - P) / 258 + 2)
  | 0, a, _, _ => by simp [fixR]
  | f + 1, a, hP, ha => by
    by_cases hl : a < zs.length
    · rw [fixR, if_pos hl]
      by_cases h3 : (bestS zs a).1 < 3
      · rw [if_pos h3, List.length_append]
        have e : zs.getD a 0 = zs[a] := by simp [List.getD, hl]
        have hr := hz _ (List.getElem_mem hl)
        have hs := symB_len (zs.getD a 0).toNat (by rw [e]; omega)
        rcases Nat.lt_or_ge (a + 1) P with hlt | hge
        · have ih := early_len zs P hz h h1 h2 f (a + 1) hlt (by omega)
          omega
        · have ih := late_len zs P hz h h1 h2 f (a + 1) hge (by omega)
          omega
      · have hl := again_len zs a ha h3
        rw [if_neg h3, List.length_append, List.length_append]
        rcases Nat.lt_or_ge (a + (bestS zs a).1) P with hlt | hge
        · have ih := early_len zs P hz h h1 h2 f (a + (bestS zs a).1) hlt hl.2.2
          omega
        · have ih := late_len zs P hz h h1 h2 f (a + (bestS zs a).1) hge hl.2.2
          omega
    · rw [fixR, if_neg hl]
      exact Nat.zero_le _
theorem runs_size (zs : List Int) (P : Nat) (hz : ∀ z ∈ zs, 0 ≤ z ∧ z < 256) (h : Per zs P) (h1 : 1 ≤ P) (h2 : P ≤ 64) : (fixedS zs).length ≤ 2 * P + 5 + 4 * (zs.length / 258 + 1) := by
  have hl := early_len zs P hz h h1 h2 zs.length 0 (by omega) (Nat.zero_le _)
  have hs := symB_len 256 (by omega)
  have hd : (zs.length - P) / 258 ≤ zs.length / 258 := Nat.div_le_div_right (Nat.sub_le _ _)
  rw [fixedS_len, fixBits]
  simp only [List.length_append, List.length_cons, List.length_nil]
  omega
theorem per_of (zs X : List Int) (n : Nat) (h0 : 0 < n) (h : ∀ j, j < X.length → X.getD j 0 = zs.getD (j % n) 0) : Per X n := fun i hi hl => by
  rw [h i hl, h (i - n) (by omega), Nat.mod_eq_sub_mod hi]
end Go.Proofs.Ytginbilakdenmaa
