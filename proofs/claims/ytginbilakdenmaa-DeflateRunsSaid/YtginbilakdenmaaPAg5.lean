/- Chapter 5, the project's own search: alike, again. -/
import Derived.Test.YtginbilakdenmaaPStr5
import Derived.Test.YtginbilakdenmaaFix5
namespace Go.Proofs.Ytginbilakdenmaa
open Go.RowKit
set_option linter.unusedVariables false
set_option maxRecDepth 100000

/-- How many of ys stand alike in xs, from k on. -/
def preF (xs ys : List Int) : Nat → Nat → Nat
  | 0, k => k
  | f + 1, k => if xs.getD k 0 = ys.getD k 0 then preF xs ys f (k + 1) else k
theorem preF_bd (xs ys : List Int) : ∀ f k, k ≤ preF xs ys f k ∧ preF xs ys f k ≤ k + f
  | 0, k => by simp [preF]
  | f + 1, k => by
    rw [preF]
    split
    · have := preF_bd xs ys f (k + 1); omega
    · omega
theorem like_pre (zs : List Int) (a d M : Nat) (ha : a ≤ zs.length) (hd : d ≤ a) (hM : M = min 258 (zs.length - a)) : ∀ f k, f = 258 - k → k ≤ M → likeF zs a d f k = preF (zs.drop (a - d)) ((zs.drop a).take M) (M - k) k
  | 0, k, hf, hk => by
    have : M - k = 0 := by omega
    rw [this]; rfl
  | f + 1, k, hf, hk => by
    rw [likeF]
    by_cases hlt : k < M
    · obtain ⟨j, hj⟩ : ∃ j, M - k = j + 1 := ⟨M - k - 1, by omega⟩
      rw [hj, preF]
      have e1 : (zs.drop (a - d)).getD k 0 = zs.getD (a + k - d) 0 := by
        simp only [List.getD, List.getElem?_drop]
        rw [show a - d + k = a + k - d by omega]
      have e2 : ((zs.drop a).take M).getD k 0 = zs.getD (a + k) 0 := by
        simp only [List.getD, List.getElem?_take, hlt, if_true, List.getElem?_drop]
      rw [e1, e2]
      have ih := like_pre zs a d M ha hd hM f (k + 1) (by omega) hlt
      rw [show M - (k + 1) = j by omega] at ih
      by_cases he : zs.getD (a + k) 0 = zs.getD (a + k - d) 0
      · rw [if_pos ⟨by omega, he⟩, if_pos he.symm, ih]
      · rw [if_neg (fun h => he h.2), if_neg (fun h => he h.symm)]
    · rw [if_neg (by omega), show M - k = 0 by omega, preF]
theorem bestN_stop (zs : List Int) (a M d : Nat) (ha : a ≤ zs.length) (hM : M = min 258 (zs.length - a)) (h : M ≤ (bestN zs a d).1) : ∀ k, d ≤ k → bestN zs a k = bestN zs a d
  | 0, hk => by rw [show d = 0 by omega]
  | k + 1, hk => by
    rcases Nat.lt_or_ge k d with h1 | h1
    · rw [show d = k + 1 by omega]
    · have ih := bestN_stop zs a M d ha hM h k h1
      have l1 := likeS_bd zs a (k + 1)
      have l2 := likeS_len zs a (k + 1) ha
      rw [bestN, ih, if_neg (by omega)]
set_option maxHeartbeats 1000000 in
theorem palikeC (A1 A2 : Option Addr) (B n1 n2 c1 c2 : Nat) (xs ys : List Int) (w : World) (h1 : Byt w B A1 n1 c1 xs) (h2 : Byt w B A2 n2 c2 ys) (hle : n2 ≤ n1) (hn : n1 ≤ 1000000) (x : Nat) (hs : preF xs ys n2 0 = x) :
    Calls Try.prog 49 #[.slice A1 n1 c1, .slice A2 n2 c2] w fun r w' => r = .returned (.int .i64 x) ∧ w' = w := by
  have H1 := Lib.hid h1
  have H2 := Lib.hid h2
  clear h1 h2
  go_enter Try.func49, Try.ntmps49
  go_upto_region 2 with fail
  go_loopw [5, 6, 9] (fun _ _ kv wr => ∃ k : Nat, k ≤ n2 ∧ kv = .int .i64 k ∧ Hid (preF xs ys (n2 - k) k = x) ∧ wr = w) (fun _ _ kv _ => n2 - (intOf kv).toNat)
  case atStart => exact ⟨0, Nat.zero_le _, rfl, Lib.hid hs, rfl⟩
  case round =>
    obtain ⟨k, hk, rfl, HS, rfl⟩ := hrel
    by_cases hlt : k < n2
    · have h := HS.out
      obtain ⟨f, hf⟩ : ∃ f, n2 - k = f + 1 := ⟨n2 - k - 1, by omega⟩
      rw [hf, preF] at h
      have hf2 : n2 - (k + 1) = f := by omega
      obtain ⟨b1, o1, rfl, hb1, hc1⟩ := H1.out.cell (by omega)
      obtain ⟨b2, o2, rfl, hb2, hc2⟩ := H2.out.cell (by omega)
      have k1 := hc1 k (by omega)
      have k2 := hc2 k hlt
      obtain ⟨u, hu⟩ : ∃ u, xs.getD k 0 = u := ⟨_, rfl⟩
      obtain ⟨v, hv⟩ : ∃ v, ys.getD k 0 = v := ⟨_, rfl⟩
      rw [hu] at k1
      rw [hv] at k2
      rw [hu, hv] at h
      clear hc1 hc2 hu hv hf HS
      by_cases huv : u = v
      · subst huv
        rw [if_pos rfl] at h
        have HS : Hid (preF xs ys (n2 - (k + 1)) (k + 1) = x) := Lib.hid (by rw [hf2]; exact h)
        clear h hf2
        go_wp2_with fail
        go_roundw
        case rel => exact ⟨k + 1, hlt, by go_num, HS, by trivial⟩
        case measure => simp [intOf]; omega
      · rw [if_neg huv] at h
        subst h
        clear hf2
        go_wp2_with fail
        go_ret
        exact ⟨rfl, rfl⟩
    · obtain rfl : k = n2 := by omega
      have h := HS.out
      rw [Nat.sub_self, preF] at h
      subst h
      go_wp2_with fail
      go_ret
      exact ⟨rfl, rfl⟩
def againS (zs : List Int) (a : Nat) : Nat × Nat := if (bestS zs a).1 < 3 then (0, 0) else bestS zs a
set_option maxHeartbeats 2000000 in
theorem pagainC (A : Option Addr) (B n c a : Nat) (zs : List Int) (w : World) (hb : Byt w B A n c zs) (hn : n ≤ 1000000) (ha : a < n) (x y : Nat) (hs : againS zs a = (x, y)) :
    Calls Try.prog 28 #[.slice A n c, .int .i64 (a : Int)] w fun r w' => r = .returned (.tuple #[.int .i64 x, .int .i64 y]) ∧ ∃ k, w' = w.drewN k := by
  have HB := Lib.hid hb
  have HLEN := Lib.hid hb.len
  have HCAP := Lib.hid hb.cap
  obtain ⟨b, o, rfl, hbl, hcell⟩ := hb.cell (by omega)
  have HCELL := Lib.hid hcell
  obtain ⟨M, hM⟩ : ∃ M, min 258 (n - a) = M := ⟨_, rfl⟩
  have eM : min (258 : Int) ((n : Int) - a) = M := by omega
  have HM : Hid (M = min 258 (zs.length - a)) := Lib.hid (by rw [hb.len]; exact hM.symm)
  obtain ⟨R, hR⟩ : ∃ R, min 64 a = R := ⟨_, rfl⟩
  have eR : min (64 : Int) (a : Int) = R := by omega
  have HR := Lib.hid hR
  have HS := Lib.hid hs
  have hMb : a + M ≤ n := by omega
  have hM1 : 1 ≤ M := by omega
  have hRa : R ≤ a := by omega
  clear hb hbl hcell hM hR hs
  go_enter Try.func28, Try.ntmps28
  go_upto_region 3 with fail
  go_loopw [4, 5, 7, 8] (fun nv fv dv mv wr => ∃ (d p q j : Nat), 1 ≤ d ∧ d ≤ R + 1 ∧ nv = .int .i64 p ∧ fv = .int .i64 q ∧ dv = .int .i64 d ∧ p ≤ M ∧ Hid (bestN zs a (d - 1) = (p, q)) ∧ wr = w.drewN j) (fun nv fv dv mv wr => R + 1 - (intOf dv).toNat)
  case atStart => exact ⟨1, 0, 0, 0, by omega, by omega, rfl, rfl, rfl, by omega, Lib.hid rfl, rfl⟩
  case round =>
    obtain ⟨d, p, q, j, hd1, hd2, rfl, rfl, rfl, hp, HN, rfl⟩ := hrel
    -- behind the loop
    have hend : (R + 1 = d ∨ p = M) → bestS zs a = (p, q) := fun h => by
      unfold bestS
      rw [HR.out]
      rcases h with h | h
      · have := HN.out
        rwa [← h, Nat.add_sub_cancel] at this
      · rw [bestN_stop zs a M (d - 1) (by rw [HLEN.out]; omega) HM.out (by rw [HN.out]; omega) R (by omega)]
        exact HN.out
    by_cases hgo : d ≤ R ∧ p < M
    · obtain ⟨hgo1, hgo2⟩ := hgo
      have HEND := 0
      clear hend
      obtain ⟨D, hD⟩ : ∃ D, a - d = D := ⟨_, rfl⟩
      have e1 : (a : Int) - d = D := by omega
      have e1w : IntKind.i64.wrap (D : Int) = D := IntWalk.i64_in _ (by omega)
      obtain ⟨I1, hI1⟩ : ∃ I1, D + p = I1 := ⟨_, rfl⟩
      have e2 : (D : Int) + p = I1 := by omega
      have e2w : IntKind.i64.wrap (I1 : Int) = I1 := IntWalk.i64_in _ (by omega)
      obtain ⟨I2, hI2⟩ : ∃ I2, a + p = I2 := ⟨_, rfl⟩
      have e3 : (a : Int) + p = I2 := by omega
      have e3w : IntKind.i64.wrap (I2 : Int) = I2 := IntWalk.i64_in _ (by omega)
      have k1 := HCELL.out I1 (by omega)
      have k2 := HCELL.out I2 (by omega)
      have i1 : (I1 : Int) < n := by omega
      have i2 : (I2 : Int) < n := by omega
      obtain ⟨u, hu⟩ : ∃ u, zs.getD I1 0 = u := ⟨_, rfl⟩
      obtain ⟨v, hv⟩ : ∃ v, zs.getD I2 0 = v := ⟨_, rfl⟩
      rw [hu] at k1
      rw [hv] at k2
      obtain ⟨m, hm⟩ : ∃ m, likeS zs a d = m := ⟨_, rfl⟩
      have hbest : bestN zs a d = if p < m then (m, d) else (p, q) := by
        obtain ⟨d', rfl⟩ : ∃ j, d = j + 1 := ⟨d - 1, by omega⟩
        have := HN.out
        rw [Nat.add_sub_cancel] at this
        rw [bestN, this, hm]
      have hskip : u ≠ v → m ≤ p := fun hne => by
        rcases Nat.lt_or_ge p m with h | h
        · have := likeS_eq zs a d p (by rw [hm]; exact h)
          rw [hI2, show I2 - d = I1 by omega, hv, hu] at this
          exact absurd this.symm hne
        · exact h
      have hmM : m ≤ M := by
        have l1 := likeS_bd zs a d
        have l2 := likeS_len zs a d (by rw [HLEN.out]; omega)
        have := HM.out
        omega
      have hgi1 : (d : Int) ≤ R := by omega
      have hgi2 : (p : Int) < M := by omega
      by_cases huv : u = v
      · subst huv
        have hpre : preF (zs.drop D) ((zs.drop a).take M) M 0 = m := by
          rw [← hm, likeS, like_pre zs a d M (by rw [HLEN.out]; omega) (by omega) HM.out 258 0 rfl (Nat.zero_le _), hD]; rfl
        obtain ⟨AM, hAM⟩ : ∃ AM, a + M = AM := ⟨_, rfl⟩
        have e4 : (a : Int) + M = AM := by omega
        have e4w : IntKind.i64.wrap (AM : Int) = AM := IntWalk.i64_in _ (by omega)
        have hs1 : ∀ W, (Instr.slice 29 (.slice (some ⟨b, o, none⟩) n c) (some (.int .i64 (D : Int))) none none).run Try.prog W = .ok (.slice (cutA (some ⟨b, o, none⟩) c D) (n - D) (c - D)) W := fun W => run_cutR (P := Try.prog) W 29 5 Try.underlying29 (fun w => by kernel_rfl) _ n c D (by omega) HCAP.out
        have hs2 : ∀ W, (Instr.slice 29 (.slice (some ⟨b, o, none⟩) n c) (some (.int .i64 (a : Int))) (some (.int .i64 (AM : Int))) none).run Try.prog W = .ok (.slice (cutA (some ⟨b, o, none⟩) c a) M (c - a)) W := fun W => by
          have := run_cut (P := Try.prog) W 29 5 Try.underlying29 (fun w => by kernel_rfl) (some ⟨b, o, none⟩) n c a AM (by omega) (by have := HCAP.out; omega)
          rw [show AM - a = M by omega] at this
          exact this
        have hx1 := HB.out.cut (l := D) (m := n - D) (by omega)
        rw [List.take_of_length_le (by rw [List.length_drop, HLEN.out]; exact Nat.le_refl _)] at hx1
        have hx2 := HB.out.cut (l := a) (m := M) hMb
        have HAL := Lib.hid (fun j => palikeC _ _ B (n - D) M _ _ _ _ (w.drewN j) (hx1.drewN j) (hx2.drewN j) (by omega) (by omega) m hpre)
        obtain ⟨A1, hA1⟩ : ∃ A1, cutA (some ⟨b, o, none⟩) c D = A1 := ⟨_, rfl⟩
        obtain ⟨A2, hA2⟩ : ∃ A2, cutA (some ⟨b, o, none⟩) c a = A2 := ⟨_, rfl⟩
        rw [hA1] at hs1 HAL
        rw [hA2] at hs2 HAL
        have HBEST := Lib.hid hbest
        have HDD := Lib.hid (show d - 1 + 1 = d ∧ d ≤ R by omega)
        have hmi : (m : Int) ≤ 258 := by omega
        clear hu hv hm hbest hskip hpre hx1 hx2 hA1 hA2 hAM hI1 hI2 hD HN
        go_upto_region 5 with fail
        go_quiet (fail)
        go_upto_region 6 with fail
        go_region_with (go_at_call 49; refine (HAL.out _).mono ?_; (rintro r w1 ⟨rfl, rfl⟩))
        all_goals
          by_cases hpm : p < m
          · have HB2 := Lib.hid (show bestN zs a d = (m, d) by rw [HBEST.out, if_pos hpm])
            have hpi : (p : Int) < m := by omega
            go_wp2_with fail
            go_roundw
            case rel => exact ⟨d + 1, m, d, _, by omega, by omega, rfl, rfl, by go_num, hmM, by rw [Nat.add_sub_cancel]; exact HB2, by rfl⟩
            case measure => simp [intOf]; omega
          · have HB2 := Lib.hid (show bestN zs a d = (p, q) by rw [HBEST.out, if_neg hpm])
            have hpi : ¬ (p : Int) < m := by omega
            go_wp2_with fail
            go_roundw
            case rel => exact ⟨d + 1, p, q, _, by omega, by omega, rfl, rfl, by go_num, by omega, by rw [Nat.add_sub_cancel]; exact HB2, by rfl⟩
            case measure => simp [intOf]; omega
      · have HBEST := Lib.hid (show bestN zs a d = (p, q) by rw [hbest, if_neg (by have := hskip huv; omega)])
        clear hu hv hm hbest hskip hmM hI1 hI2 hD HN
        go_upto_region 5 with fail
        go_quiet (fail)
        go_wp2_with fail
        go_roundw
        case rel => exact ⟨d + 1, p, q, _, by omega, by omega, rfl, rfl, by go_num, by omega, by rw [Nat.add_sub_cancel]; exact HBEST, by rfl⟩
        case measure => simp [intOf]; omega
    · have hb := hend (by omega)
      have hsv := HS.out
      unfold againS at hsv
      rw [hb] at hsv
      dsimp only at hsv
      by_cases hp3 : p < 3
      · rw [if_pos hp3] at hsv
        obtain ⟨rfl, rfl⟩ := Prod.mk.inj hsv
        have g3 : (p : Int) < 3 := by omega
        clear hend hb hsv HN
        by_cases hdR : d ≤ R
        · have g1 : (d : Int) ≤ R := by omega
          have g2 : ¬ (p : Int) < M := by omega
          go_wp2_with fail
          go_ret2
          exact ⟨rfl, _, rfl⟩
        · have g1 : ¬ (d : Int) ≤ R := by omega
          go_wp2_with fail
          go_ret2
          exact ⟨rfl, _, rfl⟩
      · rw [if_neg hp3] at hsv
        obtain ⟨rfl, rfl⟩ := Prod.mk.inj hsv
        have g3 : ¬ (p : Int) < 3 := by omega
        clear hend hb hsv HN
        by_cases hdR : d ≤ R
        · have g1 : (d : Int) ≤ R := by omega
          have g2 : ¬ (p : Int) < M := by omega
          go_wp2_with fail
          go_ret2
          exact ⟨rfl, _, rfl⟩
        · have g1 : ¬ (d : Int) ≤ R := by omega
          go_wp2_with fail
          go_ret2
          exact ⟨rfl, _, rfl⟩
end Go.Proofs.Ytginbilakdenmaa
