/- Chapter 5, the project's own writer: symbol, length, distance. -/
import Derived.Test.YtginbilakdenmaaPCd5
import Derived.Test.YtginbilakdenmaaDec5Z
namespace Go.Proofs.Ytginbilakdenmaa
open Go.RowKit
set_option linter.unusedVariables false
set_option maxRecDepth 100000

set_option maxHeartbeats 1000000 in
theorem psymC (g : Nat) (T : TypeId) (bs : List Nat) (L : List Int) (s : Nat) (x : Int) (w : World) (h : PW w g T bs L) (hL : L.length ≤ 690000000) (hs : s < 288) (hx : x = s) :
    Calls Try.prog 29 #[.pointer (some ⟨g, 0, none⟩), .int .i64 x] w (Wrote g T bs (L ++ symB s) w) := by
  rw [symB_eq s hs]
  subst hx
  rcases (show s < 144 ∨ (144 ≤ s ∧ s < 256) ∨ (256 ≤ s ∧ s < 280) ∨ 280 ≤ s by omega) with hc | ⟨hc1, hc2⟩ | ⟨hc1, hc2⟩ | hc
  · have he : highb (fcode s) (fixL s).toNat = highb (48 + (s : Int)) 8 := by rw [show fcode s = 48 + (s : Int) by unfold fcode; rw [if_pos (by omega)], show fixL s = 8 by unfold fixL; rw [if_pos (by omega)]]; rfl
    have HC := Lib.hid (code8C g T bs L (48 + (s : Int)) w h hL (by omega) (by omega))
    rw [he]
    have i1 : (s : Int) < 144 := by omega
    clear h he hs hL
    go_enter Try.func29, Try.ntmps29
    go_wp2_with (go_at_call 50; refine HC.out.mono ?_; (rintro r w3 ⟨rfl, bs3, hp3, ho3, hb3⟩); have HW3 := Lib.hid hp3; have HO3 := Lib.hid ho3; have HB3 := Lib.hid hb3; clear hp3 ho3 hb3)
    (try simp only [Exit.inBlock, Exit.then])
    refine ⟨rfl, _, results_none rfl _ _ _, ?_⟩
    exact ⟨rfl, bs3, HW3.out, HO3.out, HB3.out⟩
  · have he : highb (fcode s) (fixL s).toNat = highb (256 + (s : Int)) 9 := by rw [show fcode s = 256 + (s : Int) by unfold fcode; rw [if_neg (by omega), if_pos (by omega)], show fixL s = 9 by unfold fixL; rw [if_neg (by omega), if_pos (by omega)]]; rfl
    have HC := Lib.hid (code9C g T bs L (256 + (s : Int)) w h hL (by omega) (by omega))
    rw [he]
    have i1 : ¬ (s : Int) < 144 := by omega
    have i2 : (s : Int) < 256 := by omega
    have HE : Hid ((400 : Int) + s - 144 = 256 + s) := Lib.hid (by omega)
    clear h he hs hL hc1 hc2
    go_enter Try.func29, Try.ntmps29
    go_wp2_with (go_at_call 50; rw [HE.out]; refine HC.out.mono ?_; (rintro r w3 ⟨rfl, bs3, hp3, ho3, hb3⟩); have HW3 := Lib.hid hp3; have HO3 := Lib.hid ho3; have HB3 := Lib.hid hb3; clear hp3 ho3 hb3)
    (try simp only [Exit.inBlock, Exit.then])
    refine ⟨rfl, _, results_none rfl _ _ _, ?_⟩
    exact ⟨rfl, bs3, HW3.out, HO3.out, HB3.out⟩
  · have he : highb (fcode s) (fixL s).toNat = highb ((s : Int) - 256) 7 := by rw [show fcode s = (s : Int) - 256 by unfold fcode; rw [if_neg (by omega), if_neg (by omega), if_pos (by omega)], show fixL s = 7 by unfold fixL; rw [if_neg (by omega), if_neg (by omega), if_pos (by omega)]]; rfl
    have HC := Lib.hid (code7C g T bs L ((s : Int) - 256) w h hL (by omega) (by omega))
    rw [he]
    have i1 : ¬ (s : Int) < 144 := by omega
    have i2 : ¬ (s : Int) < 256 := by omega
    have i3 : (s : Int) < 280 := by omega
    clear h he hs hL hc1 hc2
    go_enter Try.func29, Try.ntmps29
    go_wp2_with (go_at_call 50; refine HC.out.mono ?_; (rintro r w3 ⟨rfl, bs3, hp3, ho3, hb3⟩); have HW3 := Lib.hid hp3; have HO3 := Lib.hid ho3; have HB3 := Lib.hid hb3; clear hp3 ho3 hb3)
    (try simp only [Exit.inBlock, Exit.then])
    refine ⟨rfl, _, results_none rfl _ _ _, ?_⟩
    exact ⟨rfl, bs3, HW3.out, HO3.out, HB3.out⟩
  · have he : highb (fcode s) (fixL s).toNat = highb ((s : Int) - 88) 8 := by rw [show fcode s = (s : Int) - 88 by unfold fcode; rw [if_neg (by omega), if_neg (by omega), if_neg (by omega)], show fixL s = 8 by unfold fixL; rw [if_neg (by omega), if_neg (by omega), if_neg (by omega)]]; rfl
    have HC := Lib.hid (code8C g T bs L ((s : Int) - 88) w h hL (by omega) (by omega))
    rw [he]
    have i1 : ¬ (s : Int) < 144 := by omega
    have i2 : ¬ (s : Int) < 256 := by omega
    have i3 : ¬ (s : Int) < 280 := by omega
    have HE : Hid ((192 : Int) + s - 280 = s - 88) := Lib.hid (by omega)
    have i4 : (s : Int) < 288 := by omega
    clear h he hs hL hc
    go_enter Try.func29, Try.ntmps29
    go_wp2_with (go_at_call 50; rw [HE.out]; refine HC.out.mono ?_; (rintro r w3 ⟨rfl, bs3, hp3, ho3, hb3⟩); have HW3 := Lib.hid hp3; have HO3 := Lib.hid ho3; have HB3 := Lib.hid hb3; clear hp3 ho3 hb3)
    (try simp only [Exit.inBlock, Exit.then])
    refine ⟨rfl, _, results_none rfl _ _ _, ?_⟩
    exact ⟨rfl, bs3, HW3.out, HO3.out, HB3.out⟩
theorem len_k : ∀ n : Fin 258, 3 ≤ n.val → ∀ W : Fin 6, max (Lib.len8 ((n.val : Int) - 3) - 3) 0 = (W.val : Int) → (lenK n.val).1 = 257 + 4 * (W.val : Int) + ((n.val : Int) - 3) / 2 ^ W.val ∧ (lenK n.val).2.2 = W.val ∧ lowb ((n.val : Int) - 3) W.val = lowb (lenK n.val).2.1 W.val := by decide +kernel
theorem len_w : ∀ n : Fin 258, 3 ≤ n.val → 0 ≤ Lib.len8 ((n.val : Int) - 3) ∧ Lib.len8 ((n.val : Int) - 3) ≤ 8 := by decide +kernel
theorem dis_k : ∀ d : Fin 65, 1 ≤ d.val → ∀ W : Fin 5, max (Lib.len8 ((d.val : Int) - 1) - 2) 0 = (W.val : Int) → (disK d.val).1 = 2 * (W.val : Int) + ((d.val : Int) - 1) / 2 ^ W.val ∧ (disK d.val).2.2 = W.val ∧ lowb ((d.val : Int) - 1) W.val = lowb (disK d.val).2.1 W.val := by decide +kernel
theorem dis_w : ∀ d : Fin 65, 1 ≤ d.val → 0 ≤ Lib.len8 ((d.val : Int) - 1) ∧ Lib.len8 ((d.val : Int) - 1) ≤ 6 := by decide +kernel
set_option maxHeartbeats 2000000 in
theorem plenC (g : Nat) (T : TypeId) (bs : List Nat) (L : List Int) (n : Nat) (w : World) (h : PW w g T bs L) (hL : L.length ≤ 680000000) (hn : 3 ≤ n) (hn2 : n ≤ 258) :
    Calls Try.prog 30 #[.pointer (some ⟨g, 0, none⟩), .int .i64 (n : Int)] w (Wrote g T bs (L ++ lenBits n) w) := by
  rcases (show n = 258 ∨ n < 258 by omega) with rfl | hlt
  · have he : lenBits 258 = symB 285 := by decide +kernel
    have HC := Lib.hid (psymC g T bs L 285 285 w h (by omega) (by omega) rfl)
    rw [he]
    clear h he hL hn hn2
    go_enter Try.func30, Try.ntmps30
    go_wp2_with (go_at_call 29; refine HC.out.mono ?_; (rintro r w3 ⟨rfl, bs3, hp3, ho3, hb3⟩); have HW3 := Lib.hid hp3; have HO3 := Lib.hid ho3; have HB3 := Lib.hid hb3; clear hp3 ho3 hb3)
    (try simp only [Exit.inBlock, Exit.then])
    refine ⟨rfl, _, results_none rfl _ _ _, ?_⟩
    exact ⟨rfl, bs3, HW3.out, HO3.out, HB3.out⟩
  · have hb := len_w ⟨n, hlt⟩ hn
    dsimp only at hb
    obtain ⟨N, hN⟩ : ∃ N, Lib.len8 ((n : Int) - 3) = N := ⟨_, rfl⟩
    have HLN := Lib.hid (fun W => blenC ((n : Int) - 3) (by omega) (by omega) W)
    rw [hN] at hb HLN
    obtain ⟨K, hKK, k1, k2, k3⟩ : ∃ K : Nat, max (N - 3) 0 = (K : Int) ∧ (lenK n).1 = 257 + 4 * (K : Int) + ((n : Int) - 3) / 2 ^ K ∧ (lenK n).2.2 = K ∧ lowb ((n : Int) - 3) K = lowb (lenK n).2.1 K := by
      have := len_k ⟨n, hlt⟩ hn ⟨(max (N - 3) 0).toNat, by omega⟩
      dsimp only at this
      rw [hN] at this
      have h2 : max (N - 3) 0 = ((max (N - 3) 0).toNat : Int) := by omega
      exact ⟨_, h2, this h2⟩
    have hnb := lenK_bd ⟨n, by omega⟩ hn
    dsimp only at hnb
    rcases (show max (N - 3) 0 = 0 ∨ max (N - 3) 0 = 1 ∨ max (N - 3) 0 = 2 ∨ max (N - 3) 0 = 3 ∨ max (N - 3) 0 = 4 ∨ max (N - 3) 0 = 5 by omega) with hW | hW | hW | hW | hW | hW
    all_goals
      rw [hW] at hKK
      have hKe := congrArg Int.toNat hKK
      simp only [Int.toNat_natCast, Int.reduceToNat] at hKe
      subst hKe
      have HC := Lib.hid (fun x hx => psymC g T bs L (lenK n).1.toNat x w h (by omega) (by omega) hx)
      have HP := Lib.hid (fun W bs1 (hW : PW W g T bs1 (L ++ symB (lenK n).1.toNat)) => put_in5 g T bs1 _ ((n : Int) - 3) (lenK n).2.2.toNat W hW (by rw [List.length_append]; have := (symB_len (lenK n).1.toNat (by omega)).2; omega) (by omega) (by omega) (by omega))
      have he : L ++ symB (lenK n).1.toNat ++ lowb ((n : Int) - 3) (lenK n).2.2.toNat = L ++ lenBits n := by
        unfold lenBits
        rw [List.append_assoc]
        congr 2
        rw [k2]
        exact k3
      have HE := Lib.hid he
      have HK1 := Lib.hid k1
      have HK2 := Lib.hid k2
      have n3 : (n : Int) ≠ 258 := by omega
      have n3b : ¬ ((n : Int) = 258) := by omega
      have nlo : (3 : Int) ≤ n := by omega
      have nhi : (n : Int) < 258 := by omega
      have HNB := Lib.hid hnb
      clear h he hL hn hn2 k1 k2 k3 hKK hN hnb
      go_enter Try.func30, Try.ntmps30
      go_wp2_with (first
        | (go_at_call 51; refine (HLN.out _).mono ?_; (rintro r w1 ⟨rfl, rfl⟩))
        | (go_at_call 29; refine (HC.out _ (by have h1 := HK1.out; have h2 := HNB.out; simp at h1; omega)).mono ?_; (rintro r w3 ⟨rfl, bs3, hp3, ho3, hb3⟩); have HW3 := Lib.hid hp3; have HO3 := Lib.hid ho3; have HB3 := Lib.hid hb3; clear hp3 ho3 hb3)
        | (go_at_call 10; refine (HP.out _ _ HW3.out _ (by have h2 := HK2.out; simp at h2; omega)).mono ?_; (rintro r w4 ⟨rfl, bs4, hp4, ho4, hb4⟩); rw [HE.out] at hp4; have HW4 := Lib.hid hp4; have HO4 := Lib.hid (HO3.out.trans ho4); have HB4 := Lib.hid (in_trans HB3.out hb4 HO3.out.size); clear hp4 ho4 hb4))
      (try simp only [Exit.inBlock, Exit.then])
      refine ⟨rfl, _, results_none rfl _ _ _, ?_⟩
      exact ⟨rfl, bs4, HW4.out, HO4.out, HB4.out⟩
set_option maxHeartbeats 2000000 in
theorem pdisC (g : Nat) (T : TypeId) (bs : List Nat) (L : List Int) (n : Nat) (w : World) (h : PW w g T bs L) (hL : L.length ≤ 680000000) (hn : 1 ≤ n) (hn2 : n ≤ 64) :
    Calls Try.prog 31 #[.pointer (some ⟨g, 0, none⟩), .int .i64 (n : Int)] w (Wrote g T bs (L ++ disBits n) w) := by
  have hb := dis_w ⟨n, by omega⟩ hn
  dsimp only at hb
  obtain ⟨N, hN⟩ : ∃ N, Lib.len8 ((n : Int) - 1) = N := ⟨_, rfl⟩
  have HLN := Lib.hid (fun W => blenC ((n : Int) - 1) (by omega) (by omega) W)
  rw [hN] at hb HLN
  obtain ⟨K, hKK, k1, k2, k3⟩ : ∃ K : Nat, max (N - 2) 0 = (K : Int) ∧ (disK n).1 = 2 * (K : Int) + ((n : Int) - 1) / 2 ^ K ∧ (disK n).2.2 = K ∧ lowb ((n : Int) - 1) K = lowb (disK n).2.1 K := by
    have := dis_k ⟨n, by omega⟩ hn ⟨(max (N - 2) 0).toNat, by omega⟩
    dsimp only at this
    rw [hN] at this
    have h2 : max (N - 2) 0 = ((max (N - 2) 0).toNat : Int) := by omega
    exact ⟨_, h2, this h2⟩
  have hnb := disK_bd ⟨n, by omega⟩ hn
  dsimp only at hnb
  rcases (show max (N - 2) 0 = 0 ∨ max (N - 2) 0 = 1 ∨ max (N - 2) 0 = 2 ∨ max (N - 2) 0 = 3 ∨ max (N - 2) 0 = 4 by omega) with hW | hW | hW | hW | hW
  all_goals
    rw [hW] at hKK
    have hKe := congrArg Int.toNat hKK
    simp only [Int.toNat_natCast, Int.reduceToNat] at hKe
    subst hKe
    have HC : Hid (∀ x, x = (disK n).1 → Calls Try.prog 50 #[.pointer (some ⟨g, 0, none⟩), .int .i64 x, .int .i64 5] w (Wrote g T bs (L ++ highb (disK n).1 5) w)) := Lib.hid (fun x hx => by subst hx; exact code5C g T bs L _ w h (by omega) (by omega) (by omega))
    have HP := Lib.hid (fun W bs1 (hW : PW W g T bs1 (L ++ highb (disK n).1 5)) => put_in5 g T bs1 _ ((n : Int) - 1) (disK n).2.2.toNat W hW (by rw [List.length_append]; rw [highb_len]; omega) (by omega) (by omega) (by omega))
    have he : L ++ highb (disK n).1 5 ++ lowb ((n : Int) - 1) (disK n).2.2.toNat = L ++ disBits n := by
      unfold disBits
      rw [List.append_assoc]
      congr 2
      rw [k2]
      exact k3
    have HE := Lib.hid he
    have HK1 := Lib.hid k1
    have HK2 := Lib.hid k2
    have nlo : (1 : Int) ≤ n := by omega
    have nhi : (n : Int) ≤ 64 := by omega
    have HNB := Lib.hid hnb
    clear h he hL hn hn2 k1 k2 k3 hKK hN hnb
    go_enter Try.func31, Try.ntmps31
    go_wp2_with (first
      | (go_at_call 51; refine (HLN.out _).mono ?_; (rintro r w1 ⟨rfl, rfl⟩))
      | (go_at_call 50; refine (HC.out _ (by have h1 := HK1.out; simp at h1; omega)).mono ?_; (rintro r w3 ⟨rfl, bs3, hp3, ho3, hb3⟩); have HW3 := Lib.hid hp3; have HO3 := Lib.hid ho3; have HB3 := Lib.hid hb3; clear hp3 ho3 hb3)
      | (go_at_call 10; refine (HP.out _ _ HW3.out _ (by have h2 := HK2.out; simp at h2; omega)).mono ?_; (rintro r w4 ⟨rfl, bs4, hp4, ho4, hb4⟩); rw [HE.out] at hp4; have HW4 := Lib.hid hp4; have HO4 := Lib.hid (HO3.out.trans ho4); have HB4 := Lib.hid (in_trans HB3.out hb4 HO3.out.size); clear hp4 ho4 hb4))
    (try simp only [Exit.inBlock, Exit.then])
    refine ⟨rfl, _, results_none rfl _ _ _, ?_⟩
    exact ⟨rfl, bs4, HW4.out, HO4.out, HB4.out⟩
end Go.Proofs.Ytginbilakdenmaa
