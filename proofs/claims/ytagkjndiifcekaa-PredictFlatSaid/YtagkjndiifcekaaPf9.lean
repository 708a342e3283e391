/- Chapter 9, the document's own: whether a shape may be; far, paeth, guess, near. -/
import Derived.Test.YtagkjndiifcekaaPd9
import Derived.Test.YtagkjndiifcekaaKp8
import Derived.Outline
import Derived.LoopTactic
import Derived.Deep.QuietTactic
import Derived.BigQuiet
import Derived.WalkSpells
namespace Go.Proofs.Ytagkjndiifcekaa
open Go.RowKit
set_option linter.unusedVariables false
set_option maxRecDepth 100000

/-- A shape, as a value. -/
abbrev shV (P C K : Int) : Value := .agg #[.int .i64 P, .int .i64 C, .int .i64 K]
theorem farC (a b : Int) (w : World) (ha : -100000 ≤ a ∧ a ≤ 100000) (hb : -100000 ≤ b ∧ b ≤ 100000) : Calls Try.prog 33 #[.int .i64 a, .int .i64 b] w fun e w' => e = .returned (.int .i64 (farZ a b)) ∧ w = w' := by
  unfold farZ
  by_cases h : b < a
  · rw [if_pos h]
    have hg : a > b := h
    have h1 : IntKind.i64.wrap (a - b) = a - b := IntWalk.i64_in _ (by omega)
    go_enter Try.func33, Try.ntmps33
    go_wp2
    go_ret
    exact ⟨rfl, rfl⟩
  · rw [if_neg h]
    have hg : ¬ a > b := h
    have h1 : IntKind.i64.wrap (b - a) = b - a := IntWalk.i64_in _ (by omega)
    go_enter Try.func33, Try.ntmps33
    go_wp2
    go_ret
    exact ⟨rfl, rfl⟩
theorem paethC (a b c : Int) (w : World) (ha : 0 ≤ a ∧ a < 256) (hb : 0 ≤ b ∧ b < 256) (hc : 0 ≤ c ∧ c < 256) : Calls Try.prog 27 #[.int .i64 a, .int .i64 b, .int .i64 c] w fun e w' => e = .returned (.int .i64 (paethZ a b c)) ∧ w = w' := by
  obtain ⟨p, hp⟩ : ∃ p, a + b - c = p := ⟨_, rfl⟩
  have H1 := Lib.hid (fun W => farC p a W (by omega) (by omega))
  have H2 := Lib.hid (fun W => farC p b W (by omega) (by omega))
  have H3 := Lib.hid (fun W => farC p c W (by omega) (by omega))
  have HE : Hid (paethZ a b c = if farZ p a ≤ farZ p b ∧ farZ p a ≤ farZ p c then a else if farZ p b ≤ farZ p c then b else c) := Lib.hid (by unfold paethZ; rw [hp])
  obtain ⟨x, hx⟩ : ∃ x, farZ p a = x := ⟨_, rfl⟩
  obtain ⟨y, hy⟩ : ∃ y, farZ p b = y := ⟨_, rfl⟩
  obtain ⟨z, hz⟩ : ∃ z, farZ p c = z := ⟨_, rfl⟩
  rw [hx] at H1 HE
  rw [hy] at H2 HE
  rw [hz] at H3 HE
  have w1 : IntKind.i64.wrap (a + b) = a + b := IntWalk.i64_in _ (by omega)
  have w2 : IntKind.i64.wrap p = p := IntWalk.i64_in _ (by omega)
  clear hx hy hz
  have hways : (x ≤ y ∧ x ≤ z ∧ paethZ a b c = a) ∨ (x ≤ y ∧ ¬ x ≤ z ∧ ¬ y ≤ z ∧ paethZ a b c = c) ∨ (¬ x ≤ y ∧ y ≤ z ∧ paethZ a b c = b) ∨ (¬ x ≤ y ∧ ¬ y ≤ z ∧ paethZ a b c = c) := by
    rw [HE.out]
    by_cases g1 : x ≤ y
    · by_cases g2 : x ≤ z
      · exact .inl ⟨g1, g2, if_pos ⟨g1, g2⟩⟩
      · rw [if_neg (fun h => g2 h.2)]
        by_cases g3 : y ≤ z
        · omega
        · exact .inr (.inl ⟨g1, g2, g3, if_neg g3⟩)
    · rw [if_neg (fun h => g1 h.1)]
      by_cases g3 : y ≤ z
      · exact .inr (.inr (.inl ⟨g1, g3, if_pos g3⟩))
      · exact .inr (.inr (.inr ⟨g1, g3, if_neg g3⟩))
  rcases hways with ⟨g1, g2, he⟩ | ⟨g1, g2, g3, he⟩ | ⟨g1, g3, he⟩ | ⟨g1, g3, he⟩
  all_goals
    rw [he]
    clear he
    go_enter Try.func27, Try.ntmps27
    go_wp2_with (first
      | (go_at_call 33; with_reducible refine (H1.out _).mono ?_; (rintro r w2 ⟨rfl, rfl⟩))
      | (go_at_call 33; with_reducible refine (H2.out _).mono ?_; (rintro r w2 ⟨rfl, rfl⟩))
      | (go_at_call 33; with_reducible refine (H3.out _).mono ?_; (rintro r w2 ⟨rfl, rfl⟩)))
    go_ret
    exact ⟨rfl, rfl⟩
theorem guessC (t a b c : Int) (w : World) (ht : 0 ≤ t ∧ t ≤ 4) (ha : 0 ≤ a ∧ a < 256) (hb : 0 ≤ b ∧ b < 256) (hc : 0 ≤ c ∧ c < 256) : Calls Try.prog 22 #[.int .i64 t, .int .i64 a, .int .i64 b, .int .i64 c] w fun e w' => e = .returned (.int .i64 (guessZ t a b c)) ∧ w = w' := by
  have H1 := Lib.hid (fun W => paethC a b c W ha hb hc)
  obtain ⟨q, hq⟩ : ∃ q, paethZ a b c = q := ⟨_, rfl⟩
  rw [hq] at H1
  obtain ⟨h, hh⟩ : ∃ h, (a + b) / 2 = h := ⟨_, rfl⟩
  have d1 : (a + b).tdiv 2 = h := by rw [Int.tdiv_eq_ediv_of_nonneg (by omega)]; exact hh
  have w1 : IntKind.i64.wrap (a + b) = a + b := IntWalk.i64_in _ (by omega)
  have w2 : IntKind.i64.wrap h = h := IntWalk.i64_in _ (by omega)
  have HE : Hid (∀ t, guessZ t a b c = if t = 1 then a else if t = 2 then b else if t = 3 then h else if t = 4 then q else 0) := Lib.hid (fun t => by unfold guessZ; rw [hh, hq])
  clear hq
  obtain rfl | rfl | rfl | rfl | rfl : t = 0 ∨ t = 1 ∨ t = 2 ∨ t = 3 ∨ t = 4 := by omega
  all_goals
    rw [HE.out]
    go_enter Try.func22, Try.ntmps22
    go_wp2_with (go_at_call 27; refine (H1.out _).mono ?_; (rintro r w2 ⟨rfl, rfl⟩))
    go_ret
    exact ⟨rfl, rfl⟩
set_option maxHeartbeats 2000000 in
theorem mayC (P C K : Int) (w : World) : Calls Try.prog 16 #[shV P C K] w fun e w' => e = .returned (.bool (mayZ P C K)) ∧ Below w.heap.size w w' := by
  go_enter Try.func16, Try.ntmps16
  go_wp2_with fail
  all_goals
    go_ret
    refine ⟨ret_bool ?_, (Below.refl _ _).alloc (Nat.le_refl _) _⟩
    unfold mayZ
    first
      | (exact (decide_eq_true (by omega)).symm)
      | (exact (decide_eq_false (by omega)).symm)
      | (exact decide_eq_decide.2 (by omega))
      | (rw [show (P == 1 || P == 2) = false by simp [*]]; exact (decide_eq_false (by omega)).symm)
set_option maxHeartbeats 2000000 in
theorem nearC (P : Int) (c k n : Nat) (A : Option Addr) (m cp i : Nat) (ps : List Int) (w : World) (hb : Byt w w.heap.size A m cp ps) (hi : i < m) (hm : m ≤ 100000000) (hc : 1 ≤ c ∧ c ≤ 4) (hk : 1 ≤ k ∧ k ≤ 4096) (hn : c * k = n) :
    Calls Try.prog 21 #[shV P c k, .slice A m cp, .int .i64 i] w fun e w' => e = .returned (.tuple #[.int .i64 (leZ c n ps i), .int .i64 (abZ n ps i), .int .i64 (beZ c n ps i)]) ∧ Below w.heap.size w w' := by
  have hb1 := (Below.refl w.heap.size w).alloc (Nat.le_refl _) (.cells #[.int .i64 P, .int .i64 c, .int .i64 k] 30)
  have hnb : 1 ≤ n ∧ n ≤ 16384 := by
    rw [← hn]
    exact ⟨Nat.mul_pos hc.1 hk.1, Nat.mul_le_mul hc.2 hk.2⟩
  have eN : (c : Int) * (k : Int) = n := by rw [← hn]; simp
  have wN : IntKind.i64.wrap (n : Int) = n := IntWalk.i64_in _ (by omega)
  obtain ⟨b, o, rfl, hlt, hcell⟩ := (hb.below hb1 (Nat.le_refl _)).cell (by omega)
  obtain ⟨r, hr⟩ : ∃ r, i % n = r := ⟨_, rfl⟩
  have er1 : (i : Int).tmod n = r := by rw [Int.tmod_eq_emod_of_nonneg (by omega)]; omega
  have er2 : (i : Int) % n = r := by omega
  have wr1 : IntKind.i64.wrap (r : Int) = r := IntWalk.i64_in _ (by have := Nat.mod_lt i (show 0 < n by omega); omega)
  have hrn : r < n ∧ r ≤ i := by rw [← hr]; exact ⟨Nat.mod_lt _ (by omega), Nat.mod_le _ _⟩
  have hn0 : ¬ (n : Int) = 0 := by omega
  have HRG := Lib.hid (fun j => hb.getD j)
  have HCL := Lib.hid hcell
  have HLE : Hid (leZ c n ps i = if c ≤ r then ps.getD (i - c) 0 else 0) := Lib.hid (by unfold leZ; rw [hr])
  have HAB : Hid (abZ n ps i = if n ≤ i then ps.getD (i - n) 0 else 0) := Lib.hid rfl
  have HBE : Hid (beZ c n ps i = if n ≤ i ∧ c ≤ r then ps.getD (i - n - c) 0 else 0) := Lib.hid (by unfold beZ; rw [hr])
  have HB1 := Lib.hid hb1
  have hic : (i : Int) < m := by omega
  have hc4 : (c : Int) ≤ 4 := by omega
  obtain ⟨la, hla⟩ : ∃ la, leZ c n ps i = la := ⟨_, rfl⟩
  obtain ⟨ab, hab⟩ : ∃ ab, abZ n ps i = ab := ⟨_, rfl⟩
  obtain ⟨be, hbe⟩ : ∃ be, beZ c n ps i = be := ⟨_, rfl⟩
  rw [hla] at HLE ⊢
  rw [hab] at HAB ⊢
  rw [hbe] at HBE ⊢
  clear hcell hb1 hr hb hn hla hab hbe hlt
  have hway : (c ≤ r ∧ n ≤ i) ∨ (c ≤ r ∧ ¬ n ≤ i) ∨ (¬ c ≤ r ∧ n ≤ i) ∨ (¬ c ≤ r ∧ ¬ n ≤ i) := by omega
  rcases hway with ⟨g1, g2⟩ | ⟨g1, g2⟩ | ⟨g1, g2⟩ | ⟨g1, g2⟩
  · obtain ⟨x1, hx1⟩ : ∃ x1, i - c = x1 := ⟨_, rfl⟩
    obtain ⟨x2, hx2⟩ : ∃ x2, i - n = x2 := ⟨_, rfl⟩
    have hir : c ≤ i - n := by
      have : ¬ (i - n) < c := fun h => by
        have h3 : r = (i - n) % n := by
          have := Nat.mod_eq_sub_mod g2
          omega
        have := Nat.mod_le (i - n) n
        omega
      omega
    obtain ⟨x3, hx3⟩ : ∃ x3, x2 - c = x3 := ⟨_, rfl⟩
    have k1 := HCL.out x1 (by omega)
    have k2 := HCL.out x2 (by omega)
    have k3 := HCL.out x3 (by omega)
    have r1 := HRG.out x1
    have r2 := HRG.out x2
    have r3 := HRG.out x3
    have E1 := HLE.out
    have E2 := HAB.out
    have E3 := HBE.out
    rw [if_pos g1, hx1] at E1
    rw [if_pos g2, hx2] at E2
    rw [if_pos ⟨g2, g1⟩, hx2, hx3] at E3
    rw [← E1] at k1 r1
    rw [← E2] at k2 r2
    rw [← E3] at k3 r3
    have e1 : (i : Int) - c = x1 := by omega
    have e2 : (i : Int) - n = x2 := by omega
    have e3 : (x2 : Int) - c = x3 := by omega
    have v1 : IntKind.i64.wrap (x1 : Int) = x1 := IntWalk.i64_in _ (by omega)
    have v2 : IntKind.i64.wrap (x2 : Int) = x2 := IntWalk.i64_in _ (by omega)
    have v3 : IntKind.i64.wrap (x3 : Int) = x3 := IntWalk.i64_in _ (by omega)
    have l1 : (x1 : Int) < m := by omega
    have l2 : (x2 : Int) < m := by omega
    have l3 : (x3 : Int) < m := by omega
    have u1 : IntKind.i64.wrap la = la := IntWalk.i64_in _ (by omega)
    have u2 : IntKind.i64.wrap ab = ab := IntWalk.i64_in _ (by omega)
    have u3 : IntKind.i64.wrap be = be := IntWalk.i64_in _ (by omega)
    have q1 : (r : Int) ≥ c := by omega
    have q2 : (i : Int) ≥ n := by omega
    clear E1 E2 E3 hx1 hx2 hx3 hir g1 g2 HLE HAB HBE
    go_enter Try.func21, Try.ntmps21
    go_wp2_with fail
    go_quiet (fail)
    go_wp2_with fail
    go_quiet (fail)
    go_wp2_with fail
    go_ret3
    exact ⟨rfl, by first | exact below_drewN HB1.out _ | exact below_drewN (below_drewN HB1.out _) _⟩
  · obtain ⟨x1, hx1⟩ : ∃ x1, i - c = x1 := ⟨_, rfl⟩
    have k1 := HCL.out x1 (by omega)
    have r1 := HRG.out x1
    have E1 := HLE.out
    have E2 := HAB.out
    have E3 := HBE.out
    rw [if_pos g1, hx1] at E1
    rw [if_neg g2] at E2
    rw [if_neg (fun h => g2 h.1)] at E3
    rw [← E1] at k1 r1
    have e1 : (i : Int) - c = x1 := by omega
    have v1 : IntKind.i64.wrap (x1 : Int) = x1 := IntWalk.i64_in _ (by omega)
    have l1 : (x1 : Int) < m := by omega
    have u1 : IntKind.i64.wrap la = la := IntWalk.i64_in _ (by omega)
    have q1 : (r : Int) ≥ c := by omega
    have q2 : ¬ (i : Int) ≥ n := by omega
    have HE2 := Lib.hid E2
    have HE3 := Lib.hid E3
    clear E1 E2 E3 hx1 g1 g2 HLE HAB HBE
    go_enter Try.func21, Try.ntmps21
    go_wp2_with fail
    go_quiet (fail)
    go_wp2_with fail
    go_ret3
    rw [HE2.out, HE3.out]
    exact ⟨rfl, below_drewN HB1.out _⟩
  · obtain ⟨x2, hx2⟩ : ∃ x2, i - n = x2 := ⟨_, rfl⟩
    have k2 := HCL.out x2 (by omega)
    have r2 := HRG.out x2
    have E1 := HLE.out
    have E2 := HAB.out
    have E3 := HBE.out
    rw [if_neg g1] at E1
    rw [if_pos g2, hx2] at E2
    rw [if_neg (fun h => g1 h.2)] at E3
    rw [← E2] at k2 r2
    have e2 : (i : Int) - n = x2 := by omega
    have v2 : IntKind.i64.wrap (x2 : Int) = x2 := IntWalk.i64_in _ (by omega)
    have l2 : (x2 : Int) < m := by omega
    have u2 : IntKind.i64.wrap ab = ab := IntWalk.i64_in _ (by omega)
    have q1 : ¬ (r : Int) ≥ c := by omega
    have q2 : (i : Int) ≥ n := by omega
    have HE2 := Lib.hid E1
    have HE3 := Lib.hid E3
    clear E1 E2 E3 hx2 g1 g2 HLE HAB HBE
    go_enter Try.func21, Try.ntmps21
    go_wp2_with fail
    go_quiet (fail)
    go_wp2_with fail
    go_quiet (fail)
    go_wp2_with fail
    go_ret3
    rw [HE2.out, HE3.out]
    exact ⟨rfl, by first | exact below_drewN HB1.out _ | exact below_drewN (below_drewN HB1.out _) _⟩
  · have E1 := HLE.out
    have E2 := HAB.out
    have E3 := HBE.out
    rw [if_neg g1] at E1
    rw [if_neg g2] at E2
    rw [if_neg (fun h => g2 h.1)] at E3
    have q1 : ¬ (r : Int) ≥ c := by omega
    have q2 : ¬ (i : Int) ≥ n := by omega
    have HE1 := Lib.hid E1
    have HE2 := Lib.hid E2
    have HE3 := Lib.hid E3
    clear E1 E2 E3 g1 g2 HLE HAB HBE
    go_enter Try.func21, Try.ntmps21
    go_wp2_with fail
    go_quiet (fail)
    go_wp2_with fail
    go_ret3
    rw [HE1.out, HE2.out, HE3.out]
    exact ⟨rfl, below_drewN HB1.out _⟩
end Go.Proofs.Ytagkjndiifcekaa
