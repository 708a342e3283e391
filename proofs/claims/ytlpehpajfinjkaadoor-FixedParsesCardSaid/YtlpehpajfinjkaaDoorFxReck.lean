/- What the project's fixed.Mul and Div answer. -/
import Derived.Test.YtlpehpajfinjkaaDoorFxIn
import Derived.Test.YtlpehpajfinjkaaDoorDivA
namespace Go.Proofs.YtlpehpajfinjkaaDoor
open Go.RowKit
set_option linter.unusedVariables false

/-- A number that may be, or none; the tape may have been drawn from. -/
def NumOut2 (t : Int) (w : World) (e : Ending) (w' : World) : Prop := e = .returned (pairV (numV t, inB t)) ∧ ∃ k, w' = w.drewN k

theorem mul64_at (x y : Nat) (hx : x < 18446744073709551616) (hy : y < 18446744073709551616) (h l : Nat) (hh : x * y / 18446744073709551616 = h) (hl : x * y % 18446744073709551616 = l) (w : World) :
    Calls Tryd.prog 41 #[.int .u64 x, .int .u64 y] w fun e w' => e = .returned (.tuple #[.int .u64 h, .int .u64 l]) ∧ w = w' := by
  subst hh; subst hl
  exact (Tryd.bits_Mul64 x y hx hy w).mono fun e w' ⟨he, hw⟩ => ⟨he, hw.symm⟩

set_option maxRecDepth 100000 in
set_option maxHeartbeats 4000000 in
theorem fxScale_in (a b c : Int) (w : World) (ha1 : -214748364799999 ≤ a) (ha2 : a ≤ 214748364799999) (hb1 : -214748364799999 ≤ b) (hb2 : b ≤ 214748364799999) (hc1 : -214748364799999 ≤ c) (hc2 : c ≤ 214748364799999) (hc0 : c ≠ 0) :
    Calls Tryd.prog 32 #[.int .i64 a, .int .i64 b, .int .i64 c] w (NumOut2 ((a * b).tdiv c) w) := by
  have hab := tdiv_natAbs a b c
  have htd := tdiv_of a b c
  have hN : a.natAbs * b.natAbs / 18446744073709551616 * 18446744073709551616 + a.natAbs * b.natAbs % 18446744073709551616 = a.natAbs * b.natAbs := by omega
  obtain ⟨q, hq⟩ : ∃ q, a.natAbs * b.natAbs / c.natAbs = q := ⟨_, rfl⟩
  obtain ⟨h, hh⟩ : ∃ h, a.natAbs * b.natAbs / 18446744073709551616 = h := ⟨_, rfl⟩
  obtain ⟨l, hl⟩ : ∃ l, a.natAbs * b.natAbs % 18446744073709551616 = l := ⟨_, rfl⟩
  have hlb : l < 18446744073709551616 := by omega
  have HM := Lib.hid (mul64_at a.natAbs b.natAbs (by omega) (by omega) h l hh hl)
  rw [hh, hl] at hN
  rw [hq] at hab htd
  have HTD := Lib.hid htd
  have HIA := Lib.hid (fun W => fxIn_yes a W ha1 ha2)
  have HIB := Lib.hid (fun W => fxIn_yes b W hb1 hb2)
  have HIC := Lib.hid (fun W => fxIn_yes c W hc1 hc2)
  have HA := Lib.hid (fun W => fxSize a W (by omega) (by omega))
  have HB := Lib.hid (fun W => fxSize b W (by omega) (by omega))
  have HC := Lib.hid (fun W => fxSize c W (by omega) (by omega))
  have hcz : (c == 0) = false := beq_eq_false_iff_ne.2 hc0
  by_cases hbig : c.natAbs ≤ h
  · have hq2 : 18446744073709551616 ≤ q := by
      rw [← hq, Nat.le_div_iff_mul_le (by omega)]
      have := Nat.mul_le_mul_left 18446744073709551616 hbig
      omega
    have HNO := Lib.hid (inB_false (n := (a * b).tdiv c) (by omega))
    have hbi : (c.natAbs : Int) ≤ h := by omega
    clear hab htd hN hq hh hl hlb hbig hq2 ha1 ha2 hb1 hb2 hc1 hc2 hc0
    go_enter Tryd.func32, Tryd.ntmps32
    go_wp2_with (first
      | (go_at_call 18; (with_reducible refine (HIA.out _).mono ?_); rintro e w' ⟨rfl, rfl⟩)
      | (go_at_call 18; (with_reducible refine (HIB.out _).mono ?_); rintro e w' ⟨rfl, rfl⟩)
      | (go_at_call 18; (with_reducible refine (HIC.out _).mono ?_); rintro e w' ⟨rfl, rfl⟩)
      | (go_at_call 34; (with_reducible refine (HA.out _).mono ?_); rintro e w' ⟨rfl, rfl⟩)
      | (go_at_call 34; (with_reducible refine (HB.out _).mono ?_); rintro e w' ⟨rfl, rfl⟩)
      | (go_at_call 34; (with_reducible refine (HC.out _).mono ?_); rintro e w' ⟨rfl, rfl⟩)
      | (go_at_call 41; (with_reducible refine (HM.out _).mono ?_); rintro e w' ⟨rfl, rfl⟩))
    go_ret2
    exact ⟨by rw [numV_no HNO.out, HNO.out]; rfl, 0, (World.drewN_zero _).symm⟩
  · have hd := fun W => div64 h l c.natAbs W (by omega) (by omega) (by omega) hlb
    simp only [hN, hq] at hd
    have HD := Lib.hid hd
    have hbi : ¬ (c.natAbs : Int) ≤ h := by omega
    clear hd
    by_cases hmuch : 214748364799999 < q
    · have HNO := Lib.hid (inB_false (n := (a * b).tdiv c) (by omega))
      have hmi : (214748364799999 : Int) < q := by omega
      clear hab htd hN hq hh hl hlb hbig hmuch ha1 ha2 hb1 hb2 hc1 hc2 hc0
      go_enter Tryd.func32, Tryd.ntmps32
      go_wp2_with (first
        | (go_at_call 18; (with_reducible refine (HIA.out _).mono ?_); rintro e w' ⟨rfl, rfl⟩)
        | (go_at_call 18; (with_reducible refine (HIB.out _).mono ?_); rintro e w' ⟨rfl, rfl⟩)
        | (go_at_call 18; (with_reducible refine (HIC.out _).mono ?_); rintro e w' ⟨rfl, rfl⟩)
        | (go_at_call 34; (with_reducible refine (HA.out _).mono ?_); rintro e w' ⟨rfl, rfl⟩)
        | (go_at_call 34; (with_reducible refine (HB.out _).mono ?_); rintro e w' ⟨rfl, rfl⟩)
        | (go_at_call 34; (with_reducible refine (HC.out _).mono ?_); rintro e w' ⟨rfl, rfl⟩)
        | (go_at_call 41; (with_reducible refine (HM.out _).mono ?_); rintro e w' ⟨rfl, rfl⟩)
        | (go_at_call 42; (with_reducible refine (HD.out _).mono ?_); rintro e w' ⟨⟨r, rfl⟩, k, rfl⟩))
      go_ret2
      exact ⟨by rw [numV_no HNO.out, HNO.out]; rfl, k, rfl⟩
    · have hmi : ¬ (214748364799999 : Int) < q := by omega
      have HYES := Lib.hid (inB_true (n := (a * b).tdiv c) (by omega) (by omega))
      clear hab htd hN hq hh hl hlb hbig hmuch ha1 ha2 hb1 hb2 hc1 hc2 hc0
      have htd2 := HTD.out
      rcases d1 : decide (a < 0) with _ | _ <;> rcases d2 : decide (b < 0) with _ | _ <;> rcases d3 : decide (c < 0) with _ | _
      all_goals
        have ht := htd2
        rw [d1, d2, d3] at ht
        simp at ht
        clear htd2
        have HT := Lib.hid ht
        clear ht
        go_enter Tryd.func32, Tryd.ntmps32
        go_wp2_with (first
          | (go_at_call 18; (with_reducible refine (HIA.out _).mono ?_); rintro e w' ⟨rfl, rfl⟩)
          | (go_at_call 18; (with_reducible refine (HIB.out _).mono ?_); rintro e w' ⟨rfl, rfl⟩)
          | (go_at_call 18; (with_reducible refine (HIC.out _).mono ?_); rintro e w' ⟨rfl, rfl⟩)
          | (go_at_call 34; (with_reducible refine (HA.out _).mono ?_); rintro e w' ⟨rfl, rfl⟩)
          | (go_at_call 34; (with_reducible refine (HB.out _).mono ?_); rintro e w' ⟨rfl, rfl⟩)
          | (go_at_call 34; (with_reducible refine (HC.out _).mono ?_); rintro e w' ⟨rfl, rfl⟩)
          | (go_at_call 41; (with_reducible refine (HM.out _).mono ?_); rintro e w' ⟨rfl, rfl⟩)
          | (go_at_call 42; (with_reducible refine (HD.out _).mono ?_); rintro e w' ⟨⟨r, rfl⟩, k, rfl⟩))
        go_ret2
        exact ⟨by rw [numV_yes HYES.out, HYES.out, HT.out]; rfl, k, rfl⟩

set_option maxRecDepth 100000 in
theorem fxScale_out (a b c : Int) (w : World) (h : c = 0 ∨ inB a = false ∨ inB b = false ∨ inB c = false) :
    Calls Tryd.prog 32 #[.int .i64 a, .int .i64 b, .int .i64 c] w fun e w' => e = .returned (pairV (0, false)) ∧ w = w' := by
  by_cases hc0 : c = 0
  · have hcz : (c == 0) = true := beq_iff_eq.2 hc0
    clear h hc0
    go_enter Tryd.func32, Tryd.ntmps32
    go_wp2
    go_ret2
    exact ⟨rfl, rfl⟩
  · have hcz : (c == 0) = false := beq_eq_false_iff_ne.2 hc0
    cases ha : inB a
    · have HIA := Lib.hid (fun W => ha ▸ fxIn_any a W)
      clear h hc0 ha
      go_enter Tryd.func32, Tryd.ntmps32
      go_wp2_with (first
        | (go_at_call 18; (with_reducible refine (HIA.out _).mono ?_); rintro e w' ⟨rfl, rfl⟩))
      go_ret2
      exact ⟨rfl, rfl⟩
    · have HIA := Lib.hid (fun W => ha ▸ fxIn_any a W)
      cases hb : inB b
      · have HIB := Lib.hid (fun W => hb ▸ fxIn_any b W)
        clear h hc0 ha hb
        go_enter Tryd.func32, Tryd.ntmps32
        go_wp2_with (first
          | (go_at_call 18; (with_reducible refine (HIA.out _).mono ?_); rintro e w' ⟨rfl, rfl⟩)
          | (go_at_call 18; (with_reducible refine (HIB.out _).mono ?_); rintro e w' ⟨rfl, rfl⟩))
        go_ret2
        exact ⟨rfl, rfl⟩
      · have hc : inB c = false := by simp_all
        have HIB := Lib.hid (fun W => hb ▸ fxIn_any b W)
        have HIC := Lib.hid (fun W => hc ▸ fxIn_any c W)
        clear h hc0 ha hb hc
        go_enter Tryd.func32, Tryd.ntmps32
        go_wp2_with (first
          | (go_at_call 18; (with_reducible refine (HIA.out _).mono ?_); rintro e w' ⟨rfl, rfl⟩)
          | (go_at_call 18; (with_reducible refine (HIB.out _).mono ?_); rintro e w' ⟨rfl, rfl⟩)
          | (go_at_call 18; (with_reducible refine (HIC.out _).mono ?_); rintro e w' ⟨rfl, rfl⟩))
        go_ret2
        exact ⟨rfl, rfl⟩

/-- fixed.scale, of whatever numbers. -/
def scaleS (a b c : Int) : Int × Bool := if inB a = true ∧ inB b = true ∧ inB c = true ∧ c ≠ 0 then (numV ((a * b).tdiv c), inB ((a * b).tdiv c)) else (0, false)
theorem fxScale (a b c : Int) (w : World) : Calls Tryd.prog 32 #[.int .i64 a, .int .i64 b, .int .i64 c] w fun e w' => e = .returned (pairV (scaleS a b c)) ∧ Below w.heap.size w w' := by
  unfold scaleS
  by_cases h : inB a = true ∧ inB b = true ∧ inB c = true ∧ c ≠ 0
  · rw [if_pos h]
    obtain ⟨ha1, ha2⟩ := (inB_iff a).1 h.1
    obtain ⟨hb1, hb2⟩ := (inB_iff b).1 h.2.1
    obtain ⟨hc1, hc2⟩ := (inB_iff c).1 h.2.2.1
    refine (fxScale_in a b c w ha1 ha2 hb1 hb2 hc1 hc2 h.2.2.2).mono ?_
    rintro e w' ⟨he, k, rfl⟩
    exact ⟨he, below_drewN (Below.refl _ _) k⟩
  · rw [if_neg h]
    refine (fxScale_out a b c w ?_).mono ?_
    · cases ha : inB a <;> cases hb : inB b <;> cases hc : inB c <;> simp_all
    · rintro e w' ⟨he, rfl⟩
      exact ⟨he, Below.refl _ _⟩
theorem scale_mul (a b : Int) : scaleS a b 100000 = mulS a b := by
  unfold scaleS mulS
  by_cases h : inB a = true ∧ inB b = true
  · rw [if_pos h, if_pos ⟨h.1, h.2, by decide, by decide⟩]
  · rw [if_neg h, if_neg (fun g => h ⟨g.1, g.2.1⟩)]
theorem scale_div (a b : Int) : scaleS a 100000 b = divS a b := by
  unfold scaleS divS
  by_cases h : inB a = true ∧ inB b = true ∧ b ≠ 0
  · rw [if_pos h, if_pos ⟨h.1, by decide, h.2.1, h.2.2⟩]
  · rw [if_neg h, if_neg (fun g => h ⟨g.1, g.2.2⟩)]

theorem fxIn (n : Int) (w : World) : Calls Tryd.prog 18 #[.int .i64 n] w fun e w' => e = .returned (.bool (inB n)) ∧ Below w.heap.size w w' :=
  (fxIn_any n w).mono fun e w' ⟨he, hw⟩ => ⟨he, by rw [← hw]; exact Below.refl _ _⟩
theorem fxMul (a b : Int) (w : World) : Calls Tryd.prog 13 #[.int .i64 a, .int .i64 b] w fun e w' => e = .returned (pairV (mulS a b)) ∧ Below w.heap.size w w' := by
  have HR := Lib.hid (fun W => scale_mul a b ▸ fxScale a b 100000 W)
  obtain ⟨⟨v, f⟩, hv⟩ : ∃ x, mulS a b = x := ⟨_, rfl⟩
  rw [hv] at HR ⊢
  clear hv
  go_enter Tryd.func13, Tryd.ntmps13
  go_wp2_with (first
    | (go_at_call 32; refine (HR.out _).mono ?_; rintro e w2 ⟨rfl, hb2⟩))
  go_ret2
  exact ⟨rfl, hb2⟩
theorem fxDiv (a b : Int) (w : World) : Calls Tryd.prog 14 #[.int .i64 a, .int .i64 b] w fun e w' => e = .returned (pairV (divS a b)) ∧ Below w.heap.size w w' := by
  have HR := Lib.hid (fun W => scale_div a b ▸ fxScale a 100000 b W)
  obtain ⟨⟨v, f⟩, hv⟩ : ∃ x, divS a b = x := ⟨_, rfl⟩
  rw [hv] at HR ⊢
  clear hv
  go_enter Tryd.func14, Tryd.ntmps14
  go_wp2_with (first
    | (go_at_call 32; refine (HR.out _).mono ?_; rintro e w2 ⟨rfl, hb2⟩))
  go_ret2
  exact ⟨rfl, hb2⟩
theorem fxAdd (A : Option Addr) (n c : Nat) (zs : List Int) (w : World) (hz : Ints w w.heap.size A n c zs) (hn : n ≤ 1000000) :
    Calls Tryd.prog 22 #[.slice A n c] w fun e w' => e = .returned (pairV (addP zs)) ∧ Below w.heap.size w w' := by
  refine (fxAdd0 A n c _ zs w hz (by omega)).mono fun e w' ⟨he, hw⟩ => ⟨?_, by rw [← hw]; exact Below.refl _ _⟩
  rw [he]; unfold addP
  cases addS 0 zs <;> rfl
end Go.Proofs.YtlpehpajfinjkaaDoor
