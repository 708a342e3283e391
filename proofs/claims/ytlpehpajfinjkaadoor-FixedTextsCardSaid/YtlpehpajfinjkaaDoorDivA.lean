/- math/bits.Div64: the quotient of 128 bits by 63. -/
import Derived.Test.YtlpehpajfinjkaaDoorDivMath
import Derived.Test.YtlpehpajfinjkaaDoorShelf
import Derived.Test.YtlpehpajfinjkaaDoorRef2Reck
import Derived.Deep.QuietTactic
import Derived.BigQuiet
import Derived.LoopTactic
namespace Go.Proofs.YtlpehpajfinjkaaDoor
open Go.RowKit
set_option linter.unusedVariables false

theorem ret_pr {k l : IntKind} {a b c d : Int} (h1 : a = b) (h2 : c = d) : Ending.returned (.tuple #[.int k a, .int l c]) = .returned (.tuple #[.int k b, .int l d]) := by rw [h1, h2]
def DivOut (Q : Nat) (w : World) (e : Ending) (w' : World) : Prop := (∃ r : Int, e = .returned (.tuple #[.int .u64 (Q : Int), .int .u64 r])) ∧ ∃ k, w' = w.drewN k

theorem div64_low (L y : Nat) (w : World) (hy0 : 0 < y) (hy : y < 9223372036854775808) (hL : L < 18446744073709551616) :
    Calls Tryd.prog 42 #[.int .u64 (0 : Nat), .int .u64 L, .int .u64 y] w (DivOut (L / y) w) := by
  have h1 : ((y : Int) == 0) = false := beq_eq_false_iff_ne.2 (by omega)
  have h2 : ¬ (y : Int) ≤ 0 := by omega
  go_enter Tryd.func42, Tryd.ntmps42
  go_wp2
  go_quiet (fail)
  go_wp2
  go_ret2
  exact ⟨⟨_, ret_pr (by rw [← Int.natCast_ediv]; exact u64w _ (Nat.lt_of_le_of_lt (Nat.div_le_self _ _) hL)) rfl⟩, _, rfl⟩

theorem pow_cast (y s : Nat) : (y : Int) * 2 ^ s = ((y * 2 ^ s : Nat) : Int) := by rw [Int.natCast_mul, Int.natCast_pow]; rfl
theorem pow_div (y s : Nat) : (y : Int) / 2 ^ s = ((y / 2 ^ s : Nat) : Int) := by rw [Int.natCast_ediv, Int.natCast_pow]; rfl
theorem u64_mul (a b : Nat) (h : a * b < 18446744073709551616) : IntKind.u64.wrap ((a : Int) * (b : Int)) = ((a * b : Nat) : Int) := by rw [← Int.natCast_mul]; exact u64w _ h
theorem and_low (V : Nat) (h : V < 18446744073709551616) : bits .and .u64 (V : Int) 4294967295 = ((V % 4294967296 : Nat) : Int) := by
  have e := u64_and V 4294967295 h (by omega)
  rw [show V &&& 4294967295 = V % 4294967296 from Nat.and_two_pow_sub_one_eq_mod V 32] at e
  exact e
/-- What is set out, of the dividend and of the divisor. -/
structure Laid (H L y s V H2 L2 u M y1 y0 d1 d0 : Nat) : Prop where
  ey : IntKind.u64.wrap ((y : Int) * 2 ^ s) = (V : Int)
  ey1 : (V : Int) / 4294967296 = (y1 : Int)
  ey0 : bits .and .u64 (V : Int) 4294967295 = (y0 : Int)
  eh : IntKind.u64.wrap ((H : Int) * 2 ^ s) = (H2 : Int)
  eL : (L : Int) / 2 ^ (64 - s) = (L2 : Int)
  eu : bits .or .u64 (H2 : Int) (L2 : Int) = (u : Int)
  el : IntKind.u64.wrap ((L : Int) * 2 ^ s) = (M : Int)
  ed1 : (M : Int) / 4294967296 = (d1 : Int)
  ed0 : bits .and .u64 (M : Int) 4294967295 = (d0 : Int)
  hV : V = y1 * 4294967296 + y0
  h1 : 2147483648 ≤ y1 ∧ y1 < 4294967296
  h0 : y0 < 4294967296
  hd1 : d1 < 4294967296
  hd0 : d0 < 4294967296
  hu : u < V
  whole : (H * 18446744073709551616 + L) / y = ((u * 4294967296 + d1) * 4294967296 + d0) / V
theorem laid_of (H L y s : Nat) (hy0 : 0 < y) (hH : H < y) (hL : L < 18446744073709551616) (hs1 : 1 ≤ s) (hs2 : s ≤ 63) (hV0 : 9223372036854775808 ≤ y * 2 ^ s) (hV1 : y * 2 ^ s < 18446744073709551616) :
    ∃ V H2 L2 u M y1 y0 d1 d0, Laid H L y s V H2 L2 u M y1 y0 d1 d0 := by
  obtain ⟨p1, p2, p3⟩ := shift_parts H L y s hs1 hs2 hH hV1 hL
  have hH2 : H * 2 ^ s < 18446744073709551616 := Nat.lt_of_le_of_lt (Nat.le_add_right _ (L / 2 ^ (64 - s))) (Nat.lt_trans p2 hV1)
  refine ⟨y * 2 ^ s, H * 2 ^ s, L / 2 ^ (64 - s), H * 2 ^ s + L / 2 ^ (64 - s), L * 2 ^ s % 18446744073709551616, y * 2 ^ s / 4294967296, y * 2 ^ s % 4294967296, L * 2 ^ s % 18446744073709551616 / 4294967296, L * 2 ^ s % 18446744073709551616 % 4294967296,
    by rw [pow_cast]; exact u64w _ hV1, by omega, and_low _ hV1, by rw [pow_cast]; exact u64w _ hH2, pow_div _ _, ?_, by rw [pow_cast, IntKind.wrap_u64]; exact (Int.natCast_emod _ _).symm, by omega, and_low _ (Nat.mod_lt _ (by omega)), by omega, by omega, by omega, by omega, by omega, p2, ?_⟩
  · rw [u64_or _ _ hH2 (by omega)]
    have e := Nat.two_pow_add_eq_or_of_lt (i := s) p3 H
    rw [Nat.mul_comm (2 ^ s) H] at e
    rw [← e]
  · have e : ∀ a b : Nat, a * 18446744073709551616 + b = (a * 4294967296 + b / 4294967296) * 4294967296 + b % 4294967296 := fun a b => by omega
    rw [← shift_div H L y s hy0, p1, ← e]
theorem quo_at (u y1 : Nat) (hu : u < 18446744073709551616) : IntKind.u64.wrap ((u : Int) / (y1 : Int)) = ((u / y1 : Nat) : Int) := by
  rw [← Int.natCast_ediv]; exact u64w _ (Nat.lt_of_le_of_lt (Nat.div_le_self _ _) hu)
theorem rem_at (u y1 q : Nat) (hu : u < 18446744073709551616) (hq : u / y1 = q) : IntKind.u64.wrap ((u : Int) - IntKind.u64.wrap ((q : Int) * (y1 : Int))) = ((u % y1 : Nat) : Int) := by
  have h := Nat.div_add_mod u y1
  rw [hq, Nat.mul_comm] at h
  rw [u64_mul q y1 (by omega), IntKind.wrap_u64]
  omega
theorem left_at (u d V q r : Nat) (h : u * 4294967296 + d = q * V + r) (hr : r < 18446744073709551616) :
    IntKind.u64.wrap (IntKind.u64.wrap (IntKind.u64.wrap ((u : Int) * 4294967296) + (d : Int)) - IntKind.u64.wrap ((q : Int) * (V : Int))) = (r : Int) := by
  rw [IntKind.wrap_u64, IntKind.wrap_u64, IntKind.wrap_u64, IntKind.wrap_u64, ← Int.natCast_mul q V]
  omega

/-- One round of a guess: above all digits; too much; the digit. -/
structure Less (u d y1 y0 Q R Q' R' : Nat) : Prop where
  eq : IntKind.u64.wrap ((Q : Int) - 1) = (Q' : Int)
  er : IntKind.u64.wrap ((R : Int) + (y1 : Int)) = (R' : Int)
  lt : Q' < Q
  g : Guess u d y1 y0 Q' R'
  stop : 4294967296 ≤ R' → Q' = (u * 4294967296 + d) / (y1 * 4294967296 + y0)
theorem less_of (u d y1 y0 Q R : Nat) (h1 : 2147483648 ≤ y1 ∧ y1 < 4294967296) (h0 : y0 < 4294967296) (hd : d < 4294967296) (hu : u < y1 * 4294967296 + y0) (g : Guess u d y1 y0 Q R) (hR : R < 4294967296)
    (hc : 4294967296 ≤ Q ∨ 4294967296 * R + d < Q * y0) : Less u d y1 y0 Q R (Q - 1) (R + y1) := by
  obtain ⟨a, b⟩ := guess_less u d y1 y0 Q R h1.1 hu hd g hc
  have hq := g.q1
  refine ⟨by rw [IntKind.wrap_u64]; omega, by rw [IntKind.wrap_u64]; omega, by omega, b, fun h => ?_⟩
  exact guess_end2 u d y1 y0 _ _ h1.1 h0 b (by omega) h
theorem guess_round (u d y1 y0 Q R : Nat) (h1 : 2147483648 ≤ y1 ∧ y1 < 4294967296) (h0 : y0 < 4294967296) (hd : d < 4294967296) (hu : u < y1 * 4294967296 + y0) (g : Guess u d y1 y0 Q R) (hR : R < 4294967296) :
    ((4294967296 : Int) ≤ Q ∧ ∃ Q' R', Less u d y1 y0 Q R Q' R') ∨
    (decide ((4294967296 : Int) ≤ Q) = false ∧ IntKind.u64.wrap (IntKind.u64.wrap (4294967296 * (R : Int)) + (d : Int)) < IntKind.u64.wrap ((Q : Int) * (y0 : Int)) ∧ ∃ Q' R', Less u d y1 y0 Q R Q' R') ∨
    (decide ((4294967296 : Int) ≤ Q) = false ∧ ¬ IntKind.u64.wrap (IntKind.u64.wrap (4294967296 * (R : Int)) + (d : Int)) < IntKind.u64.wrap ((Q : Int) * (y0 : Int)) ∧ Q = (u * 4294967296 + d) / (y1 * 4294967296 + y0)) := by
  by_cases hq : 4294967296 ≤ Q
  · exact .inl ⟨by omega, _, _, less_of u d y1 y0 Q R h1 h0 hd hu g hR (.inl hq)⟩
  · have hm : Q * y0 < 18446744073709551616 := by
      have := Nat.mul_le_mul (show Q ≤ 4294967295 by omega) (show y0 ≤ 4294967295 by omega)
      omega
    have e1 := u64_mul Q y0 hm
    have e2 : IntKind.u64.wrap (IntKind.u64.wrap (4294967296 * (R : Int)) + (d : Int)) = ((4294967296 * R + d : Nat) : Int) := by
      rw [IntKind.wrap_u64, IntKind.wrap_u64]; omega
    rw [e1, e2]
    by_cases hc : 4294967296 * R + d < Q * y0
    · exact .inr (.inl ⟨decide_eq_false (by omega), by omega, _, _, less_of u d y1 y0 Q R h1 h0 hd hu g hR (.inr hc)⟩)
    · exact .inr (.inr ⟨decide_eq_false (by omega), by omega, guess_end u d y1 y0 Q R h1.1 g (by omega)⟩)

/-- Behind the first digit. -/
theorem after_one (H L y s V H2 L2 u M y1 y0 d1 d0 : Nat) (h : Laid H L y s V H2 L2 u M y1 y0 d1 d0) (Q : Nat) (hQ : Q = (u * 4294967296 + d1) / (y1 * 4294967296 + y0)) :
    ∃ R qb rb : Nat, R < V ∧ R < 18446744073709551616 ∧
      IntKind.u64.wrap (IntKind.u64.wrap (IntKind.u64.wrap ((u : Int) * 4294967296) + (d1 : Int)) - IntKind.u64.wrap ((Q : Int) * (V : Int))) = (R : Int) ∧
      IntKind.u64.wrap ((R : Int) / (y1 : Int)) = (qb : Int) ∧ IntKind.u64.wrap ((R : Int) - IntKind.u64.wrap ((qb : Int) * (y1 : Int))) = (rb : Int) ∧ Guess R d0 y1 y0 qb rb ∧ rb < 4294967296 ∧
      ∀ Q0, Q0 = (R * 4294967296 + d0) / (y1 * 4294967296 + y0) →
        IntKind.u64.wrap (IntKind.u64.wrap ((Q : Int) * 4294967296) + (Q0 : Int)) = (((u * 4294967296 + d1) * 4294967296 + d0) / V : Nat) := by
  have hV := h.hV
  have h1 := h.h1
  have h0 := h.h0
  have hVb : V < 18446744073709551616 := by omega
  rw [← hV] at hQ ⊢
  obtain ⟨e1, e2⟩ := left_of u d1 V Q hQ (by omega)
  obtain ⟨R, hR⟩ : ∃ R, (u * 4294967296 + d1) % V = R := ⟨_, rfl⟩
  rw [hR] at e1 e2
  have hRb : R < 18446744073709551616 := by omega
  refine ⟨R, R / y1, R % y1, e2, hRb, left_at u d1 V Q R e1 hRb, quo_at R y1 hRb, rem_at R y1 _ hRb rfl, guess_start R d0 y1 y0 h1.1 h0 h.hd0 (by omega), by have := Nat.mod_lt R (show 0 < y1 by omega); omega, fun Q0 hQ0 => ?_⟩
  have hq1 := digit_lt u d1 V h.hd1 h.hu
  have hq0 := digit_lt R d0 V h.hd0 e2
  rw [← hQ] at hq1
  rw [← hQ0] at hq0
  rw [two_digits u d1 d0 V Q Q0 R h.hd0 e1 e2 hQ0, IntKind.wrap_u64, IntKind.wrap_u64]
  omega

set_option maxRecDepth 100000 in
set_option maxHeartbeats 4000000 in
theorem div64_high (H L y : Nat) (w : World) (hy0 : 0 < y) (hy : y < 9223372036854775808) (hH0 : 0 < H) (hH : H < y) (hL : L < 18446744073709551616) :
    Calls Tryd.prog 42 #[.int .u64 H, .int .u64 L, .int .u64 y] w (DivOut ((H * 18446744073709551616 + L) / y) w) := by
  obtain ⟨s, hs1, hs2, hs3, hV0, hV1⟩ := shift_top y hy0 hy
  have HLZ := Lib.hid (fun W => hs3 ▸ Tryd.bits_LeadingZeros64 y W (by omega) (by omega))
  obtain ⟨V, H2, L2, u, M, y1, y0, d1, d0, hl⟩ := laid_of H L y s hy0 hH hL hs1 hs2 hV0 hV1
  have HLD := Lib.hid hl
  have h1 : ((y : Int) == 0) = false := beq_eq_false_iff_ne.2 (by omega)
  have h2 : ¬ (y : Int) ≤ H := by omega
  have h3 : ((H : Int) == 0) = false := beq_eq_false_iff_ne.2 (by omega)
  have hnz : ¬ (y1 : Int) = 0 := by have := hl.h1; omega
  have ey := hl.ey
  have ey1 := hl.ey1
  have ey0 := hl.ey0
  have eh := hl.eh
  have eL := hl.eL
  have eu := hl.eu
  have el := hl.el
  have ed1 := hl.ed1
  have ed0 := hl.ed0
  have hw := hl.whole
  rw [hw]
  clear hw hs3 hV0 hV1 hy0 hy hL hl
  go_enter Tryd.func42, Tryd.ntmps42
  go_wp2_with (first
    | (go_at_call 53; refine (HLZ.out _).mono ?_; rintro e w2 ⟨rfl, rfl⟩))
  have hu64 : u < 18446744073709551616 := by have h := HLD.out; have := h.hu; have := h.hV; have := h.h1; have := h.h0; omega
  have hq := quo_at u y1 hu64
  have hr := rem_at u y1 _ hu64 rfl
  rw [hq, hr]
  have HG := Lib.hid (guess_start u d1 y1 y0 HLD.out.h1.1 HLD.out.h0 HLD.out.hd1 (by rw [← HLD.out.hV]; exact HLD.out.hu))
  have HRB := Lib.hid (Nat.mod_lt u (show 0 < y1 by have := HLD.out.h1; omega))
  obtain ⟨qa, hqa⟩ : ∃ qa, u / y1 = qa := ⟨_, rfl⟩
  obtain ⟨ra, hra⟩ : ∃ ra, u % y1 = ra := ⟨_, rfl⟩
  rw [hqa, hra] at HG ⊢
  rw [hra] at HRB
  clear hq hr hqa hra hu64
  have HAFTER := Lib.hid (after_one H L y s V H2 L2 u M y1 y0 d1 d0 HLD.out)
  go_loop [15, 16] (fun q r => ∃ Q R : Nat, q = .int .u64 Q ∧ r = .int .u64 R ∧ Hid (Guess u d1 y1 y0 Q R) ∧ Hid (R < 4294967296)) (fun q _ => (intOf q).toNat)
  case atStart => exact ⟨qa, ra, rfl, rfl, HG.out, Lib.hid (by have := HRB.out; have := HLD.out.h1; omega)⟩
  case round =>
    obtain ⟨Q, R, rfl, rfl, hg, hrb⟩ := hrel
    rcases guess_round u d1 y1 y0 Q R HLD.out.h1 HLD.out.h0 HLD.out.hd1 (by rw [← HLD.out.hV]; exact HLD.out.hu) hg.out hrb.out with ⟨h4, Q', R', hl4⟩ | ⟨h4, h44, Q', R', hl4⟩ | ⟨h4, h44, hQ⟩
    · obtain ⟨eq4, er4, lt4, g4, stop4⟩ := hl4
      have LT4 := Lib.hid lt4
      have G4 := Lib.hid g4
      have STOP4 := Lib.hid stop4
      clear lt4 g4 stop4
      by_cases hst4 : 4294967296 ≤ R'
      · have hi4 : (4294967296 : Int) ≤ R' := by omega
        obtain ⟨R2, qb, rb, hR2, hR264, e21, eq2, er2, hg2, hrb2, hfin⟩ := HAFTER.out Q' (STOP4.out hst4)
        have HR2 := Lib.hid hR2
        have HG2 := Lib.hid hg2
        have HRB2 := Lib.hid hrb2
        have HFIN := Lib.hid hfin
        clear hR2 hR264 hg2 hrb2 hfin
        go_wp2
        go_loop [18, 16] (fun q r => ∃ P T : Nat, q = .int .u64 P ∧ r = .int .u64 T ∧ Hid (Guess R2 d0 y1 y0 P T) ∧ Hid (T < 4294967296)) (fun q _ => (intOf q).toNat)
        case atStart => exact ⟨qb, rb, rfl, rfl, HG2.out, HRB2.out⟩
        case round =>
          obtain ⟨P, T, rfl, rfl, hg3, hrb3⟩ := hrel
          rcases guess_round R2 d0 y1 y0 P T HLD.out.h1 HLD.out.h0 HLD.out.hd0 (by rw [← HLD.out.hV]; exact HR2.out) hg3.out hrb3.out with ⟨h5, P', T', hl5⟩ | ⟨h5, h6, P', T', hl5⟩ | ⟨h5, h6, hP⟩
          · obtain ⟨eq5, er5, lt5, g5, stop5⟩ := hl5
            have LT5 := Lib.hid lt5
            have G5 := Lib.hid g5
            have STOP5 := Lib.hid stop5
            clear lt5 g5 stop5
            by_cases hst5 : 4294967296 ≤ T'
            · have ef := HFIN.out P' (STOP5.out hst5)
              have hi : (4294967296 : Int) ≤ T' := by omega
              go_wp2
              go_ret2
              exact ⟨⟨_, ret_pr rfl rfl⟩, 0, (World.drewN_zero _).symm⟩
            · have hi : ¬ (4294967296 : Int) ≤ T' := by omega
              go_wp2
              go_round
              case rel => exact ⟨P', T', rfl, rfl, G5.out, Lib.hid (by omega)⟩
              case measure => have := LT5.out; simp [intOf]; omega
          · obtain ⟨eq5, er5, lt5, g5, stop5⟩ := hl5
            have LT5 := Lib.hid lt5
            have G5 := Lib.hid g5
            have STOP5 := Lib.hid stop5
            clear lt5 g5 stop5
            by_cases hst5 : 4294967296 ≤ T'
            · have ef := HFIN.out P' (STOP5.out hst5)
              have hi : (4294967296 : Int) ≤ T' := by omega
              go_wp2
              go_ret2
              exact ⟨⟨_, ret_pr rfl rfl⟩, 0, (World.drewN_zero _).symm⟩
            · have hi : ¬ (4294967296 : Int) ≤ T' := by omega
              go_wp2
              go_round
              case rel => exact ⟨P', T', rfl, rfl, G5.out, Lib.hid (by omega)⟩
              case measure => have := LT5.out; simp [intOf]; omega
          · have ef := HFIN.out P hP
            clear hP
            go_wp2
            go_ret2
            exact ⟨⟨_, ret_pr rfl rfl⟩, 0, (World.drewN_zero _).symm⟩
      · have hi4 : ¬ (4294967296 : Int) ≤ R' := by omega
        go_wp2
        go_round
        case rel => exact ⟨Q', R', rfl, rfl, G4.out, Lib.hid (by omega)⟩
        case measure => have := LT4.out; simp [intOf]; omega
    · obtain ⟨eq4, er4, lt4, g4, stop4⟩ := hl4
      have LT4 := Lib.hid lt4
      have G4 := Lib.hid g4
      have STOP4 := Lib.hid stop4
      clear lt4 g4 stop4
      by_cases hst4 : 4294967296 ≤ R'
      · have hi4 : (4294967296 : Int) ≤ R' := by omega
        obtain ⟨R2, qb, rb, hR2, hR264, e21, eq2, er2, hg2, hrb2, hfin⟩ := HAFTER.out Q' (STOP4.out hst4)
        have HR2 := Lib.hid hR2
        have HG2 := Lib.hid hg2
        have HRB2 := Lib.hid hrb2
        have HFIN := Lib.hid hfin
        clear hR2 hR264 hg2 hrb2 hfin
        go_wp2
        go_loop [18, 16] (fun q r => ∃ P T : Nat, q = .int .u64 P ∧ r = .int .u64 T ∧ Hid (Guess R2 d0 y1 y0 P T) ∧ Hid (T < 4294967296)) (fun q _ => (intOf q).toNat)
        case atStart => exact ⟨qb, rb, rfl, rfl, HG2.out, HRB2.out⟩
        case round =>
          obtain ⟨P, T, rfl, rfl, hg3, hrb3⟩ := hrel
          rcases guess_round R2 d0 y1 y0 P T HLD.out.h1 HLD.out.h0 HLD.out.hd0 (by rw [← HLD.out.hV]; exact HR2.out) hg3.out hrb3.out with ⟨h5, P', T', hl5⟩ | ⟨h5, h6, P', T', hl5⟩ | ⟨h5, h6, hP⟩
          · obtain ⟨eq5, er5, lt5, g5, stop5⟩ := hl5
            have LT5 := Lib.hid lt5
            have G5 := Lib.hid g5
            have STOP5 := Lib.hid stop5
            clear lt5 g5 stop5
            by_cases hst5 : 4294967296 ≤ T'
            · have ef := HFIN.out P' (STOP5.out hst5)
              have hi : (4294967296 : Int) ≤ T' := by omega
              go_wp2
              go_ret2
              exact ⟨⟨_, ret_pr rfl rfl⟩, 0, (World.drewN_zero _).symm⟩
            · have hi : ¬ (4294967296 : Int) ≤ T' := by omega
              go_wp2
              go_round
              case rel => exact ⟨P', T', rfl, rfl, G5.out, Lib.hid (by omega)⟩
              case measure => have := LT5.out; simp [intOf]; omega
          · obtain ⟨eq5, er5, lt5, g5, stop5⟩ := hl5
            have LT5 := Lib.hid lt5
            have G5 := Lib.hid g5
            have STOP5 := Lib.hid stop5
            clear lt5 g5 stop5
            by_cases hst5 : 4294967296 ≤ T'
            · have ef := HFIN.out P' (STOP5.out hst5)
              have hi : (4294967296 : Int) ≤ T' := by omega
              go_wp2
              go_ret2
              exact ⟨⟨_, ret_pr rfl rfl⟩, 0, (World.drewN_zero _).symm⟩
            · have hi : ¬ (4294967296 : Int) ≤ T' := by omega
              go_wp2
              go_round
              case rel => exact ⟨P', T', rfl, rfl, G5.out, Lib.hid (by omega)⟩
              case measure => have := LT5.out; simp [intOf]; omega
          · have ef := HFIN.out P hP
            clear hP
            go_wp2
            go_ret2
            exact ⟨⟨_, ret_pr rfl rfl⟩, 0, (World.drewN_zero _).symm⟩
      · have hi4 : ¬ (4294967296 : Int) ≤ R' := by omega
        go_wp2
        go_round
        case rel => exact ⟨Q', R', rfl, rfl, G4.out, Lib.hid (by omega)⟩
        case measure => have := LT4.out; simp [intOf]; omega
    · obtain ⟨R2, qb, rb, hR2, hR264, e21, eq2, er2, hg2, hrb2, hfin⟩ := HAFTER.out Q hQ
      have HR2 := Lib.hid hR2
      have HG2 := Lib.hid hg2
      have HRB2 := Lib.hid hrb2
      have HFIN := Lib.hid hfin
      clear hR2 hR264 hg2 hrb2 hfin hQ
      go_wp2
      go_loop [18, 16] (fun q r => ∃ P T : Nat, q = .int .u64 P ∧ r = .int .u64 T ∧ Hid (Guess R2 d0 y1 y0 P T) ∧ Hid (T < 4294967296)) (fun q _ => (intOf q).toNat)
      case atStart => exact ⟨qb, rb, rfl, rfl, HG2.out, HRB2.out⟩
      case round =>
        obtain ⟨P, T, rfl, rfl, hg3, hrb3⟩ := hrel
        rcases guess_round R2 d0 y1 y0 P T HLD.out.h1 HLD.out.h0 HLD.out.hd0 (by rw [← HLD.out.hV]; exact HR2.out) hg3.out hrb3.out with ⟨h5, P', T', hl5⟩ | ⟨h5, h6, P', T', hl5⟩ | ⟨h5, h6, hP⟩
        · obtain ⟨eq5, er5, lt5, g5, stop5⟩ := hl5
          have LT5 := Lib.hid lt5
          have G5 := Lib.hid g5
          have STOP5 := Lib.hid stop5
          clear lt5 g5 stop5
          by_cases hst5 : 4294967296 ≤ T'
          · have ef := HFIN.out P' (STOP5.out hst5)
            have hi : (4294967296 : Int) ≤ T' := by omega
            go_wp2
            go_ret2
            exact ⟨⟨_, ret_pr rfl rfl⟩, 0, (World.drewN_zero _).symm⟩
          · have hi : ¬ (4294967296 : Int) ≤ T' := by omega
            go_wp2
            go_round
            case rel => exact ⟨P', T', rfl, rfl, G5.out, Lib.hid (by omega)⟩
            case measure => have := LT5.out; simp [intOf]; omega
        · obtain ⟨eq5, er5, lt5, g5, stop5⟩ := hl5
          have LT5 := Lib.hid lt5
          have G5 := Lib.hid g5
          have STOP5 := Lib.hid stop5
          clear lt5 g5 stop5
          by_cases hst5 : 4294967296 ≤ T'
          · have ef := HFIN.out P' (STOP5.out hst5)
            have hi : (4294967296 : Int) ≤ T' := by omega
            go_wp2
            go_ret2
            exact ⟨⟨_, ret_pr rfl rfl⟩, 0, (World.drewN_zero _).symm⟩
          · have hi : ¬ (4294967296 : Int) ≤ T' := by omega
            go_wp2
            go_round
            case rel => exact ⟨P', T', rfl, rfl, G5.out, Lib.hid (by omega)⟩
            case measure => have := LT5.out; simp [intOf]; omega
        · have ef := HFIN.out P hP
          clear hP
          go_wp2
          go_ret2
          exact ⟨⟨_, ret_pr rfl rfl⟩, 0, (World.drewN_zero _).symm⟩

theorem div64 (H L y : Nat) (w : World) (hy0 : 0 < y) (hy : y < 9223372036854775808) (hH : H < y) (hL : L < 18446744073709551616) :
    Calls Tryd.prog 42 #[.int .u64 H, .int .u64 L, .int .u64 y] w (DivOut ((H * 18446744073709551616 + L) / y) w) := by
  rcases Nat.eq_zero_or_pos H with h | h
  · subst h
    have e : ∀ K : Nat, 0 * K + L = L := fun K => by rw [Nat.zero_mul, Nat.zero_add]
    rw [e]
    exact div64_low L y w hy0 hy hL
  · exact div64_high H L y w hy0 hy h hH hL
end Go.Proofs.YtlpehpajfinjkaaDoor
