/- What the document's own 'wide' answers: a times b, divided by c, cut; or that it is too great. -/
import Derived.Test.YtlpehpajfinjkaaDoorProg
import Derived.Test.YtlpehpajfinjkaaDoorRef2WideMath
import Derived.Outline
import Derived.LoopTactic
import Derived.WalkLawsBesides
namespace Go.Proofs.YtlpehpajfinjkaaDoor
open Go.RowKit
set_option linter.unusedVariables false

theorem ret_pairW {a b c d : Value} (h1 : a = b) (h2 : c = d) : Ending.returned (.tuple #[a, c]) = .returned (.tuple #[b, d]) := by rw [h1, h2]
/-- The quotient of N by c, or that it is too great. -/
def WideOut (N c : Nat) (w : World) (e : Ending) (w' : World) : Prop :=
  (N / c < 18446744073709551616 ∧ e = .returned (.tuple #[.int .u64 ((N / c : Nat) : Int), .bool true]) ∧ w = w') ∨ (18446744073709551616 ≤ N / c ∧ e = .returned (.tuple #[.int .u64 0, .bool false]) ∧ w = w')

set_option maxRecDepth 100000 in
set_option maxHeartbeats 4000000 in
theorem wide_any (a b c : Nat) (w : World) (ha : a < 9223372036854775808) (hb : b < 18446744073709551616) (hc0 : 0 < c) (hc : c < 9223372036854775808) :
    Calls Tryd.prog 49 #[.int .u64 a, .int .u64 b, .int .u64 c] w (WideOut (a * b) c w) := by
  have HC0 := Lib.hid hc0
  have HC := Lib.hid hc
  have HN : Hid (a * b < 2 ^ 128) := Lib.hid (by
    have h1 : a * b ≤ 9223372036854775808 * b := Nat.mul_le_mul_right _ (by omega)
    omega)
  clear hc0 hc
  have HA := Lib.hid ha
  have HB := Lib.hid hb
  clear ha hb
  go_enter Tryd.func49, Tryd.ntmps49
  go_wp2
  go_loop [8, 9, 10, 11] (fun hi lo i ws => ∃ (k H L : Nat), k ≤ 64 ∧ i = .int .i64 ((k : Int) - 1) ∧ hi = .int .u64 H ∧ lo = .int .u64 L ∧ Hid (Inv1 a b k H L)) (fun _ _ i _ => ((intOf i) + 1).toNat)
  case atStart => exact ⟨64, 0, 0, Nat.le_refl _, rfl, rfl, rfl, Lib.hid (r1_start a b HB.out)⟩
  case round =>
    obtain ⟨k, H, L, hk, rfl, rfl, rfl, hinv⟩ := hrel
    cases k with
    | zero =>
      have HAB : Hid (H * 18446744073709551616 + L = a * b) := Lib.hid (by have h := hinv.out.1; rw [Nat.pow_zero, Nat.div_one] at h; exact h)
      have HLL : Hid (L < 18446744073709551616) := Lib.hid hinv.out.2
      have HHH : Hid (H < 18446744073709551616) := Lib.hid (by
        have h1 : a * b ≤ 9223372036854775808 * b := Nat.mul_le_mul_right _ (by have := HA.out; omega)
        have h2 := HAB.out
        have h3 := HB.out
        omega)
      clear hinv
      go_wp2
      go_loop [12, 13, 14, 15, 16] (fun q r i bit over => ∃ (k Q R : Nat), k ≤ 128 ∧ i = .int .i64 ((k : Int) - 1) ∧ q = .int .u64 Q ∧ r = .int .u64 R ∧ Hid (Inv2 (a * b) c k Q R)) (fun _ _ i _ _ => ((intOf i) + 1).toNat)
      case atStart => exact ⟨128, 0, 0, Nat.le_refl _, rfl, rfl, rfl, Lib.hid (r2_start (a * b) c HC0.out HN.out)⟩
      case round =>
        obtain ⟨k, Q, R, hk, rfl, rfl, rfl, hinv⟩ := hrel
        cases k with
        | zero =>
          have he := r2_end hinv.out
          have HE1 := Lib.hid he.1
          have HE2 := Lib.hid he.2
          clear he
          go_wp2
          go_ret2
          exact Or.inl ⟨HE2.out, ret_pairW (by rw [HE1.out]; rfl) rfl, rfl⟩
        | succ j =>
          have e1 : ((j + 1 : Nat) : Int) - 1 = (j : Int) := by omega
          rw [e1]
          clear e1
          by_cases h64 : 64 ≤ j
          · have hE := @bitE_hi H L j HHH.out HLL.out h64
            rw [HAB.out] at hE
            have HEE := Lib.hid hE
            clear hE
            go_wp2
            · have ht := r2_top hinv.out (by assumption)
              go_ret2
              exact Or.inr ⟨ht, rfl, rfl⟩
            · exact absurd (by assumption) (fun h => r2_over HC.out hinv.out h)
            · have hor : ((R : Int) / 9223372036854775808 == 1) = true ∨ (c : Int) ≤ bits .or .u64 (IntKind.u64.wrap ((R : Int) * 2)) (bits .and .u64 ((H : Int) / 2 ^ (j - 64)) 1) := by assumption
              have hge : (c : Int) ≤ bits .or .u64 (IntKind.u64.wrap ((R : Int) * 2)) (bits .and .u64 ((H : Int) / 2 ^ (j - 64)) 1) := by
                rcases hor with h | h
                · exact (r2_over HC.out hinv.out (by simpa using h)).elim
                · exact h
              obtain ⟨Q', R', eQ, eR, hI⟩ := r2_sub HC.out hinv.out HEE.out (by assumption) hge
              go_round
              case rel => exact ⟨j, Q', R', by omega, rfl, by rw [eQ], by rw [eR], Lib.hid hI⟩
              case measure => simp [intOf]
            · have hor : ((R : Int) / 9223372036854775808 == 1) = false ∧ bits .or .u64 (IntKind.u64.wrap ((R : Int) * 2)) (bits .and .u64 ((H : Int) / 2 ^ (j - 64)) 1) < (c : Int) := by assumption
              obtain ⟨Q', R', eQ, eR, hI⟩ := r2_keep HC.out hinv.out HEE.out (by assumption) hor.2
              go_round
              case rel => exact ⟨j, Q', R', by omega, rfl, by rw [eQ], by rw [eR], Lib.hid hI⟩
              case measure => simp [intOf]
          · have h64' : j < 64 := by omega
            have hE := @bitE_lo H L j HLL.out h64'
            rw [HAB.out] at hE
            have HEE := Lib.hid hE
            clear hE
            go_wp2
            · have ht := r2_top hinv.out (by assumption)
              go_ret2
              exact Or.inr ⟨ht, rfl, rfl⟩
            · exact absurd (by assumption) (fun h => r2_over HC.out hinv.out h)
            · have hor : ((R : Int) / 9223372036854775808 == 1) = true ∨ (c : Int) ≤ bits .or .u64 (IntKind.u64.wrap ((R : Int) * 2)) (bits .and .u64 ((L : Int) / 2 ^ min (IntKind.u64.wrap (bits .and .i64 (j : Int) 63)).toNat 64) 1) := by assumption
              have hge : (c : Int) ≤ bits .or .u64 (IntKind.u64.wrap ((R : Int) * 2)) (bits .and .u64 ((L : Int) / 2 ^ min (IntKind.u64.wrap (bits .and .i64 (j : Int) 63)).toNat 64) 1) := by
                rcases hor with h | h
                · exact (r2_over HC.out hinv.out (by simpa using h)).elim
                · exact h
              obtain ⟨Q', R', eQ, eR, hI⟩ := r2_sub HC.out hinv.out HEE.out (by assumption) hge
              go_round
              case rel => exact ⟨j, Q', R', by omega, rfl, by rw [eQ], by rw [eR], Lib.hid hI⟩
              case measure => simp [intOf]
            · have hor : ((R : Int) / 9223372036854775808 == 1) = false ∧ bits .or .u64 (IntKind.u64.wrap ((R : Int) * 2)) (bits .and .u64 ((L : Int) / 2 ^ min (IntKind.u64.wrap (bits .and .i64 (j : Int) 63)).toNat 64) 1) < (c : Int) := by assumption
              obtain ⟨Q', R', eQ, eR, hI⟩ := r2_keep HC.out hinv.out HEE.out (by assumption) hor.2
              go_round
              case rel => exact ⟨j, Q', R', by omega, rfl, by rw [eQ], by rw [eR], Lib.hid hI⟩
              case measure => simp [intOf]
    | succ j =>
      have e1 : ((j + 1 : Nat) : Int) - 1 = (j : Int) := by omega
      rw [e1]
      clear e1
      go_wp2
      · obtain ⟨H', L', eH, eL, hI⟩ := r1_carry a b j H L HA.out HB.out hinv.out (by assumption) (by assumption)
        go_round
        case rel => exact ⟨j, H', L', by omega, rfl, by rw [eH], by rw [eL], Lib.hid hI⟩
        case measure => simp [intOf]
      · obtain ⟨H', L', eH, eL, hI⟩ := r1_one a b j H L HA.out HB.out hinv.out (by assumption) (by assumption)
        go_round
        case rel => exact ⟨j, H', L', by omega, rfl, by rw [eH], by rw [eL], Lib.hid hI⟩
        case measure => simp [intOf]
      · obtain ⟨H', L', eH, eL, hI⟩ := r1_zero a b j H L HA.out HB.out hinv.out (by assumption)
        go_round
        case rel => exact ⟨j, H', L', by omega, rfl, by rw [eH], by rw [eL], Lib.hid hI⟩
        case measure => simp [intOf]
end Go.Proofs.YtlpehpajfinjkaaDoor
