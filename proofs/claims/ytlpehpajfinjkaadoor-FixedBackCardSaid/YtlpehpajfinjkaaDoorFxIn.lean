/- What the project's fixed.In, size and Add answer. -/
import Derived.Test.YtlpehpajfinjkaaDoorRef2Spec
namespace Go.Proofs.YtlpehpajfinjkaaDoor
open Go.RowKit
set_option linter.unusedVariables false

theorem fxIn_yes (n : Int) (w : World) (h1 : -214748364799999 ≤ n) (h2 : n ≤ 214748364799999) :
    Calls Tryd.prog 18 #[.int .i64 n] w fun e w' => e = .returned (.bool true) ∧ w = w' := by
  go_enter Tryd.func18, Tryd.ntmps18
  go_wp2
  go_ret
  exact ⟨rfl, rfl⟩
theorem fxIn_no (n : Int) (w : World) (h : n < -214748364799999 ∨ 214748364799999 < n) :
    Calls Tryd.prog 18 #[.int .i64 n] w fun e w' => e = .returned (.bool false) ∧ w = w' := by
  rcases h with h | h
  · have h1 : decide (-214748364799999 ≤ n) = false := decide_eq_false (by omega)
    go_enter Tryd.func18, Tryd.ntmps18
    go_wp2
    go_ret
    exact ⟨rfl, rfl⟩
  · have h0 : -214748364799999 ≤ n := by omega
    have h2 : decide (n ≤ 214748364799999) = false := decide_eq_false (by omega)
    go_enter Tryd.func18, Tryd.ntmps18
    go_wp2
    go_ret
    exact ⟨rfl, rfl⟩
theorem fxIn_any (n : Int) (w : World) : Calls Tryd.prog 18 #[.int .i64 n] w fun e w' => e = .returned (.bool (inB n)) ∧ w = w' := by
  by_cases h : -214748364799999 ≤ n ∧ n ≤ 214748364799999
  · rw [inB_true h.1 h.2]; exact fxIn_yes n w h.1 h.2
  · rw [inB_false (by omega)]; exact fxIn_no n w (by omega)

theorem fxSize (n : Int) (w : World) (h1 : -9223372036854775808 ≤ n) (h2 : n ≤ 9223372036854775807) :
    Calls Tryd.prog 34 #[.int .i64 n] w fun e w' => e = .returned (.int .u64 (n.natAbs : Int)) ∧ w = w' := by
  by_cases h0 : n < 0
  · go_enter Tryd.func34, Tryd.ntmps34
    go_wp2
    go_ret
    exact ⟨ret_intW (by rw [IntKind.wrap_u64, IntKind.wrap_u64]; omega), rfl⟩
  · go_enter Tryd.func34, Tryd.ntmps34
    go_wp2
    go_ret
    exact ⟨ret_intW (by omega), rfl⟩

theorem fxAdd0 (A : Option Addr) (n c B : Nat) (zs : List Int) (w : World) (hz : Ints w B A n c zs) (hn : n ≤ 9223372036854775807) :
    Calls Tryd.prog 22 #[.slice A n c] w (AddOut (addS 0 zs) w) := by
  have HZ := Lib.hid hz
  clear hz
  go_enter Tryd.func22, Tryd.ntmps22
  go_wp2
  go_loop [4, 9] (fun s i => ∃ (k : Nat) (acc : Int), k ≤ n ∧ i = .int .i64 k ∧ s = .int .i64 acc ∧ inB acc = true ∧ Hid (addS 0 zs = addS acc (zs.drop k))) (fun _ i => n - (intOf i).toNat)
  case atStart => exact ⟨0, 0, Nat.zero_le _, rfl, rfl, by decide, rfl⟩
  case round =>
    obtain ⟨k, acc, hk, rfl, rfl, hacc, hs⟩ := hrel
    have hab := (inB_iff acc).1 hacc
    by_cases hlt : k < n
    · obtain ⟨b, o, rfl, _, hc⟩ := HZ.out.cell (by omega)
      have ck := hc k hlt
      have hd := addS_drop acc zs k (by rw [HZ.out.len]; exact hlt)
      obtain ⟨x, hx⟩ : ∃ x, zs.getD k 0 = x := ⟨_, rfl⟩
      rw [hx] at ck hd
      have HD := Lib.hid hd
      clear hc hx hd
      obtain ⟨a1, a2⟩ := hab
      by_cases hx1 : -214748364799999 ≤ x ∧ x ≤ 214748364799999
      · obtain ⟨x1, x2⟩ := hx1
        by_cases hs1 : -214748364799999 ≤ acc + x ∧ acc + x ≤ 214748364799999
        · obtain ⟨s1, s2⟩ := hs1
          have HX := Lib.hid (fun W => fxIn_yes x W x1 x2)
          have HS := Lib.hid (fun W => fxIn_yes (acc + x) W s1 s2)
          have HR : Hid (addS 0 zs = addS (acc + x) (zs.drop (k + 1))) := Lib.hid (by rw [hs.out, HD.out, if_pos ⟨inB_true x1 x2, inB_true s1 s2⟩])
          have HI := Lib.hid (inB_true s1 s2)
          clear hacc
          go_wp2_with (first
            | (go_at_call 18; (with_reducible refine (HX.out _).mono ?_); rintro e w' ⟨rfl, rfl⟩)
            | (go_at_call 18; (with_reducible refine (HS.out _).mono ?_); rintro e w' ⟨rfl, rfl⟩))
          go_round
          case rel => exact ⟨k + 1, acc + x, by omega, by go_num, rfl, HI.out, HR⟩
          case measure => simp [intOf]; omega
        · have HX := Lib.hid (fun W => fxIn_yes x W x1 x2)
          have HS := Lib.hid (fun W => fxIn_no (acc + x) W (by omega))
          have HR : Hid (addS 0 zs = none) := Lib.hid (by rw [hs.out, HD.out, if_neg (fun h => by rw [inB_false (n := acc + x) (by omega)] at h; exact absurd h.2 (by simp))])
          clear hacc hs1
          go_wp2_with (first
            | (go_at_call 18; (with_reducible refine (HX.out _).mono ?_); rintro e w' ⟨rfl, rfl⟩)
            | (go_at_call 18; (with_reducible refine (HS.out _).mono ?_); rintro e w' ⟨rfl, rfl⟩))
          go_ret2
          exact ⟨by rw [HR.out]; rfl, rfl⟩
      · have HX := Lib.hid (fun W => fxIn_no x W (by omega))
        have HR : Hid (addS 0 zs = none) := Lib.hid (by rw [hs.out, HD.out, if_neg (fun h => by rw [inB_false (n := x) (by omega)] at h; exact absurd h.1 (by simp))])
        clear hacc hx1
        go_wp2_with (first
          | (go_at_call 18; (with_reducible refine (HX.out _).mono ?_); rintro e w' ⟨rfl, rfl⟩))
        go_ret2
        exact ⟨by rw [HR.out]; rfl, rfl⟩
    · have HR : Hid (addS 0 zs = some acc) := Lib.hid (by rw [hs.out, List.drop_of_length_le (by rw [HZ.out.len]; omega)]; rfl)
      clear hacc hab
      go_wp2
      go_ret2
      exact ⟨by rw [HR.out]; rfl, rfl⟩
end Go.Proofs.YtlpehpajfinjkaaDoor
