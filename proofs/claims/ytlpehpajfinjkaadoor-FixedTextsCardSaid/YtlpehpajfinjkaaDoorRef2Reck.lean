/- What the document's own In, Add, Mul and Div (of chapter 2) answer. -/
import Derived.Test.YtlpehpajfinjkaaDoorRef2Wide
import Derived.Deep.DeepFit
namespace Go.Proofs.YtlpehpajfinjkaaDoor
open Go.RowKit
set_option linter.unusedVariables false

theorem ret_intW {k : IntKind} {a b : Int} (h : a = b) : Ending.returned (.int k a) = .returned (.int k b) := by rw [h]
/-- May the number be? -/
def inB (n : Int) : Bool := decide (-214748364799999 ≤ n ∧ n ≤ 214748364799999)
theorem inB_true {n : Int} (h1 : -214748364799999 ≤ n) (h2 : n ≤ 214748364799999) : inB n = true := decide_eq_true ⟨h1, h2⟩
theorem inB_false {n : Int} (h : n < -214748364799999 ∨ 214748364799999 < n) : inB n = false := decide_eq_false (by omega)
theorem inB_iff (n : Int) : inB n = true ↔ (-214748364799999 ≤ n ∧ n ≤ 214748364799999) := by unfold inB; simp

theorem refIn_yes (n : Int) (w : World) (h1 : -214748364799999 ≤ n) (h2 : n ≤ 214748364799999) :
    Calls Tryd.prog 19 #[.int .i64 n] w fun e w' => e = .returned (.bool true) ∧ w = w' := by
  go_enter Tryd.func19, Tryd.ntmps19
  go_wp2
  go_ret
  exact ⟨rfl, rfl⟩
theorem refIn_no (n : Int) (w : World) (h : n < -214748364799999 ∨ 214748364799999 < n) :
    Calls Tryd.prog 19 #[.int .i64 n] w fun e w' => e = .returned (.bool false) ∧ w = w' := by
  rcases h with h | h
  · have h1 : decide (-214748364799999 ≤ n) = false := decide_eq_false (by omega)
    go_enter Tryd.func19, Tryd.ntmps19
    go_wp2
    go_ret
    exact ⟨rfl, rfl⟩
  · have h0 : -214748364799999 ≤ n := by omega
    have h2 : decide (n ≤ 214748364799999) = false := decide_eq_false (by omega)
    go_enter Tryd.func19, Tryd.ntmps19
    go_wp2
    go_ret
    exact ⟨rfl, rfl⟩
theorem refIn_any (n : Int) (w : World) : Calls Tryd.prog 19 #[.int .i64 n] w fun e w' => e = .returned (.bool (inB n)) ∧ w = w' := by
  by_cases h : -214748364799999 ≤ n ∧ n ≤ 214748364799999
  · rw [inB_true h.1 h.2]; exact refIn_yes n w h.1 h.2
  · rw [inB_false (by omega)]; exact refIn_no n w (by omega)

theorem refAbs (n : Int) (w : World) (h1 : -214748364799999 ≤ n) (h2 : n ≤ 214748364799999) :
    Calls Tryd.prog 50 #[.int .i64 n] w fun e w' => e = .returned (.int .u64 (n.natAbs : Int)) ∧ w = w' := by
  by_cases h0 : n < 0
  · go_enter Tryd.func50, Tryd.ntmps50
    go_wp2
    go_ret
    exact ⟨ret_intW (by omega), rfl⟩
  · go_enter Tryd.func50, Tryd.ntmps50
    go_wp2
    go_ret
    exact ⟨ret_intW (by omega), rfl⟩

/-- A number that may be, or none. -/
def numV (t : Int) : Int := if inB t = true then t else 0
theorem numV_yes {t : Int} (h : inB t = true) : numV t = t := by unfold numV; rw [if_pos h]
theorem numV_no {t : Int} (h : inB t = false) : numV t = 0 := by unfold numV; rw [if_neg (by simp [h])]
def NumOut (t : Int) (w : World) (e : Ending) (w' : World) : Prop := e = .returned (.tuple #[.int .i64 (numV t), .bool (inB t)]) ∧ w = w'

theorem wide_lt (a b c : Nat) (w : World) (ha : a < 9223372036854775808) (hb : b < 18446744073709551616) (hc0 : 0 < c) (hc : c < 9223372036854775808) (h : a * b / c < 18446744073709551616) (q : Nat) (hq : q = a * b / c) :
    Calls Tryd.prog 49 #[.int .u64 a, .int .u64 b, .int .u64 c] w fun e w' => e = .returned (.tuple #[.int .u64 q, .bool true]) ∧ w = w' :=
  (wide_any a b c w ha hb hc0 hc).mono fun e w' hh => by
    rcases hh with ⟨_, he, hw⟩ | ⟨h2, _⟩
    · exact ⟨by rw [he, hq], hw⟩
    · omega
theorem wide_ge (a b c : Nat) (w : World) (ha : a < 9223372036854775808) (hb : b < 18446744073709551616) (hc0 : 0 < c) (hc : c < 9223372036854775808) (h : 18446744073709551616 ≤ a * b / c) :
    Calls Tryd.prog 49 #[.int .u64 a, .int .u64 b, .int .u64 c] w fun e w' => e = .returned (.tuple #[.int .u64 0, .bool false]) ∧ w = w' :=
  (wide_any a b c w ha hb hc0 hc).mono fun e w' hh => by
    rcases hh with ⟨h2, _⟩ | ⟨_, he, hw⟩
    · omega
    · exact ⟨he, hw⟩

theorem tdiv_nat (m n p : Nat) : ((m : Int) * (n : Int)).tdiv (p : Int) = ((m * n / p : Nat) : Int) := by
  rw [← Int.natCast_mul, Int.ofNat_tdiv]
theorem tdiv_of (a b c : Int) : (a * b).tdiv c = if (((decide (a < 0)) != decide (b < 0)) != decide (c < 0)) = true then -((a.natAbs * b.natAbs / c.natAbs : Nat) : Int) else ((a.natAbs * b.natAbs / c.natAbs : Nat) : Int) := by
  have key : ∀ x : Int, x = if x < 0 then -(x.natAbs : Int) else (x.natAbs : Int) := fun x => by split <;> omega
  have t := tdiv_nat a.natAbs b.natAbs c.natAbs
  have ka := key a
  have kb := key b
  have kc := key c
  by_cases h1 : a < 0 <;> by_cases h2 : b < 0 <;> by_cases h3 : c < 0 <;>
    simp only [h1, h2, h3, if_true, if_false] at ka kb kc <;>
    (conv => lhs; rw [ka, kb, kc]) <;>
    simp [h1, h2, h3, Int.neg_mul, Int.mul_neg, Int.neg_tdiv, Int.tdiv_neg, t]
theorem tdiv_natAbs (a b c : Int) : ((a * b).tdiv c).natAbs = a.natAbs * b.natAbs / c.natAbs := by
  rw [tdiv_of]
  generalize a.natAbs * b.natAbs / c.natAbs = q
  split <;> omega

set_option maxRecDepth 100000 in
set_option maxHeartbeats 1000000 in
theorem refScaled (a b c : Int) (w : World) (ha1 : -214748364799999 ≤ a) (ha2 : a ≤ 214748364799999) (hb1 : -214748364799999 ≤ b) (hb2 : b ≤ 214748364799999) (hc1 : -214748364799999 ≤ c) (hc2 : c ≤ 214748364799999) (hc0 : c ≠ 0) :
    Calls Tryd.prog 38 #[.int .i64 a, .int .i64 b, .int .i64 c] w (NumOut ((a * b).tdiv c) w) := by
  have hab := tdiv_natAbs a b c
  have htd := tdiv_of a b c
  obtain ⟨q, hq⟩ : ∃ q, a.natAbs * b.natAbs / c.natAbs = q := ⟨_, rfl⟩
  rw [hq] at hab htd
  have HTD := Lib.hid htd
  have HA := Lib.hid (fun W => refAbs a W ha1 ha2)
  have HB := Lib.hid (fun W => refAbs b W hb1 hb2)
  have HC := Lib.hid (fun W => refAbs c W hc1 hc2)
  by_cases hbig : 214748364799999 < q
  · have hno : inB ((a * b).tdiv c) = false := inB_false (by omega)
    have HNO := Lib.hid hno
    by_cases hvast : 18446744073709551616 ≤ q
    · have HW := Lib.hid (fun W => wide_ge a.natAbs b.natAbs c.natAbs W (by omega) (by omega) (by omega) (by omega) (by rw [hq]; exact hvast))
      clear hab htd hq hno hbig hvast ha1 ha2 hb1 hb2 hc1 hc2 hc0
      go_enter Tryd.func38, Tryd.ntmps38
      go_wp2_with (first
        | (go_at_call 50; (with_reducible refine (HA.out _).mono ?_); rintro e w' ⟨rfl, rfl⟩)
        | (go_at_call 50; (with_reducible refine (HB.out _).mono ?_); rintro e w' ⟨rfl, rfl⟩)
        | (go_at_call 50; (with_reducible refine (HC.out _).mono ?_); rintro e w' ⟨rfl, rfl⟩)
        | (go_at_call 49; (with_reducible refine (HW.out _).mono ?_); rintro e w' ⟨rfl, rfl⟩))
      go_ret2
      exact ⟨by rw [numV_no HNO.out, HNO.out]; rfl, rfl⟩
    · have hlt : q < 18446744073709551616 := by omega
      have HW := Lib.hid (fun W => wide_lt a.natAbs b.natAbs c.natAbs W (by omega) (by omega) (by omega) (by omega) (by rw [hq]; exact hlt) q hq.symm)
      have hb : (214748364799999 : Int) < q := by omega
      clear hab htd hq hno hbig hvast hlt ha1 ha2 hb1 hb2 hc1 hc2 hc0
      go_enter Tryd.func38, Tryd.ntmps38
      go_wp2_with (first
        | (go_at_call 50; (with_reducible refine (HA.out _).mono ?_); rintro e w' ⟨rfl, rfl⟩)
        | (go_at_call 50; (with_reducible refine (HB.out _).mono ?_); rintro e w' ⟨rfl, rfl⟩)
        | (go_at_call 50; (with_reducible refine (HC.out _).mono ?_); rintro e w' ⟨rfl, rfl⟩)
        | (go_at_call 49; (with_reducible refine (HW.out _).mono ?_); rintro e w' ⟨rfl, rfl⟩))
      go_ret2
      exact ⟨by rw [numV_no HNO.out, HNO.out]; rfl, rfl⟩
  · have hyes : inB ((a * b).tdiv c) = true := inB_true (by omega) (by omega)
    have HYES := Lib.hid hyes
    have HW := Lib.hid (fun W => wide_lt a.natAbs b.natAbs c.natAbs W (by omega) (by omega) (by omega) (by omega) (by rw [hq]; omega) q hq.symm)
    have hb : (q : Int) ≤ 214748364799999 := by omega
    clear hab htd hq hyes hbig ha1 ha2 hb1 hb2 hc1 hc2 hc0
    have htd2 := HTD.out
    rcases d1 : decide (a < 0) with _ | _ <;> rcases d2 : decide (b < 0) with _ | _ <;> rcases d3 : decide (c < 0) with _ | _
    all_goals
      have ht := htd2
      rw [d1, d2, d3] at ht
      simp at ht
      clear htd2
      have HT := Lib.hid ht
      clear ht
      go_enter Tryd.func38, Tryd.ntmps38
      go_wp2_with (first
        | (go_at_call 50; (with_reducible refine (HA.out _).mono ?_); rintro e w' ⟨rfl, rfl⟩)
        | (go_at_call 50; (with_reducible refine (HB.out _).mono ?_); rintro e w' ⟨rfl, rfl⟩)
        | (go_at_call 50; (with_reducible refine (HC.out _).mono ?_); rintro e w' ⟨rfl, rfl⟩)
        | (go_at_call 49; (with_reducible refine (HW.out _).mono ?_); rintro e w' ⟨rfl, rfl⟩))
      go_ret2
      exact ⟨by rw [numV_yes HYES.out, HYES.out, HT.out]; rfl, rfl⟩

theorem refMul_in (a b : Int) (w : World) (ha1 : -214748364799999 ≤ a) (ha2 : a ≤ 214748364799999) (hb1 : -214748364799999 ≤ b) (hb2 : b ≤ 214748364799999) :
    Calls Tryd.prog 20 #[.int .i64 a, .int .i64 b] w (NumOut ((a * b).tdiv 100000) w) := by
  have HA := Lib.hid (fun W => refIn_yes a W ha1 ha2)
  have HB := Lib.hid (fun W => refIn_yes b W hb1 hb2)
  have HS := Lib.hid (fun W => refScaled a b 100000 W ha1 ha2 hb1 hb2 (by omega) (by omega) (by omega))
  clear ha1 ha2 hb1 hb2
  go_enter Tryd.func20, Tryd.ntmps20
  go_wp2_with (first
    | (go_at_call 19; (with_reducible refine (HA.out _).mono ?_); rintro e w' ⟨rfl, rfl⟩)
    | (go_at_call 19; (with_reducible refine (HB.out _).mono ?_); rintro e w' ⟨rfl, rfl⟩)
    | (go_at_call 38; (with_reducible refine (HS.out _).mono ?_); rintro e w' ⟨rfl, rfl⟩))
  go_ret2
  exact ⟨rfl, rfl⟩
theorem refMul_out (a b : Int) (w : World) (h : inB a = false ∨ inB b = false) :
    Calls Tryd.prog 20 #[.int .i64 a, .int .i64 b] w fun e w' => e = .returned (.tuple #[.int .i64 0, .bool false]) ∧ w = w' := by
  have hA := fun W => refIn_any a W
  have hB := fun W => refIn_any b W
  rcases ha : inB a with _ | _
  · rw [ha] at hA
    have HA := Lib.hid hA
    clear hA hB h ha
    go_enter Tryd.func20, Tryd.ntmps20
    go_wp2_with (first
      | (go_at_call 19; (with_reducible refine (HA.out _).mono ?_); rintro e w' ⟨rfl, rfl⟩))
    go_ret2
    exact ⟨rfl, rfl⟩
  · have hb : inB b = false := by rcases h with h | h; rw [ha] at h; cases h; exact h
    rw [ha] at hA
    rw [hb] at hB
    have HA := Lib.hid hA
    have HB := Lib.hid hB
    clear hA hB h ha hb
    go_enter Tryd.func20, Tryd.ntmps20
    go_wp2_with (first
      | (go_at_call 19; (with_reducible refine (HB.out _).mono ?_); rintro e w' ⟨rfl, rfl⟩)
      | (go_at_call 19; (with_reducible refine (HA.out _).mono ?_); rintro e w' ⟨rfl, rfl⟩))
    go_ret2
    exact ⟨rfl, rfl⟩

theorem refDiv_in (a b : Int) (w : World) (ha1 : -214748364799999 ≤ a) (ha2 : a ≤ 214748364799999) (hb1 : -214748364799999 ≤ b) (hb2 : b ≤ 214748364799999) (hb0 : b ≠ 0) :
    Calls Tryd.prog 21 #[.int .i64 a, .int .i64 b] w (NumOut ((a * 100000).tdiv b) w) := by
  have HA := Lib.hid (fun W => refIn_yes a W ha1 ha2)
  have HB := Lib.hid (fun W => refIn_yes b W hb1 hb2)
  have HS := Lib.hid (fun W => refScaled a 100000 b W ha1 ha2 (by omega) (by omega) hb1 hb2 hb0)
  have hb3 : (b == 0) = false := by simpa using hb0
  clear ha1 ha2 hb1 hb2 hb0
  go_enter Tryd.func21, Tryd.ntmps21
  go_wp2_with (first
    | (go_at_call 19; (with_reducible refine (HA.out _).mono ?_); rintro e w' ⟨rfl, rfl⟩)
    | (go_at_call 19; (with_reducible refine (HB.out _).mono ?_); rintro e w' ⟨rfl, rfl⟩)
    | (go_at_call 38; (with_reducible refine (HS.out _).mono ?_); rintro e w' ⟨rfl, rfl⟩))
  go_ret2
  exact ⟨rfl, rfl⟩
theorem refDiv_out (a b : Int) (w : World) (h : inB a = false ∨ inB b = false ∨ b = 0) :
    Calls Tryd.prog 21 #[.int .i64 a, .int .i64 b] w fun e w' => e = .returned (.tuple #[.int .i64 0, .bool false]) ∧ w = w' := by
  have hA := fun W => refIn_any a W
  have hB := fun W => refIn_any b W
  rcases ha : inB a with _ | _
  · rw [ha] at hA
    have HA := Lib.hid hA
    clear hA hB h ha
    go_enter Tryd.func21, Tryd.ntmps21
    go_wp2_with (first
      | (go_at_call 19; (with_reducible refine (HA.out _).mono ?_); rintro e w' ⟨rfl, rfl⟩))
    go_ret2
    exact ⟨rfl, rfl⟩
  · rw [ha] at hA
    rcases hb : inB b with _ | _
    · rw [hb] at hB
      have HA := Lib.hid hA
      have HB := Lib.hid hB
      clear hA hB h ha hb
      go_enter Tryd.func21, Tryd.ntmps21
      go_wp2_with (first
        | (go_at_call 19; (with_reducible refine (HB.out _).mono ?_); rintro e w' ⟨rfl, rfl⟩)
        | (go_at_call 19; (with_reducible refine (HA.out _).mono ?_); rintro e w' ⟨rfl, rfl⟩))
      go_ret2
      exact ⟨rfl, rfl⟩
    · have hb0 : b = 0 := by
        rcases h with h | h | h
        · rw [ha] at h; cases h
        · rw [hb] at h; cases h
        · exact h
      subst hb0
      rw [hb] at hB
      have HA := Lib.hid hA
      have HB := Lib.hid hB
      clear hA hB h ha hb
      go_enter Tryd.func21, Tryd.ntmps21
      go_wp2_with (first
        | (go_at_call 19; (with_reducible refine (HB.out _).mono ?_); rintro e w' ⟨rfl, rfl⟩)
        | (go_at_call 19; (with_reducible refine (HA.out _).mono ?_); rintro e w' ⟨rfl, rfl⟩))
      go_ret2
      exact ⟨rfl, rfl⟩
end Go.Proofs.YtlpehpajfinjkaaDoor
