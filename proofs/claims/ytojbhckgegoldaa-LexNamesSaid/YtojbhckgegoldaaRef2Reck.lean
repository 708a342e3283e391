/- What the document's own In, Add, Mul and Div (of chapter 2) answer. -/
import Derived.Test.YtojbhckgegoldaaRef2Wide
import Derived.Deep.DeepFit
namespace Go.Proofs.Ytojbhckgegoldaa
open Go.RowKit
set_option linter.unusedVariables false

theorem ret_intW {k : IntKind} {a b : Int} (h : a = b) : Ending.returned (.int k a) = .returned (.int k b) := by rw [h]
/-- May the number be? -/
def inB (n : Int) : Bool := decide (-214748364799999 ≤ n ∧ n ≤ 214748364799999)
theorem inB_true {n : Int} (h1 : -214748364799999 ≤ n) (h2 : n ≤ 214748364799999) : inB n = true := decide_eq_true ⟨h1, h2⟩
theorem inB_false {n : Int} (h : n < -214748364799999 ∨ 214748364799999 < n) : inB n = false := decide_eq_false (by omega)
theorem inB_iff (n : Int) : inB n = true ↔ (-214748364799999 ≤ n ∧ n ≤ 214748364799999) := by unfold inB; simp

theorem refIn_yes (n : Int) (w : World) (h1 : -214748364799999 ≤ n) (h2 : n ≤ 214748364799999) :
    Calls Try.prog 29 #[.int .i64 n] w fun e w' => e = .returned (.bool true) ∧ w = w' := by
  go_enter Try.func29, Try.ntmps29
  go_wp2
  go_ret
  exact ⟨rfl, rfl⟩
theorem refIn_no (n : Int) (w : World) (h : n < -214748364799999 ∨ 214748364799999 < n) :
    Calls Try.prog 29 #[.int .i64 n] w fun e w' => e = .returned (.bool false) ∧ w = w' := by
  rcases h with h | h
  · have h1 : decide (-214748364799999 ≤ n) = false := decide_eq_false (by omega)
    go_enter Try.func29, Try.ntmps29
    go_wp2
    go_ret
    exact ⟨rfl, rfl⟩
  · have h0 : -214748364799999 ≤ n := by omega
    have h2 : decide (n ≤ 214748364799999) = false := decide_eq_false (by omega)
    go_enter Try.func29, Try.ntmps29
    go_wp2
    go_ret
    exact ⟨rfl, rfl⟩
theorem refIn_any (n : Int) (w : World) : Calls Try.prog 29 #[.int .i64 n] w fun e w' => e = .returned (.bool (inB n)) ∧ w = w' := by
  by_cases h : -214748364799999 ≤ n ∧ n ≤ 214748364799999
  · rw [inB_true h.1 h.2]; exact refIn_yes n w h.1 h.2
  · rw [inB_false (by omega)]; exact refIn_no n w (by omega)

/-- A number that may be, or none. -/
def numV (t : Int) : Int := if inB t = true then t else 0
theorem numV_yes {t : Int} (h : inB t = true) : numV t = t := by unfold numV; rw [if_pos h]
theorem numV_no {t : Int} (h : inB t = false) : numV t = 0 := by unfold numV; rw [if_neg (by simp [h])]
def NumOut (t : Int) (w : World) (e : Ending) (w' : World) : Prop := e = .returned (.tuple #[.int .i64 (numV t), .bool (inB t)]) ∧ w = w'

theorem tdiv_nat (m n p : Nat) : ((m : Int) * (n : Int)).tdiv (p : Int) = ((m * n / p : Nat) : Int) := by
  rw [← Int.natCast_mul, Int.ofNat_tdiv]
theorem tdiv_of (a b c : Int) : (a * b).tdiv c = if (((decide (a < 0)) != decide (b < 0)) != decide (c < 0)) = true then -((a.natAbs * b.natAbs / c.natAbs : Nat) : Int) else ((a.natAbs * b.natAbs / c.natAbs : Nat) : Int) := by
  have key : ∀ x : Int, x = if x < 0 then -(x.natAbs : Int) else (x.natAbs : Int) := fun x => by split <;> omega
  have t := tdiv_nat a.natAbs b.natAbs c.natAbs
  have ka := key a
  have kb := key b
  have kc := key c
  by_cases h1 : a < 0 <;> by_cases h2 : b < 0 <;> by_cases h3 : c < 0 <;>
    simp only [h1, h2, h3, if_true, if_false] at ka kb kc <;>
    (conv => lhs; rw [ka, kb, kc]) <;>
    simp [h1, h2, h3, Int.neg_mul, Int.mul_neg, Int.neg_tdiv, Int.tdiv_neg, t]
theorem tdiv_natAbs (a b c : Int) : ((a * b).tdiv c).natAbs = a.natAbs * b.natAbs / c.natAbs := by
  rw [tdiv_of]
  generalize a.natAbs * b.natAbs / c.natAbs = q
  split <;> omega

end Go.Proofs.Ytojbhckgegoldaa
