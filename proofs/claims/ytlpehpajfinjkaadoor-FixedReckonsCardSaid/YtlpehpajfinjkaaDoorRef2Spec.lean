/- Chapter 2's numbers as the laws ask of them: mulS, divS, addP; the document's own Mul, Div, Add in that form. -/
import Derived.Test.YtlpehpajfinjkaaDoorRef2Back
import Derived.Test.YtlpehpajfinjkaaDoorRef2Add
namespace Go.Proofs.YtlpehpajfinjkaaDoor
open Go.RowKit
set_option linter.unusedVariables false

theorem Ints.more {w : World} {B B' n c : Nat} {A : Option Addr} {zs : List Int} (h : Ints w B A n c zs) (hB : B ≤ B') : Ints w B' A n c zs :=
  ⟨h.len, h.cap, fun hn => by
    obtain ⟨b, o, e, hlt, hc⟩ := h.cell hn
    exact ⟨b, o, e, by omega, hc⟩⟩
/-- A number of the call's answer and whether there is one. -/
abbrev pairV (x : Int × Bool) : Value := .tuple #[.int .i64 x.1, .bool x.2]
def mulS (a b : Int) : Int × Bool := if inB a = true ∧ inB b = true then (numV ((a * b).tdiv 100000), inB ((a * b).tdiv 100000)) else (0, false)
def divS (a b : Int) : Int × Bool := if inB a = true ∧ inB b = true ∧ b ≠ 0 then (numV ((a * 100000).tdiv b), inB ((a * 100000).tdiv b)) else (0, false)
def addP (l : List Int) : Int × Bool := match addS 0 l with | some v => (v, true) | none => (0, false)
abbrev tripV (x : Int × Bool × Int) : Value := .tuple #[.int .i64 x.1, .bool x.2.1, .int .i64 x.2.2]

theorem refMul (a b : Int) (w : World) : Calls Tryd.prog 20 #[.int .i64 a, .int .i64 b] w fun e w' => e = .returned (pairV (mulS a b)) ∧ w = w' := by
  unfold mulS
  by_cases h : inB a = true ∧ inB b = true
  · rw [if_pos h]
    obtain ⟨h1, h2⟩ := (inB_iff a).1 h.1
    obtain ⟨h3, h4⟩ := (inB_iff b).1 h.2
    exact refMul_in a b w h1 h2 h3 h4
  · rw [if_neg h]
    exact refMul_out a b w (by cases ha : inB a <;> cases hb : inB b <;> simp_all)
theorem refDiv (a b : Int) (w : World) : Calls Tryd.prog 21 #[.int .i64 a, .int .i64 b] w fun e w' => e = .returned (pairV (divS a b)) ∧ w = w' := by
  unfold divS
  by_cases h : inB a = true ∧ inB b = true ∧ b ≠ 0
  · rw [if_pos h]
    obtain ⟨h1, h2⟩ := (inB_iff a).1 h.1
    obtain ⟨h3, h4⟩ := (inB_iff b).1 h.2.1
    exact refDiv_in a b w h1 h2 h3 h4 h.2.2
  · rw [if_neg h]
    refine refDiv_out a b w ?_
    cases ha : inB a
    · exact .inl rfl
    · cases hb : inB b
      · exact .inr (.inl rfl)
      · exact .inr (.inr (by simp_all))
theorem refAddP (A : Option Addr) (n c B : Nat) (zs : List Int) (w : World) (hz : Ints w B A n c zs) (hn : n ≤ 9223372036854775807) :
    Calls Tryd.prog 23 #[.slice A n c] w fun e w' => e = .returned (pairV (addP zs)) ∧ w = w' := by
  refine (refAdd A n c B zs w hz hn).mono fun e w' ⟨he, hw⟩ => ⟨?_, hw⟩
  rw [he]; unfold addP pairV
  cases addS 0 zs <;> rfl

end Go.Proofs.YtlpehpajfinjkaaDoor
