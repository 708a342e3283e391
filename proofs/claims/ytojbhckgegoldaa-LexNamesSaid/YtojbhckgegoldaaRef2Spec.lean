/- Chapter 2's numbers as the laws ask of them: mulS, divS, addP; the document's own Mul, Div, Add in that form. -/
import Derived.Test.YtojbhckgegoldaaRef2Back
import Derived.Test.YtojbhckgegoldaaRef2Add
namespace Go.Proofs.Ytojbhckgegoldaa
open Go.RowKit
set_option linter.unusedVariables false

theorem Ints.more {w : World} {B B' n c : Nat} {A : Option Addr} {zs : List Int} (h : Ints w B A n c zs) (hB : B ≤ B') : Ints w B' A n c zs :=
  ⟨h.len, h.cap, fun hn => by
    obtain ⟨b, o, e, hlt, hc⟩ := h.cell hn
    exact ⟨b, o, e, by omega, hc⟩⟩
/-- A number of the call's answer and whether there is one. -/
abbrev pairV (x : Int × Bool) : Value := .tuple #[.int .i64 x.1, .bool x.2]
def mulS (a b : Int) : Int × Bool := if inB a = true ∧ inB b = true then (numV ((a * b).tdiv 100000), inB ((a * b).tdiv 100000)) else (0, false)
def divS (a b : Int) : Int × Bool := if inB a = true ∧ inB b = true ∧ b ≠ 0 then (numV ((a * 100000).tdiv b), inB ((a * 100000).tdiv b)) else (0, false)
def addP (l : List Int) : Int × Bool := match addS 0 l with | some v => (v, true) | none => (0, false)
abbrev tripV (x : Int × Bool × Int) : Value := .tuple #[.int .i64 x.1, .bool x.2.1, .int .i64 x.2.2]

end Go.Proofs.Ytojbhckgegoldaa
