/- A number, opened: it lies in its kind's bounds. -/
import Derived.Test.YtojbhckgegoldaaOpen
namespace Go.Proofs.Ytojbhckgegoldaa
open Go.ChangeShapes Go.WideShapes Go.ChangeAt Go.RowKit Go.Deep
set_option linter.unusedVariables false
set_option maxRecDepth 100000

theorem open_intk {H : Type} {enc : TypeId × Value → H} {W : World} {base : Nat} {sp : Nat → Bool} {held : Bool} {t : TypeId} {k : IntKind} {x : Int} {d : DataW H} {p : List MemPlace}
    (ht : Try.prog.underlying t = some (.int k)) (h : DataW.Trod enc Try.prog W base sp held t (.int k x) d p) : k.min ≤ x ∧ x ≤ k.max := by
  obtain ⟨fuel, hf⟩ := h
  obtain ⟨n, hc, _, hw⟩ := DataW.trod_int ht hf
  simp [Lit.wf] at hw
  simp [Value.cells] at hc
  subst hc
  exact hw
end Go.Proofs.Ytojbhckgegoldaa
