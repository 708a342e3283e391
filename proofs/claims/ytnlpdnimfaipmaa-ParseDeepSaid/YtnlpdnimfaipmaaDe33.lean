/- Contracts of functions that the law calls, and what they lean on (a part). -/
import Derived.Test.YtnlpdnimfaipmaaRows
import Derived.ProofKit
import Derived.OpenShut
import Derived.ShutString
import Derived.ChangeOld
import Derived.Deep.Slices
import Derived.Deep.Fields
import Derived.ChangeSame
import Derived.Test.YtnlpdnimfaipmaaDe3
namespace Go.Proofs.Ytnlpdnimfaipmaa
section
open Go.ChangeShapes Go.WideShapes Go.ChangeAt Go.RowKit Go.Deep
set_option linter.unusedVariables false
set_option maxRecDepth 100000
theorem own : ownKnob Try.prog.godebug = none := by kernel_rfl
theorem laidOut : laidOutB Try.prog = true := by kernel_rfl
end

section
open Go.ChangeShapes Go.WideShapes Go.ChangeAt Go.RowKit Go.Deep
set_option linter.unusedVariables false
set_option maxRecDepth 100000
theorem open_intk {H : Type} {enc : TypeId × Value → H} {W : World} {base : Nat} {sp : Nat → Bool} {held : Bool} {t : TypeId} {k : IntKind} {x : Int} {d : DataW H} {p : List MemPlace}
    (ht : Try.prog.underlying t = some (.int k)) (h : DataW.Trod enc Try.prog W base sp held t (.int k x) d p) : k.min ≤ x ∧ x ≤ k.max := by
  obtain ⟨fuel, hf⟩ := h
  obtain ⟨n, hc, _, hw⟩ := DataW.trod_int ht hf
  simp [Lit.wf] at hw
  simp [Value.cells] at hc
  subst hc
  exact hw
end
end Go.Proofs.Ytnlpdnimfaipmaa
