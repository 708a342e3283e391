/- Contracts of functions that the law calls, and what they lean on (a part). -/
import Derived.Test.YtpomkhcobpihmaaBla4
import Derived.Test.YtpomkhcobpihmaaBla5
namespace Go.Proofs.Ytpomkhcobpihmaa
section
open Go.RowKit
set_option linter.unusedVariables false
set_option maxRecDepth 100000
/-- A row of one's own stays where its block stays. -/
theorem Mine.same6 {w w' : World} {base p : Nat} {v : Value} {zs : List Int} (h : Mine w base v p zs) (hb : ∀ b, v.ownBlock = some b → b < w.heap.size → w'.heap[b]? = w.heap[b]?) : Mine w' base v p zs := by
  refine ⟨⟨h.own.1, ?_⟩, h.rng⟩
  rcases h.own.2 with h0 | ⟨b, cap, cur, hv, hbb, hh, hr⟩
  · exact .inl h0
  · refine .inr ⟨b, cap, cur, hv, hbb, ?_, hr⟩
    have hlt : b < w.heap.size := by
      rcases Nat.lt_or_ge b w.heap.size with hlt | hge
      · exact hlt
      · rw [Array.getElem?_eq_none hge] at hh; cases hh
    rw [hb b (by rw [hv]; rfl) hlt]
    exact hh
end
end Go.Proofs.Ytpomkhcobpihmaa
