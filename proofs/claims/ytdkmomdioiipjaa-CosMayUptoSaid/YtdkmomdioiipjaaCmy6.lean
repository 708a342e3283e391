/- Contracts of functions that the law calls, and what they lean on (a part). -/
import Derived.Test.YtdkmomdioiipjaaCmy4
import Derived.Test.YtdkmomdioiipjaaCmy5
namespace Go.Proofs.Ytdkmomdioiipjaa
section
open Go.RowKit
set_option linter.unusedVariables false
set_option maxRecDepth 100000
/-- Cells in a row that read as objects, as entries. -/
def ObsC (w : World) (S : Nat → Prop) : Obs → List Value → Prop
  | .nil, cs => cs = []
  | .cons x xs, cs => ∃ c0 c1 c2 c3 c4 rest, cs = c0 :: c1 :: c2 :: c3 :: c4 :: rest ∧ ObR w S x c0 c1 c2 c3 c4 ∧ ObsC w S xs rest
def EnsC (w : World) (S : Nat → Prop) : Ens → List Value → Prop
  | .nil, cs => cs = []
  | .cons s x xs, cs => ∃ c0 c1 c2 c3 c4 rest, cs = .string s :: c0 :: c1 :: c2 :: c3 :: c4 :: rest ∧ ObR w S x c0 c1 c2 c3 c4 ∧ EnsC w S xs rest
section
variable {w w' : World} {S S' : Nat → Prop}
theorem ObsC.keep (hb : ∀ g, S g → w'.heap[g]? = w.heap[g]?) (hS : ∀ g, S g → S' g) : ∀ (l : Obs) (cs : List Value), ObsC w S l cs → ObsC w' S' l cs
  | .nil, cs, h => h
  | .cons x xs, cs, h => by
    obtain ⟨c0, c1, c2, c3, c4, rest, e, hx, hr⟩ := h
    exact ⟨c0, c1, c2, c3, c4, rest, e, ObR.keep hb hS x hx, ObsC.keep hb hS xs rest hr⟩
theorem EnsC.keep (hb : ∀ g, S g → w'.heap[g]? = w.heap[g]?) (hS : ∀ g, S g → S' g) : ∀ (l : Ens) (cs : List Value), EnsC w S l cs → EnsC w' S' l cs
  | .nil, cs, h => h
  | .cons s x xs, cs, h => by
    obtain ⟨c0, c1, c2, c3, c4, rest, e, hx, hr⟩ := h
    exact ⟨c0, c1, c2, c3, c4, rest, e, ObR.keep hb hS x hx, EnsC.keep hb hS xs rest hr⟩
end
theorem ObR.one {w : World} {S : Nat → Prop} : ∀ (x : Ob) {c0 c1 c2 c3 c4 : Value}, ObR w S x c0 c1 c2 c3 c4 → c0.oneCell' = true ∧ c1.oneCell' = true ∧ c2.oneCell' = true ∧ c3.oneCell' = true ∧ c4.oneCell' = true
  | .mk k n b l d, c0, c1, c2, c3, c4, h => by
    unfold ObR at h
    obtain ⟨rfl, rfl, _, _, ⟨A, m, c, rfl, _⟩, ⟨AL, cL, rfl, _⟩, ⟨AD, cD, rfl, _⟩⟩ := h
    exact ⟨rfl, rfl, rfl, rfl, rfl⟩
theorem row_ltN {w : World} {base e s n : Nat} {v : Value} {cs : List Value} (h : w.ownsRow base e s v n cs) (b : Nat) (hb : v.ownBlock = some b) : b < w.heap.size ∧ base ≤ b := by
  rcases h.2 with ⟨rfl, _⟩ | ⟨b', cap, cur, rfl, h2, hh, _⟩
  · cases hb
  · injection hb with hb
    dsimp only at hb
    subst hb
    refine ⟨?_, h2⟩
    rcases Nat.lt_or_ge b' w.heap.size with hlt | hge
    · exact hlt
    · rw [Array.getElem?_eq_none hge] at hh; cases hh
theorem row_sameN {w w' : World} {base e s n : Nat} {v : Value} {cs : List Value} (h : w.ownsRow base e s v n cs) (hk : ∀ b, v.ownBlock = some b → w'.heap[b]? = w.heap[b]?) : w'.ownsRow base e s v n cs := by
  refine ⟨h.1, ?_⟩
  rcases h.2 with h0 | ⟨b, cap, cur, hv, hb, hh, hr⟩
  · exact .inl h0
  · exact .inr ⟨b, cap, cur, hv, hb, (hk b (by rw [hv]; rfl)).trans hh, hr⟩
theorem row_shapeN {w : World} {base e s n : Nat} {v : Value} {cs : List Value} (h : w.ownsRow base e s v n cs) : ∃ A c, v = .slice A n c ∧ (n ≤ c ∧ c ≤ 9223372036854775807) ∧ (0 < n → ∃ g, A = some ⟨g, 0, none⟩ ∧ base ≤ g ∧ g < w.heap.size ∧ ∀ i u, cs[i]? = some u → w.cell? ⟨g, 0 + i, none⟩ = some u) := by
  have hlt := row_ltN h
  rcases h.2 with ⟨rfl, h0⟩ | ⟨g, cap, cur, rfl, hb, hh, hn, hm, hs, ht⟩
  · exact ⟨none, 0, by rw [h0], by omega, by omega⟩
  · refine ⟨some ⟨g, 0, none⟩, cap, rfl, ⟨hn, by simpa [maxLen] using hm⟩, fun _ => ⟨g, rfl, hb, (hlt g rfl).1, fun i u hu => ?_⟩⟩
    rw [cell_of_row w g _ cur e (0, 0) hh, Nat.zero_add]
    have hi := (List.getElem?_eq_some_iff.1 hu).1
    have h2 : (cur.toList.take (n * s))[i]? = some u := by rw [ht]; exact hu
    rw [List.getElem?_take_of_lt (by rw [← h.1]; exact hi)] at h2
    simpa using h2
theorem infoO : (Try.prog.info? 27).map (fun i => (i.zero, i.size, i.bytes)) = some (some (.agg #[.int .i64 0, .int .i64 0, .slice none 0 0, .slice none 0 0, .slice none 0 0]), 5, 88) := by kernel_rfl
theorem infoE : (Try.prog.info? 32).map (fun i => (i.zero, i.size, i.bytes)) = some (some (.agg #[.string ⟨#[]⟩, .int .i64 0, .int .i64 0, .slice none 0 0, .slice none 0 0, .slice none 0 0]), 6, 104) := by kernel_rfl
end
end Go.Proofs.Ytdkmomdioiipjaa
