/- Contracts of functions that the law calls, and what they lean on (a part). -/
import Derived.Deep.QuietTactic
import Derived.BigQuiet
import Derived.Test.YtnlpdnimfaipmaaKn4
namespace Go.Proofs.Ytnlpdnimfaipmaa
section
open Go.RowKit
set_option linter.unusedVariables false
set_option maxRecDepth 100000
/-- Cells in a row that read as objects, as entries. -/
def ObsC (w : World) (S : Nat → Prop) : Obs → List Value → Prop
  | .nil, cs => cs = []
  | .cons x xs, cs => ∃ c0 c1 c2 c3 c4 rest, cs = c0 :: c1 :: c2 :: c3 :: c4 :: rest ∧ ObR w S x c0 c1 c2 c3 c4 ∧ ObsC w S xs rest
def EnsC (w : World) (S : Nat → Prop) : Ens → List Value → Prop
  | .nil, cs => cs = []
  | .cons s x xs, cs => ∃ c0 c1 c2 c3 c4 rest, cs = .string s :: c0 :: c1 :: c2 :: c3 :: c4 :: rest ∧ ObR w S x c0 c1 c2 c3 c4 ∧ EnsC w S xs rest
section
variable {w w' : World} {S S' : Nat → Prop}
theorem ObsC.keep (hb : ∀ g, S g → w'.heap[g]? = w.heap[g]?) (hS : ∀ g, S g → S' g) : ∀ (l : Obs) (cs : List Value), ObsC w S l cs → ObsC w' S' l cs
  | .nil, cs, h => h
  | .cons x xs, cs, h => by
    obtain ⟨c0, c1, c2, c3, c4, rest, e, hx, hr⟩ := h
    exact ⟨c0, c1, c2, c3, c4, rest, e, ObR.keep hb hS x hx, ObsC.keep hb hS xs rest hr⟩
theorem EnsC.keep (hb : ∀ g, S g → w'.heap[g]? = w.heap[g]?) (hS : ∀ g, S g → S' g) : ∀ (l : Ens) (cs : List Value), EnsC w S l cs → EnsC w' S' l cs
  | .nil, cs, h => h
  | .cons s x xs, cs, h => by
    obtain ⟨c0, c1, c2, c3, c4, rest, e, hx, hr⟩ := h
    exact ⟨c0, c1, c2, c3, c4, rest, e, ObR.keep hb hS x hx, EnsC.keep hb hS xs rest hr⟩
theorem ObsC.row : ∀ (l : Obs) (cs : List Value) (g o : Nat), ObsC w S l cs → (∀ i u, cs[i]? = some u → w.cell? ⟨g, o + i, none⟩ = some u) → ObsR w S l g o
  | .nil, cs, g, o, h, hc => by unfold ObsR; trivial
  | .cons x xs, cs, g, o, h, hc => by
    obtain ⟨c0, c1, c2, c3, c4, rest, e, hx, hr⟩ := h
    subst e
    unfold ObsR
    refine ⟨⟨c0, c1, c2, c3, c4, hc 0 c0 rfl, hc 1 c1 rfl, hc 2 c2 rfl, hc 3 c3 rfl, hc 4 c4 rfl, hx⟩, ObsC.row xs rest g (o + 5) hr (fun i u hu => ?_)⟩
    have := hc (i + 5) u (by simpa using hu)
    rw [show o + (i + 5) = o + 5 + i by omega] at this
    exact this
theorem EnsC.row : ∀ (l : Ens) (cs : List Value) (g o : Nat), EnsC w S l cs → (∀ i u, cs[i]? = some u → w.cell? ⟨g, o + i, none⟩ = some u) → EnsR w S l g o
  | .nil, cs, g, o, h, hc => by unfold EnsR; trivial
  | .cons s x xs, cs, g, o, h, hc => by
    obtain ⟨c0, c1, c2, c3, c4, rest, e, hx, hr⟩ := h
    subst e
    unfold EnsR
    refine ⟨⟨c0, c1, c2, c3, c4, hc 0 _ rfl, hc 1 c0 rfl, hc 2 c1 rfl, hc 3 c2 rfl, hc 4 c3 rfl, hc 5 c4 rfl, hx⟩, EnsC.row xs rest g (o + 6) hr (fun i u hu => ?_)⟩
    have := hc (i + 6) u (by simpa using hu)
    rw [show o + (i + 6) = o + 6 + i by omega] at this
    exact this
end
theorem ObR.one {w : World} {S : Nat → Prop} : ∀ (x : Ob) {c0 c1 c2 c3 c4 : Value}, ObR w S x c0 c1 c2 c3 c4 → c0.oneCell' = true ∧ c1.oneCell' = true ∧ c2.oneCell' = true ∧ c3.oneCell' = true ∧ c4.oneCell' = true
  | .mk k n b l d, c0, c1, c2, c3, c4, h => by
    unfold ObR at h
    obtain ⟨rfl, rfl, _, _, ⟨A, m, c, rfl, _⟩, ⟨AL, cL, rfl, _⟩, ⟨AD, cD, rfl, _⟩⟩ := h
    exact ⟨rfl, rfl, rfl, rfl, rfl⟩
/-- A row of any elements of the call's own: its own block alone is written. -/
def ownS (T : Nat → Prop) (w : World) (base : Nat) (v : Value) : Nat → Prop := fun g => (T g ∨ base ≤ g) ∧ g < w.heap.size ∧ v.ownBlock ≠ some g
/-- A row of objects of the call's own. -/
def OwnO (T : Nat → Prop) (w : World) (base : Nat) (v : Value) (l : Obs) : Prop := ∃ cs, w.ownsRow base 27 5 v l.len cs ∧ ObsC w (ownS T w base v) l cs
/-- A row of entries of the call's own. -/
def OwnE (T : Nat → Prop) (w : World) (base : Nat) (v : Value) (d : Ens) : Prop := ∃ cs, w.ownsRow base 32 6 v d.len cs ∧ EnsC w (ownS T w base v) d cs
theorem row_ltN {w : World} {base e s n : Nat} {v : Value} {cs : List Value} (h : w.ownsRow base e s v n cs) (b : Nat) (hb : v.ownBlock = some b) : b < w.heap.size ∧ base ≤ b := by
  rcases h.2 with ⟨rfl, _⟩ | ⟨b', cap, cur, rfl, h2, hh, _⟩
  · cases hb
  · injection hb with hb
    dsimp only at hb
    subst hb
    refine ⟨?_, h2⟩
    rcases Nat.lt_or_ge b' w.heap.size with hlt | hge
    · exact hlt
    · rw [Array.getElem?_eq_none hge] at hh; cases hh
theorem row_sameN {w w' : World} {base e s n : Nat} {v : Value} {cs : List Value} (h : w.ownsRow base e s v n cs) (hk : ∀ b, v.ownBlock = some b → w'.heap[b]? = w.heap[b]?) : w'.ownsRow base e s v n cs := by
  refine ⟨h.1, ?_⟩
  rcases h.2 with h0 | ⟨b, cap, cur, hv, hb, hh, hr⟩
  · exact .inl h0
  · exact .inr ⟨b, cap, cur, hv, hb, (hk b (by rw [hv]; rfl)).trans hh, hr⟩
theorem row_shapeN {w : World} {base e s n : Nat} {v : Value} {cs : List Value} (h : w.ownsRow base e s v n cs) : ∃ A c, v = .slice A n c ∧ (n ≤ c ∧ c ≤ 9223372036854775807) ∧ (0 < n → ∃ g, A = some ⟨g, 0, none⟩ ∧ base ≤ g ∧ g < w.heap.size ∧ ∀ i u, cs[i]? = some u → w.cell? ⟨g, 0 + i, none⟩ = some u) := by
  have hlt := row_ltN h
  rcases h.2 with ⟨rfl, h0⟩ | ⟨g, cap, cur, rfl, hb, hh, hn, hm, hs, ht⟩
  · exact ⟨none, 0, by rw [h0], by omega, by omega⟩
  · refine ⟨some ⟨g, 0, none⟩, cap, rfl, ⟨hn, by simpa [maxLen] using hm⟩, fun _ => ⟨g, rfl, hb, (hlt g rfl).1, fun i u hu => ?_⟩⟩
    rw [cell_of_row w g _ cur e (0, 0) hh, Nat.zero_add]
    have hi := (List.getElem?_eq_some_iff.1 hu).1
    have h2 : (cur.toList.take (n * s))[i]? = some u := by rw [ht]; exact hu
    rw [List.getElem?_take_of_lt (by rw [← h.1]; exact hi)] at h2
    simpa using h2
section
variable {T : Nat → Prop} {w w' : World} {base : Nat} {v v' : Value} {l : Obs} {d : Ens}
theorem OwnO.nil (T : Nat → Prop) (w : World) (base : Nat) : OwnO T w base (.slice none 0 0) .nil := ⟨[], ⟨rfl, .inl ⟨rfl, rfl⟩⟩, rfl⟩
theorem OwnE.nil (T : Nat → Prop) (w : World) (base : Nat) : OwnE T w base (.slice none 0 0) .nil := ⟨[], ⟨rfl, .inl ⟨rfl, rfl⟩⟩, rfl⟩
/-- What a call leaves that changes nothing of what was there. -/
theorem OwnO.low (h : OwnO T w base v l) (hb : Below w.heap.size w w') : OwnO T w' base v l := by
  obtain ⟨cs, h1, h2⟩ := h
  exact ⟨cs, row_sameN h1 (fun b hb' => hb.block b (row_ltN h1 b hb').1), ObsC.keep (fun g hg => hb.block g hg.2.1) (fun g hg => ⟨hg.1, Nat.lt_of_lt_of_le hg.2.1 hb.size, hg.2.2⟩) l cs h2⟩
theorem OwnE.low (h : OwnE T w base v d) (hb : Below w.heap.size w w') : OwnE T w' base v d := by
  obtain ⟨cs, h1, h2⟩ := h
  exact ⟨cs, row_sameN h1 (fun b hb' => hb.block b (row_ltN h1 b hb').1), EnsC.keep (fun g hg => hb.block g hg.2.1) (fun g hg => ⟨hg.1, Nat.lt_of_lt_of_le hg.2.1 hb.size, hg.2.2⟩) d cs h2⟩
end
end
end Go.Proofs.Ytnlpdnimfaipmaa
