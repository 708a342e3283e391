/- Contracts of functions that the law calls, and what they lean on (a part). -/
import Derived.Test.YtpomkhcobpihmaaGreatPas4
import Derived.Test.YtpomkhcobpihmaaGreatPas5
namespace Go.Proofs.YtpomkhcobpihmaaGreat
section
open Go.RowKit
set_option linter.unusedVariables false
set_option maxRecDepth 100000
/-- A row of one's own stays where its block stays. -/
theorem Mine.same6 {w w' : World} {base p : Nat} {v : Value} {zs : List Int} (h : Mine w base v p zs) (hb : ∀ b, v.ownBlock = some b → b < w.heap.size → w'.heap[b]? = w.heap[b]?) : Mine w' base v p zs := by
  refine ⟨⟨h.own.1, ?_⟩, h.rng⟩
  rcases h.own.2 with h0 | ⟨b, cap, cur, hv, hbb, hh, hr⟩
  · exact .inl h0
  · refine .inr ⟨b, cap, cur, hv, hbb, ?_, hr⟩
    have hlt : b < w.heap.size := by
      rcases Nat.lt_or_ge b w.heap.size with hlt | hge
      · exact hlt
      · rw [Array.getElem?_eq_none hge] at hh; cases hh
    rw [hb b (by rw [hv]; rfl) hlt]
    exact hh
def skO (M : Nat) (out : List Int) (bad z : Int) : List Int := if bad = 0 ∧ out.length < M then out ++ [z] else out
def skE (M : Nat) (out : List Int) (bad : Int) : Int := if bad = 0 ∧ M ≤ out.length then 7 else bad
/-- The slice '.slice A n c' holds the numbers zs; where there is one, it lies below block B. -/
structure NumI (w : World) (B : Nat) (A : Option Addr) (n c : Nat) (zs : List Int) : Prop where
  len : zs.length = n
  cap : n ≤ c
  cell : 0 < n → ∃ b o, A = some ⟨b, o, none⟩ ∧ b < B ∧ ∀ i, i < n → w.cell? ⟨b, o + i, none⟩ = some (.int .i64 (zs.getD i 0))
theorem NumI.below {w w' : World} {B B' n c : Nat} {A : Option Addr} {zs : List Int} (h : NumI w B A n c zs) (hb : Below B' w w') (hB : B ≤ B') : NumI w' B A n c zs :=
  ⟨h.len, h.cap, fun hn => by
    obtain ⟨b, o, e, hlt, hc⟩ := h.cell hn
    exact ⟨b, o, e, hlt, fun i hi => (hb.cell (p := ⟨b, o + i, none⟩) (Nat.lt_of_lt_of_le hlt hB)).trans (hc i hi)⟩⟩
theorem NumI.keep {w w' : World} {B n c : Nat} {A : Option Addr} {zs : List Int} (h : NumI w B A n c zs) (hb : ∀ b o, A = some ⟨b, o, none⟩ → w'.heap[b]? = w.heap[b]?) : NumI w' B A n c zs :=
  ⟨h.len, h.cap, fun hn => by
    obtain ⟨b, o, e, hlt, hc⟩ := h.cell hn
    exact ⟨b, o, e, hlt, fun i hi => (World.cell?_of_block (a := ⟨b, o + i, none⟩) (hb b o e)).trans (hc i hi)⟩⟩
/-- v is a slice of the call's own, in a block from 'base' on, that holds the p numbers zs. -/
structure RowI (w : World) (base : Nat) (v : Value) (p : Nat) (zs : List Int) : Prop where
  own : w.ownsRow base 3 1 v p (zs.map (Value.int .i64))
section
variable {w w' : World} {base p : Nat} {v : Value} {zs : List Int}
theorem RowI.len (h : RowI w base v p zs) : zs.length = p := by have := h.own.1; simp at this; exact this
theorem RowI.nil (w : World) (base : Nat) : RowI w base (.slice none 0 0) 0 [] := ⟨⟨rfl, .inl ⟨rfl, rfl⟩⟩⟩
theorem RowI.drewN (h : RowI w base v p zs) (k : Nat) : RowI (w.drewN k) base v p zs := ⟨h.own⟩
theorem RowI.same (h : RowI w base v p zs) (hb : ∀ b, v.ownBlock = some b → b < w.heap.size → w'.heap[b]? = w.heap[b]?) : RowI w' base v p zs := by
  refine ⟨⟨h.own.1, ?_⟩⟩
  rcases h.own.2 with h0 | ⟨b, cap, cur, hv, hbb, hh, hr⟩
  · exact .inl h0
  · refine .inr ⟨b, cap, cur, hv, hbb, ?_, hr⟩
    have hlt : b < w.heap.size := by
      rcases Nat.lt_or_ge b w.heap.size with hlt | hge
      · exact hlt
      · rw [Array.getElem?_eq_none hge] at hh; cases hh
    rw [hb b (by rw [hv]; rfl) hlt]
    exact hh
theorem RowI.lt (h : RowI w base v p zs) (b : Nat) (hb : v.ownBlock = some b) : b < w.heap.size ∧ base ≤ b := by
  rcases h.own.2 with ⟨rfl, _⟩ | ⟨b', cap, cur, rfl, hbb, hh, _⟩
  · cases hb
  · injection hb with hb
    dsimp only at hb
    subst hb
    refine ⟨?_, hbb⟩
    rcases Nat.lt_or_ge b' w.heap.size with hlt | hge
    · exact hlt
    · rw [Array.getElem?_eq_none hge] at hh; cases hh
end
end

section
open Go.RowKit
set_option linter.unusedVariables false
set_option maxRecDepth 100000
/-- What k bytes leave of a sink. -/
def PutK (M : Nat) (ys out : List Int) (k : Nat) (out' : List Int) (b' : Int) : Prop := (b' = 0 ∧ out' = out ++ ys.take k ∧ out.length + k ≤ M) ∨ (b' = 7 ∧ M < out.length + k ∧ out'.length ≤ out.length + k)
theorem PutK.step {M : Nat} {ys out out' : List Int} {k : Nat} {b' : Int} (h : PutK M ys out k out' b') (z : Int) (hz : ys.take (k + 1) = ys.take k ++ [z]) (hk : (ys.take k).length = k) : PutK M ys out (k + 1) (skO M out' b' z) (skE M out' b') := by
  rcases h with ⟨rfl, rfl, h3⟩ | ⟨rfl, h2, h3⟩
  · unfold skO skE
    have hl : (out ++ ys.take k).length = out.length + k := by rw [List.length_append, hk]
    by_cases hlt : out.length + k < M
    · rw [if_pos ⟨rfl, by omega⟩, if_neg (by omega)]
      exact .inl ⟨rfl, by rw [hz, List.append_assoc], by omega⟩
    · rw [if_neg (by omega), if_pos ⟨rfl, by omega⟩]
      exact .inr ⟨rfl, by omega, by omega⟩
  · unfold skO skE
    rw [if_neg (by omega), if_neg (by omega)]
    exact .inr ⟨rfl, by omega, by omega⟩
end
end Go.Proofs.YtpomkhcobpihmaaGreat
