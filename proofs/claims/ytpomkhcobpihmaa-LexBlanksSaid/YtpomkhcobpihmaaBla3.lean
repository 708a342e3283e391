/- Contracts of functions that the law calls, and what they lean on (a part). -/
import Derived.Outline
import Derived.LoopTactic
import Derived.Lib.SlFresh
import Derived.OwnWalk
import Derived.Maps.AppendAt
import Derived.Lib.AppendZerosOnto
import Derived.Lib.SliceRun
import Derived.Lib.Walk
import Derived.Test.YtpomkhcobpihmaaBla1
namespace Go.Proofs.Ytpomkhcobpihmaa
section
open Go.RowKit
set_option linter.unusedVariables false
set_option maxRecDepth 100000
theorem info5 : (Try.prog.info? 5).map (fun i => (i.zero, i.size, i.bytes)) = some (some (.int .u8 0), 1, 1) := by kernel_rfl
/-- v is a slice of the call's own, in a block from 'base' on, that holds the p bytes zs. -/
structure Mine (w : World) (base : Nat) (v : Value) (p : Nat) (zs : List Int) : Prop where
  own : w.ownsRow base 5 1 v p (zs.map (Value.int .u8))
  rng : ∀ z ∈ zs, 0 ≤ z ∧ z < 256
section
variable {w w' : World} {base p : Nat} {v : Value} {zs : List Int}
theorem Mine.len (h : Mine w base v p zs) : zs.length = p := by have := h.own.1; simp at this; exact this
theorem Mine.nil (w : World) (base : Nat) : Mine w base (.slice none 0 0) 0 [] := ⟨⟨rfl, .inl ⟨rfl, rfl⟩⟩, fun _ h => by cases h⟩
theorem Mine.only (h : Mine w base v p zs) {g : Nat} (ho : Only g w w') (hg : g < base) : Mine w' base v p zs := by
  refine ⟨⟨h.own.1, ?_⟩, h.rng⟩
  rcases h.own.2 with h0 | ⟨b, cap, cur, hv, hb, hh, hr⟩
  · exact .inl h0
  · refine .inr ⟨b, cap, cur, hv, hb, ?_, hr⟩
    have hlt : b < w.heap.size := by
      rcases Nat.lt_or_ge b w.heap.size with hlt | hge
      · exact hlt
      · rw [Array.getElem?_eq_none hge] at hh; cases hh
    rw [ho.block b hlt (by omega)]
    exact hh
theorem Mine.drewN (h : Mine w base v p zs) (k : Nat) : Mine (w.drewN k) base v p zs := ⟨h.own, h.rng⟩
theorem Mine.byt (h : Mine w base v p zs) : ∃ A c, v = .slice A p c ∧ Byt w w.heap.size A p c zs := by
  rcases h.own.2 with ⟨rfl, h0⟩ | ⟨b, cap, cur, rfl, hb, hh, hnc, _⟩
  · subst h0
    exact ⟨none, 0, rfl, h.len, Nat.le_refl _, h.rng, fun h => absurd h (by omega)⟩
  · refine ⟨some ⟨b, 0, none⟩, cap, rfl, h.len, hnc, h.rng, fun h0 => ?_⟩
    have hlt : b < w.heap.size := by
      rcases Nat.lt_or_ge b w.heap.size with hlt | hge
      · exact hlt
      · rw [Array.getElem?_eq_none hge] at hh; cases hh
    refine ⟨b, 0, rfl, hlt, fun i hi => ?_⟩
    have hci := h.own.cells (g := b) rfl i (.int .u8 (zs.getD i 0)) (by simp [List.getD, h.len, hi])
    have e2 : (⟨b, 0, none⟩ : Addr).add i = ⟨b, 0 + i, none⟩ := by unfold Addr.add; split <;> simp_all
    rw [← e2]; exact hci
end
end

section
open Go.RowKit
set_option linter.unusedVariables false
set_option maxRecDepth 100000
mutual
/-- An object: its kind, its number, its bytes, its items, its entries. -/
inductive Ob where
  | mk (k n : Int) (b : List Int) (l : Obs) (d : Ens) : Ob
inductive Obs where
  | nil : Obs
  | cons (x : Ob) (xs : Obs) : Obs
inductive Ens where
  | nil : Ens
  | cons (s : ByteArray) (x : Ob) (xs : Ens) : Ens
end
end
end Go.Proofs.Ytpomkhcobpihmaa
