/- Contracts of functions that the law calls, and what they lean on (a part). -/
import Derived.Test.YtdkmomdioiipjaaCsa20
import Derived.Test.YtdkmomdioiipjaaCsa24
namespace Go.Proofs.Ytdkmomdioiipjaa
section
open Go.ChangeShapes Go.WideShapes Go.ChangeAt Go.RowKit Go.Deep
set_option linter.unusedVariables false
set_option maxRecDepth 100000
section
variable {H : Type} {enc : TypeId × Value → H} {W : World} {base : Nat} {sp : Nat → Bool} {held : Bool}
theorem open_obj {cs : Array Value} {d : DataW H} {p : List MemPlace} (h : DataW.Trod enc Try.prog W base sp held 27 (.agg cs) d p) (hsp : ∀ b, sp b = true) :
    ∃ x c0 c1 c2 c3 c4, cs = #[c0, c1, c2, c3, c4] ∧ ObR W (fun g => g < W.heap.size) x c0 c1 c2 c3 c4 := by
  obtain ⟨fuel, hf⟩ := h
  have hcl : (Value.agg cs).cells.toList = cs.toList := by simp [Value.cells]
  rw [hcl] at hf
  obtain ⟨x, c0, c1, c2, c3, c4, e, hx⟩ := open_ob hsp fuel _ _ hf
  exact ⟨x, c0, c1, c2, c3, c4, by cases cs; simp_all, hx⟩
end
/-- Blocks from lo on, ahead of hi, may have other values; all else is as it was. -/
structure Zn (lo hi : Nat) (w w' : World) : Prop where
  os : w'.os = w.os
  tape : w'.tape = w.tape
  output : w'.output = w.output
  size : w'.heap.size = w.heap.size
  block : ∀ i, (i < lo ∨ hi ≤ i) → w'.heap[i]? = w.heap[i]?
  pres : ∀ b o, (∃ v, w.cell? ⟨b, o, none⟩ = some v) → ∃ v, w'.cell? ⟨b, o, none⟩ = some v
  fz : ∀ b o, w'.frozen? ⟨b, o, none⟩ = w.frozen? ⟨b, o, none⟩
section
variable {lo hi : Nat} {w w' : World}
theorem Zn.refl : Zn lo hi w w := ⟨rfl, rfl, rfl, rfl, fun _ _ => rfl, fun _ _ h => h, fun _ _ => rfl⟩
theorem Zn.set (h : Zn lo hi w w') {g : Nat} (hg : lo ≤ g ∧ g < hi) (i : Nat) (v : Value) : Zn lo hi w (w'.setCell ⟨g, i, none⟩ v) := by
  refine ⟨h.os, h.tape, h.output, by simp [World.setCell, h.size], fun b hb => (set_blk9 w' g i b v (by omega)).trans (h.block b hb), fun b o hv => ?_, fun b o => ?_⟩
  · obtain ⟨u, hu⟩ := h.pres b o hv
    by_cases e : (⟨g, i, none⟩ : Addr) = ⟨b, o, none⟩
    · rw [← e] at hu ⊢
      exact ⟨v, World.cell?_setCell_same _ _ _ hu⟩
    · exact ⟨u, (World.cell?_setCell_other _ _ _ _ e).trans hu⟩
  · rw [← h.fz b o]
    by_cases hbg : b = g
    · subst hbg
      simp only [World.frozen?, World.setCell, Array.getElem?_modify]
      cases hh : w'.heap[b]? with
      | none => simp
      | some ob => cases ob <;> simp
    · exact frozen_blk (set_blk9 w' g i b v hbg)
theorem Zn.below (h : Zn lo hi w w') {B : Nat} (hb : B ≤ lo) : Below B w w' := ⟨h.os, h.tape, h.output, Nat.le_of_eq h.size.symm, fun k hk => h.block k (.inl (by omega))⟩
theorem Zn.set5 (h : Zn lo hi w w') {g : Nat} (hg : lo ≤ g ∧ g < hi) (i0 i1 i2 i3 i4 : Nat) (v0 v1 v2 v3 v4 : Value) : Zn lo hi w (((((w'.setCell ⟨g, i0, none⟩ v0).setCell ⟨g, i1, none⟩ v1).setCell ⟨g, i2, none⟩ v2).setCell ⟨g, i3, none⟩ v3).setCell ⟨g, i4, none⟩ v4) :=
  ((((h.set hg i0 v0).set hg i1 v1).set hg i2 v2).set hg i3 v3).set hg i4 v4
end
end
end Go.Proofs.Ytdkmomdioiipjaa
