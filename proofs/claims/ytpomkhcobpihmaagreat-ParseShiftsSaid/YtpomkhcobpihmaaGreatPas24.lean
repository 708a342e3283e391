/- Contracts of functions that the law calls, and what they lean on (a part). -/
import Derived.Deep.RegionHeld3
import Derived.Test.YtpomkhcobpihmaaGreatPas12
import Derived.Test.YtpomkhcobpihmaaGreatPas23
namespace Go.Proofs.YtpomkhcobpihmaaGreat
section
open Go.RowKit
set_option linter.unusedVariables false
set_option maxRecDepth 100000
/-- What a call answers that makes an object in new memory. -/
def CpP (w : World) (x : Ob) (r : Ending) (w' : World) : Prop := ∃ d0 d1 d2 d3 d4, r = .returned (.agg #[d0, d1, d2, d3, d4]) ∧ ObR w' (fun g => w.heap.size ≤ g ∧ g < w'.heap.size) x d0 d1 d2 d3 d4 ∧ Below w.heap.size w w'
abbrev noneT : Nat → Prop := fun _ => False
abbrev S1 (w : World) (base gO : Nat) : Nat → Prop := fun g => w.heap.size + 1 < g ∧ g < base ∧ g ≠ gO
theorem Mine.bytS {w : World} {base n : Nat} {v : Value} {zs : List Int} (h : Mine w base v n zs) : ∃ A c, v = .slice A n c ∧ BytS w (fun g => base ≤ g ∧ g < w.heap.size) A n c zs := by
  obtain ⟨A, c, e, hc, hx⟩ := row_shapeN h.own
  have hl := h.len
  refine ⟨A, c, e, hl, ⟨hc.1, Nat.le_trans hc.1 hc.2⟩, h.rng, fun h0 => ?_⟩
  obtain ⟨g, e1, hb, hlt, hcell⟩ := hx h0
  refine ⟨g, 0, e1, ⟨hb, hlt⟩, fun i hi => hcell i _ ?_⟩
  simp [List.getD, hl, hi]
theorem BytS.byt {w : World} {S : Nat → Prop} {A : Option Addr} {n c : Nat} {zs : List Int} (h : BytS w S A n c zs) (hS : ∀ g, S g → g < w.heap.size) : Byt w w.heap.size A n c zs := by
  obtain ⟨h1, h2, h3, h4⟩ := h
  exact ⟨h1, h2.1, h3, fun h0 => by obtain ⟨g, o, e, hg, hc⟩ := h4 h0; exact ⟨g, o, e, hS g hg, hc⟩⟩
/-- The state: the argument's block, the answer's, the block that is being filled. -/
structure CpS (w wr : World) (base gO : Nat) (bx : Array Value) (k n : Int) (AB : Option Addr) (mb cb : Nat) (b : List Int) (vL vD : Value) : Prop where
  low : Below w.heap.size w wr
  box : wr.heap[w.heap.size]? = some (.cells bx 27 (0, 0))
  res : wr.heap[w.heap.size + 1]? = some (.cells #[.int .i64 0, .int .i64 0, .slice none 0 0, .slice none 0 0, .slice none 0 0] 27 (0, 0))
  out : wr.heap[gO]? = some (.cells #[.int .i64 k, .int .i64 n, .slice AB mb cb, vL, vD] 27 (0, 0))
  byt : BytS wr (S1 w base gO) AB mb cb b
  g0 : w.heap.size + 1 < gO
  g1 : gO < base
  g2 : base ≤ wr.heap.size
section
variable {w wr wr' : World} {base gO mb cb : Nat} {bx : Array Value} {k n : Int} {AB : Option Addr} {b : List Int} {vL vD v : Value}
theorem CpS.step (h : CpS w wr base gO bx k n AB mb cb b vL vD) (hb : Below base wr wr') : CpS w wr' base gO bx k n AB mb cb b vL vD :=
  ⟨h.low.trans (hb.mono (by have := h.g0; have := h.g1; omega)), (hb.block _ (by have := h.g0; have := h.g1; omega)).trans h.box, (hb.block _ (by have := h.g0; have := h.g1; omega)).trans h.res, (hb.block _ h.g1).trans h.out, h.byt.keep (fun g hg => hb.block g hg.2.1) (fun _ hg => hg), h.g0, h.g1, Nat.le_trans h.g2 hb.size⟩
theorem set_blk9 (W : World) (g i x : Nat) (v : Value) (hne : x ≠ g) : (W.setCell ⟨g, i, none⟩ v).heap[x]? = W.heap[x]? := Below.heap_setCell W ⟨g, i, none⟩ v x hne
theorem CpS.more (h : CpS w wr base gO bx k n AB mb cb b vL vD) {base2 : Nat} (h1 : base ≤ base2) (h2 : base2 ≤ wr.heap.size) : CpS w wr base2 gO bx k n AB mb cb b vL vD :=
  ⟨h.low, h.box, h.res, h.out, h.byt.keep (fun _ _ => rfl) (fun g hg => ⟨hg.1, Nat.lt_of_lt_of_le hg.2.1 h1, hg.2.2⟩), h.g0, Nat.lt_of_lt_of_le h.g1 h1, h2⟩
theorem CpS.drew (h : CpS w wr base gO bx k n AB mb cb b vL vD) : CpS w wr.drew base gO bx k n AB mb cb b vL vD := h.step ((Below.refl base wr).drew)
end
section
variable {T : Nat → Prop} {w w' : World} {base : Nat} {v : Value} {l : Obs} {d : Ens}
theorem OwnO.drew (h : OwnO T w base v l) : OwnO T w.drew base v l := h.low ((Below.refl w.heap.size w).drew)
theorem OwnE.drew (h : OwnE T w base v d) : OwnE T w.drew base v d := h.low ((Below.refl w.heap.size w).drew)
theorem OwnO.owned (h : OwnO T w base v l) (b : Nat) (hb : v.ownBlock = some b) : base ≤ b := by obtain ⟨cs, h1, _⟩ := h; exact (row_ltN h1 b hb).2
theorem OwnE.owned (h : OwnE T w base v d) (b : Nat) (hb : v.ownBlock = some b) : base ≤ b := by obtain ⟨cs, h1, _⟩ := h; exact (row_ltN h1 b hb).2
theorem OwnO.ltB (h : OwnO T w base v l) (b : Nat) (hb : v.ownBlock = some b) : b < w.heap.size := by obtain ⟨cs, h1, _⟩ := h; exact (row_ltN h1 b hb).1
theorem OwnE.ltB (h : OwnE T w base v d) (b : Nat) (hb : v.ownBlock = some b) : b < w.heap.size := by obtain ⟨cs, h1, _⟩ := h; exact (row_ltN h1 b hb).1
end
/-- The items, once they are copied. -/
def LsP (w wr : World) (base gO : Nat) (l : Obs) (AV : Option Addr) : Prop := 0 < l.len → ∃ g o, AV = some ⟨g, o, none⟩ ∧ S1 w base gO g ∧ ObsR wr (S1 w base gO) l g o
theorem LsP.keep {w wr wr' : World} {base gO : Nat} {l : Obs} {AV : Option Addr} (h : LsP w wr base gO l AV) (hb : ∀ g, g < base → g ≠ gO → wr'.heap[g]? = wr.heap[g]?) : LsP w wr' base gO l AV := fun h0 => by
  obtain ⟨g, o, e, hg, hx⟩ := h h0
  exact ⟨g, o, e, hg, ObsR.keep (fun b hb' => hb b hb'.2.1 hb'.2.2) (fun _ h => h) l g o hg hg hx⟩
theorem blk_keep9 {W W' : World} {g : Nat} {o : Obj} (hb : Below W.heap.size W W') (h : W.heap[g]? = some o) : W'.heap[g]? = some o := (hb.block g (row_lt W g o h)).trans h
end
end Go.Proofs.YtpomkhcobpihmaaGreat
