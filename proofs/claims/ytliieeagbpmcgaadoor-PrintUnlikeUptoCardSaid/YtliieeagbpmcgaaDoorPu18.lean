/- Contracts of functions that the law calls, and what they lean on (a part). -/
import Derived.Deep.RegionHeld3
import Derived.Test.YtliieeagbpmcgaaDoorPu6
import Derived.Test.YtliieeagbpmcgaaDoorPu17
namespace Go.Proofs.YtliieeagbpmcgaaDoor
section
open Go.RowKit
set_option linter.unusedVariables false
set_option maxRecDepth 100000
mutual
/-- No list is out of all measure. -/
def okO : Ob → Prop
  | .mk _ _ b l d => b.length ≤ 100000000 ∧ l.len ≤ 100000000 ∧ d.len ≤ 100000000 ∧ okL l ∧ okE d
def okL : Obs → Prop
  | .nil => True
  | .cons x xs => okO x ∧ okL xs
def okE : Ens → Prop
  | .nil => True
  | .cons _ x xs => okO x ∧ okE xs
end
theorem okL_get : ∀ (l : Obs) (i : Nat) (x : Ob), okL l → l.get? i = some x → okO x
  | .nil, i, x, _, h => by simp [Obs.get?] at h
  | .cons y xs, 0, x, hk, h => by
    simp [Obs.get?] at h; subst h; unfold okL at hk; exact hk.1
  | .cons y xs, i + 1, x, hk, h => by
    unfold okL at hk
    exact okL_get xs i x hk.2 (by simpa [Obs.get?] using h)
theorem okE_get : ∀ (l : Ens) (i : Nat) (s : ByteArray) (x : Ob), okE l → l.get? i = some (s, x) → okO x
  | .nil, i, s, x, _, h => by simp [Ens.get?] at h
  | .cons t y xs, 0, s, x, hk, h => by
    simp [Ens.get?] at h; obtain ⟨rfl, rfl⟩ := h; unfold okE at hk; exact hk.1
  | .cons t y xs, i + 1, s, x, hk, h => by
    unfold okE at hk
    exact okE_get xs i s x hk.2 (by simpa [Ens.get?] using h)
/-- What a call answers that makes an object in new memory. -/
def CpP (w : World) (x : Ob) (r : Ending) (w' : World) : Prop := ∃ d0 d1 d2 d3 d4, r = .returned (.agg #[d0, d1, d2, d3, d4]) ∧ ObR w' (fun g => w.heap.size ≤ g ∧ g < w'.heap.size) x d0 d1 d2 d3 d4 ∧ Below w.heap.size w w'
abbrev noneT : Nat → Prop := fun _ => False
abbrev S1 (w : World) (base gO : Nat) : Nat → Prop := fun g => w.heap.size + 1 < g ∧ g < base ∧ g ≠ gO
theorem Mine.bytS {w : World} {base n : Nat} {v : Value} {zs : List Int} (h : Mine w base v n zs) : ∃ A c, v = .slice A n c ∧ BytS w (fun g => base ≤ g ∧ g < w.heap.size) A n c zs := by
  obtain ⟨A, c, e, hc, hx⟩ := row_shapeN h.own
  have hl := h.len
  refine ⟨A, c, e, hl, ⟨hc.1, Nat.le_trans hc.1 hc.2⟩, h.rng, fun h0 => ?_⟩
  obtain ⟨g, e1, hb, hlt, hcell⟩ := hx h0
  refine ⟨g, 0, e1, ⟨hb, hlt⟩, fun i hi => hcell i _ ?_⟩
  simp [List.getD, hl, hi]
theorem BytS.byt {w : World} {S : Nat → Prop} {A : Option Addr} {n c : Nat} {zs : List Int} (h : BytS w S A n c zs) (hS : ∀ g, S g → g < w.heap.size) : Byt w w.heap.size A n c zs := by
  obtain ⟨h1, h2, h3, h4⟩ := h
  exact ⟨h1, h2.1, h3, fun h0 => by obtain ⟨g, o, e, hg, hc⟩ := h4 h0; exact ⟨g, o, e, hS g hg, hc⟩⟩
/-- The state: the argument's block, the answer's, the block that is being filled. -/
structure CpS (w wr : World) (base gO : Nat) (bx : Array Value) (k n : Int) (AB : Option Addr) (mb cb : Nat) (b : List Int) (vL vD : Value) : Prop where
  low : Below w.heap.size w wr
  box : wr.heap[w.heap.size]? = some (.cells bx 26 (0, 0))
  res : wr.heap[w.heap.size + 1]? = some (.cells #[.int .i64 0, .int .i64 0, .slice none 0 0, .slice none 0 0, .slice none 0 0] 26 (0, 0))
  out : wr.heap[gO]? = some (.cells #[.int .i64 k, .int .i64 n, .slice AB mb cb, vL, vD] 26 (0, 0))
  byt : BytS wr (S1 w base gO) AB mb cb b
  g0 : w.heap.size + 1 < gO
  g1 : gO < base
  g2 : base ≤ wr.heap.size
section
variable {w wr wr' : World} {base gO mb cb : Nat} {bx : Array Value} {k n : Int} {AB : Option Addr} {b : List Int} {vL vD v : Value}
theorem CpS.step (h : CpS w wr base gO bx k n AB mb cb b vL vD) (hb : Below base wr wr') : CpS w wr' base gO bx k n AB mb cb b vL vD :=
  ⟨h.low.trans (hb.mono (by have := h.g0; have := h.g1; omega)), (hb.block _ (by have := h.g0; have := h.g1; omega)).trans h.box, (hb.block _ (by have := h.g0; have := h.g1; omega)).trans h.res, (hb.block _ h.g1).trans h.out, h.byt.keep (fun g hg => hb.block g hg.2.1) (fun _ hg => hg), h.g0, h.g1, Nat.le_trans h.g2 hb.size⟩
theorem set_blk9 (W : World) (g i x : Nat) (v : Value) (hne : x ≠ g) : (W.setCell ⟨g, i, none⟩ v).heap[x]? = W.heap[x]? := Below.heap_setCell W ⟨g, i, none⟩ v x hne
theorem CpS.put3 (h : CpS w wr base gO bx k n AB mb cb b vL vD) (v : Value) : CpS w (wr.setCell ⟨gO, 3, none⟩ v) base gO bx k n AB mb cb b v vD :=
  ⟨h.low.setCell (p := ⟨gO, 3, none⟩) (by have := h.g0; show w.heap.size ≤ gO; omega) v, (set_blk9 wr gO 3 _ v (by have := h.g0; omega)).trans h.box, (set_blk9 wr gO 3 _ v (by have := h.g0; omega)).trans h.res, heap_set wr gO 3 v [.int .i64 k, .int .i64 n, .slice AB mb cb, vL, vD] _ h.out, h.byt.keep (fun g hg => set_blk9 wr gO 3 g v hg.2.2) (fun _ hg => hg), h.g0, h.g1, by simpa [World.setCell] using h.g2⟩
theorem CpS.put4 (h : CpS w wr base gO bx k n AB mb cb b vL vD) (v : Value) : CpS w (wr.setCell ⟨gO, 4, none⟩ v) base gO bx k n AB mb cb b vL v :=
  ⟨h.low.setCell (p := ⟨gO, 4, none⟩) (by have := h.g0; show w.heap.size ≤ gO; omega) v, (set_blk9 wr gO 4 _ v (by have := h.g0; omega)).trans h.box, (set_blk9 wr gO 4 _ v (by have := h.g0; omega)).trans h.res, heap_set wr gO 4 v [.int .i64 k, .int .i64 n, .slice AB mb cb, vL, vD] _ h.out, h.byt.keep (fun g hg => set_blk9 wr gO 4 g v hg.2.2) (fun _ hg => hg), h.g0, h.g1, by simpa [World.setCell] using h.g2⟩
theorem CpS.more (h : CpS w wr base gO bx k n AB mb cb b vL vD) {base2 : Nat} (h1 : base ≤ base2) (h2 : base2 ≤ wr.heap.size) : CpS w wr base2 gO bx k n AB mb cb b vL vD :=
  ⟨h.low, h.box, h.res, h.out, h.byt.keep (fun _ _ => rfl) (fun g hg => ⟨hg.1, Nat.lt_of_lt_of_le hg.2.1 h1, hg.2.2⟩), h.g0, Nat.lt_of_lt_of_le h.g1 h1, h2⟩
theorem CpS.drew (h : CpS w wr base gO bx k n AB mb cb b vL vD) : CpS w wr.drew base gO bx k n AB mb cb b vL vD := h.step ((Below.refl base wr).drew)
end
section
variable {T : Nat → Prop} {w w' : World} {base : Nat} {v : Value} {l : Obs} {d : Ens}
theorem OwnO.drew (h : OwnO T w base v l) : OwnO T w.drew base v l := h.low ((Below.refl w.heap.size w).drew)
theorem OwnE.drew (h : OwnE T w base v d) : OwnE T w.drew base v d := h.low ((Below.refl w.heap.size w).drew)
theorem OwnO.owned (h : OwnO T w base v l) (b : Nat) (hb : v.ownBlock = some b) : base ≤ b := by obtain ⟨cs, h1, _⟩ := h; exact (row_ltN h1 b hb).2
theorem OwnE.owned (h : OwnE T w base v d) (b : Nat) (hb : v.ownBlock = some b) : base ≤ b := by obtain ⟨cs, h1, _⟩ := h; exact (row_ltN h1 b hb).2
theorem OwnO.ltB (h : OwnO T w base v l) (b : Nat) (hb : v.ownBlock = some b) : b < w.heap.size := by obtain ⟨cs, h1, _⟩ := h; exact (row_ltN h1 b hb).1
theorem OwnE.ltB (h : OwnE T w base v d) (b : Nat) (hb : v.ownBlock = some b) : b < w.heap.size := by obtain ⟨cs, h1, _⟩ := h; exact (row_ltN h1 b hb).1
/-- An object more, out of a literal in new memory, that a call of old has made. -/
theorem OwnO.lit (h : OwnO T w base v l) (hb : Below w.heap.size w w') (x : Ob) {c0 c1 c2 c3 c4 : Value} (hx : ObR w' (fun g => w.heap.size ≤ g ∧ g < w'.heap.size) x c0 c1 c2 c3 c4) (hl : l.len ≤ 1000000000) (hbase : base ≤ w.heap.size) (hT : ∀ g, T g → g < base) :
    ∃ A c w'', (Builtin.append_ #[23, 23] 23 #[v, .slice (some ⟨w'.heap.size, 0, none⟩) 1 1]).run Tryd.prog (w'.alloc (.cells #[c0, c1, c2, c3, c4] 26)) = .ok (.slice A (l.len + 1) c) w'' ∧ OwnO T w'' base (.slice A (l.len + 1) c) (l.snoc x) ∧ Below base w' w'' := by
  have hb1 : Below w'.heap.size w' (w'.alloc (.cells #[c0, c1, c2, c3, c4] 26)) := (Below.refl _ _).alloc (Nat.le_refl _) _
  have h1 := (h.low hb).low hb1
  have hn := heap_alloc_new w' (.cells #[c0, c1, c2, c3, c4] 26)
  have hx1 : ObR (w'.alloc (.cells #[c0, c1, c2, c3, c4] 26)) (ownS T (w'.alloc (.cells #[c0, c1, c2, c3, c4] 26)) base v) x c0 c1 c2 c3 c4 :=
    ObR.keep (fun g hg => hb1.block g hg.2) (fun g hg => ⟨.inr (Nat.le_trans hbase hg.1), Nat.lt_of_lt_of_le hg.2 hb1.size, fun e => by have := h.ltB g e; omega⟩) x hx
  obtain ⟨v', w'', hr, ho, hk, A, c, rfl⟩ := h1.append1 x w'.heap.size hx1 (by rw [cell_of_row _ _ 0 _ _ (0, 0) hn]; rfl) (by rw [cell_of_row _ _ 1 _ _ (0, 0) hn]; rfl) (by rw [cell_of_row _ _ 2 _ _ (0, 0) hn]; rfl) (by rw [cell_of_row _ _ 3 _ _ (0, 0) hn]; rfl) (by rw [cell_of_row _ _ 4 _ _ (0, 0) hn]; rfl) hl (Nat.le_trans hbase (Nat.le_trans hb.size hb1.size)) hT
  exact ⟨A, c, w'', hr, ho, (hb1.mono (Nat.le_trans hbase hb.size)).trans (hk.below (Nat.le_trans hbase (Nat.le_trans hb.size hb1.size)) (fun b hb => h1.owned b hb))⟩
theorem OwnE.lit (h : OwnE T w base v d) (hb : Below w.heap.size w w') (s : ByteArray) (x : Ob) {c0 c1 c2 c3 c4 : Value} (hx : ObR w' (fun g => w.heap.size ≤ g ∧ g < w'.heap.size) x c0 c1 c2 c3 c4) (hl : d.len ≤ 1000000000) (hbase : base ≤ w.heap.size) (hT : ∀ g, T g → g < base) :
    ∃ A c w'', (Builtin.append_ #[24, 24] 24 #[v, .slice (some ⟨w'.heap.size, 0, none⟩) 1 1]).run Tryd.prog (w'.alloc (.cells #[.string s, c0, c1, c2, c3, c4] 36)) = .ok (.slice A (d.len + 1) c) w'' ∧ OwnE T w'' base (.slice A (d.len + 1) c) (d.snoc s x) ∧ Below base w' w'' := by
  have hb1 : Below w'.heap.size w' (w'.alloc (.cells #[.string s, c0, c1, c2, c3, c4] 36)) := (Below.refl _ _).alloc (Nat.le_refl _) _
  have h1 := (h.low hb).low hb1
  have hn := heap_alloc_new w' (.cells #[.string s, c0, c1, c2, c3, c4] 36)
  have hx1 : ObR (w'.alloc (.cells #[.string s, c0, c1, c2, c3, c4] 36)) (ownS T (w'.alloc (.cells #[.string s, c0, c1, c2, c3, c4] 36)) base v) x c0 c1 c2 c3 c4 :=
    ObR.keep (fun g hg => hb1.block g hg.2) (fun g hg => ⟨.inr (Nat.le_trans hbase hg.1), Nat.lt_of_lt_of_le hg.2 hb1.size, fun e => by have := h.ltB g e; omega⟩) x hx
  obtain ⟨v', w'', hr, ho, hk, A, c, rfl⟩ := h1.append1 s x w'.heap.size hx1 (by rw [cell_of_row _ _ 0 _ _ (0, 0) hn]; rfl) (by rw [cell_of_row _ _ 1 _ _ (0, 0) hn]; rfl) (by rw [cell_of_row _ _ 2 _ _ (0, 0) hn]; rfl) (by rw [cell_of_row _ _ 3 _ _ (0, 0) hn]; rfl) (by rw [cell_of_row _ _ 4 _ _ (0, 0) hn]; rfl) (by rw [cell_of_row _ _ 5 _ _ (0, 0) hn]; rfl) hl (Nat.le_trans hbase (Nat.le_trans hb.size hb1.size)) hT
  exact ⟨A, c, w'', hr, ho, (hb1.mono (Nat.le_trans hbase hb.size)).trans (hk.below (Nat.le_trans hbase (Nat.le_trans hb.size hb1.size)) (fun b hb => h1.owned b hb))⟩
end
/-- The items, once they are copied. -/
def LsP (w wr : World) (base gO : Nat) (l : Obs) (AV : Option Addr) : Prop := 0 < l.len → ∃ g o, AV = some ⟨g, o, none⟩ ∧ S1 w base gO g ∧ ObsR wr (S1 w base gO) l g o
theorem LsP.keep {w wr wr' : World} {base gO : Nat} {l : Obs} {AV : Option Addr} (h : LsP w wr base gO l AV) (hb : ∀ g, g < base → g ≠ gO → wr'.heap[g]? = wr.heap[g]?) : LsP w wr' base gO l AV := fun h0 => by
  obtain ⟨g, o, e, hg, hx⟩ := h h0
  exact ⟨g, o, e, hg, ObsR.keep (fun b hb' => hb b hb'.2.1 hb'.2.2) (fun _ h => h) l g o hg hg hx⟩
theorem alloc_split9d {w w' : World} {o : Obj} (h : Below (w.alloc o).drew.heap.size (w.alloc o).drew w') : Below w.drew.heap.size w.drew w' ∧ w'.heap[w.heap.size]? = some o := by
  have hs : w.heap.size ≤ (w.alloc o).heap.size := by simp
  exact ⟨(show Below w.heap.size w.drew (w.alloc o).drew from ⟨rfl, rfl, rfl, hs, ((Below.refl w.heap.size w).alloc (Nat.le_refl _) o).block⟩).trans (h.mono hs), (h.block w.heap.size (show w.heap.size < (w.alloc o).heap.size by simp)).trans (heap_alloc_new w o)⟩
theorem blk_keep9 {W W' : World} {g : Nat} {o : Obj} (hb : Below W.heap.size W W') (h : W.heap[g]? = some o) : W'.heap[g]? = some o := (hb.block g (row_lt W g o h)).trans h
theorem step_append_run9 {P : Program} {ops : Array Oper} {o : Oper} {a : Act} {w w' : World} {K : Act → World → Prop} {Q : Exit → Act → World → Prop} {E : Prop} {v : Value}
    (hg : o.guard = none) (s x : Operand) (t : TypeId) (hop : o.op = Op.call { callee := Callee.builtin Builtin.append, args := #[s, x], argTypes := #[t, t] }) (vs vx : Value) (hs : a.eval s = vs) (hx : a.eval x = vx)
    (hrun : (Builtin.append_ #[t, t] o.type #[vs, vx]).run P w = .ok v w') (hK : K (a.put o.dst v) w') :
    if Region.wanted o (yielded ops a.tmps) = true then Oper.wp P o a w K Q else E := by
  have hw : Region.wanted o (yielded ops a.tmps) = true := by simp [Region.wanted, hg]
  rw [if_pos hw]
  unfold Oper.wp
  simp [execOp, hop, resolve, invoke, builtin, hs, hx, hrun, Result.andThen]
  exact hK
end
end Go.Proofs.YtliieeagbpmcgaaDoor
