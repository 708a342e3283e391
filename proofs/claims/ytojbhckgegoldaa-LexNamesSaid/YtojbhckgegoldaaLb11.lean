/- Chapter 11: a token's box; what a reader of tokens leaves. -/
import Derived.Test.YtojbhckgegoldaaLs11
import Derived.Test.YtojbhckgegoldaaMd7
import Derived.Laws.ResultCell
namespace Go.Proofs.Ytojbhckgegoldaa
open Go.RowKit
set_option linter.unusedVariables false
set_option maxRecDepth 100000

theorem results_cell_row_tmp {P : Program} {fn : Func} {p u : Tmp} {ty : TypeId} (h : fn.results = #[.cell p ty, .tmp u]) (tmps : Array Value) (w : World) (g : Nat) (t : TypeId) (cs : Array Value) (fr : Nat × Nat) (d : TypeDesc)
    (hp : tmps.getD p undef = .pointer (some ⟨g, 0, none⟩)) (hg : w.heap[g]? = some (.cells cs t fr))
    (hu : P.underlying ty = some d) (hd : (match d with | .struct _ | .array _ _ => true | _ => false) = true) (hi : (P.info? ty).map (·.size) = some cs.size) (x : Value) (hx : tmps.getD u undef = x) :
    (results fn tmps).run P w = .ok (.tuple #[.agg cs, x]) w := by
  rw [results_cell_tmp h, hp]
  simp [asAddr, run_loadVar_row w g t ty cs fr d hg hu hd hi, Result.andThen]
  simpa using hx

abbrev tkA (k a v : Int) (A : Option Addr) (m c : Nat) : Value := .agg #[.int .i64 k, .int .i64 a, .int .i64 v, .slice A m c]
abbrev tkC (k a v : Int) (A : Option Addr) (m c : Nat) : Array Value := #[.int .i64 k, .int .i64 a, .int .i64 v, .slice A m c]
/-- A box of four cells. -/
def Bx (W : World) (g : Nat) (T : TypeId) (x0 x1 x2 x3 : Value) : Prop := W.heap[g]? = some (.cells #[x0, x1, x2, x3] T (0, 0))
section
variable {W W' w : World} {g b i : Nat} {T : TypeId} {x0 x1 x2 x3 y0 y1 y2 y3 : Value}
theorem Bx.new (w : World) (T : TypeId) (x0 x1 x2 x3 : Value) : Bx (w.alloc (.cells #[x0, x1, x2, x3] T)) w.heap.size T x0 x1 x2 x3 := heap_alloc_new w _
theorem Bx.c0 (h : Bx W g T x0 x1 x2 x3) : W.cell? ⟨g, 0, none⟩ = some x0 := by rw [cell_of_row W g 0 _ T (0, 0) h]; rfl
theorem Bx.c1 (h : Bx W g T x0 x1 x2 x3) : W.cell? ⟨g, 1, none⟩ = some x1 := by rw [cell_of_row W g 1 _ T (0, 0) h]; rfl
theorem Bx.c2 (h : Bx W g T x0 x1 x2 x3) : W.cell? ⟨g, 2, none⟩ = some x2 := by rw [cell_of_row W g 2 _ T (0, 0) h]; rfl
theorem Bx.c3 (h : Bx W g T x0 x1 x2 x3) : W.cell? ⟨g, 3, none⟩ = some x3 := by rw [cell_of_row W g 3 _ T (0, 0) h]; rfl
theorem Bx.fr (h : Bx W g T x0 x1 x2 x3) (i : Nat) : W.frozen? ⟨g, i, none⟩ = false := by
  unfold Bx at h
  simp [World.frozen?, h]
theorem Bx.lt (h : Bx W g T x0 x1 x2 x3) : g < W.heap.size := row_lt W g _ h
theorem Bx.keep (h : Bx W g T x0 x1 x2 x3) (e : W'.heap[g]? = W.heap[g]?) : Bx W' g T x0 x1 x2 x3 := e.trans h
theorem Bx.drewN (h : Bx W g T x0 x1 x2 x3) (k : Nat) : Bx (W.drewN k) g T x0 x1 x2 x3 := h
theorem Bx.below {B : Nat} (h : Bx W g T x0 x1 x2 x3) (hb : Below B W W') (hg : g < B) : Bx W' g T x0 x1 x2 x3 := (hb.block g hg).trans h
theorem Bx.only (h : Bx W g T x0 x1 x2 x3) (ho : Only b W W') (hg : g ≠ b) : Bx W' g T x0 x1 x2 x3 := (ho.block g h.lt hg).trans h
/-- The four cells, written. -/
abbrev set4 (W : World) (g : Nat) (x0 x1 x2 x3 : Value) : World := (((W.setCell ⟨g, 0, none⟩ x0).setCell ⟨g, 1, none⟩ x1).setCell ⟨g, 2, none⟩ x2).setCell ⟨g, 3, none⟩ x3
theorem Bx.set4_ (h : Bx W g T x0 x1 x2 x3) : Bx (set4 W g y0 y1 y2 y3) g T y0 y1 y2 y3 := by
  have h1 := heap_set W g 0 y0 [x0, x1, x2, x3] _ h
  have h2 := heap_set _ g 1 y1 _ _ h1
  have h3 := heap_set _ g 2 y2 _ _ h2
  exact heap_set _ g 3 y3 _ _ h3
theorem Bx.set1_ (h : Bx W g T x0 x1 x2 x3) (y : Value) : Bx (W.setCell ⟨g, 1, none⟩ y) g T x0 y x2 x3 := heap_set W g 1 y [x0, x1, x2, x3] _ h
theorem Bx.set3_ (h : Bx W g T x0 x1 x2 x3) (y : Value) : Bx (W.setCell ⟨g, 3, none⟩ y) g T x0 x1 x2 y := heap_set W g 3 y [x0, x1, x2, x3] _ h
theorem heap_set4 (hb : b ≠ g) : (set4 W g y0 y1 y2 y3).heap[b]? = W.heap[b]? :=
  (Below.heap_setCell _ ⟨g, 3, none⟩ y3 b hb).trans ((Below.heap_setCell _ ⟨g, 2, none⟩ y2 b hb).trans ((Below.heap_setCell _ ⟨g, 1, none⟩ y1 b hb).trans (Below.heap_setCell _ ⟨g, 0, none⟩ y0 b hb)))
theorem size_set4 : (set4 W g y0 y1 y2 y3).heap.size = W.heap.size := by simp [set4, World.setCell]
/-- A cell in memory made since. -/
theorem Only.setN (h : Only b w W) (hb : w.heap.size ≤ g) (i : Nat) (u : Value) : Only b w (W.setCell ⟨g, i, none⟩ u) :=
  ⟨h.os, h.tape, h.output, by simpa [World.setCell] using h.size, fun k hk hne => (Below.heap_setCell W ⟨g, i, none⟩ u k (by show k ≠ g; omega)).trans (h.block k hk hne)⟩
theorem Only.set4_ (h : Only b w W) (hb : w.heap.size ≤ g) : Only b w (set4 W g y0 y1 y2 y3) := (((h.setN hb 0 y0).setN hb 1 y1).setN hb 2 y2).setN hb 3 y3
theorem LX.keep2 {h g' n c p : Nat} {A : Option Addr} (x : LX W h g' A n c p) (e1 : W'.heap[h]? = W.heap[h]?) (e2 : W'.heap[g']? = W.heap[g']?) : LX W' h g' A n c p := ⟨e1.trans x.lx, e2.trans x.cu, x.ne, x.pl⟩
theorem LX.set4_ {h g' n c p : Nat} {A : Option Addr} (x : LX W h g' A n c p) (h1 : h ≠ g) (h2 : g' ≠ g) : LX (set4 W g y0 y1 y2 y3) h g' A n c p := x.keep2 (heap_set4 h1) (heap_set4 h2)
theorem LX.setC {h g' n c p : Nat} {A : Option Addr} (x : LX W h g' A n c p) (h1 : h ≠ g) (h2 : g' ≠ g) (i : Nat) (u : Value) : LX (W.setCell ⟨g, i, none⟩ u) h g' A n c p := x.keep2 (Below.heap_setCell _ ⟨g, i, none⟩ u h h1) (Below.heap_setCell _ ⟨g, i, none⟩ u g' h2)
theorem Byt.set4_ {B F n c : Nat} {A : Option Addr} {zs : List Int} (h : Byt W B A n c zs) (hf : From F A n) (hg : g < F) : Byt (set4 W g y0 y1 y2 y3) B A n c zs :=
  ⟨h.len, h.cap, h.rng, fun hn => by
    obtain ⟨b, o, e, hlt, hc⟩ := h.cell hn
    have hb := hf hn b o e
    exact ⟨b, o, e, hlt, fun j hj => (World.cell?_of_block (a := ⟨b, o + j, none⟩) (heap_set4 (show b ≠ g by omega))).trans (hc j hj)⟩⟩
end
/-- What a reader of one kind of tokens leaves. -/
def TkP (h g : Nat) (A : Option Addr) (n c : Nat) (t : Tk) (w : World) (r : Ending) (w' : World) : Prop :=
  ∃ (k a v : Int) (A' : Option Addr) (m c' q : Nat), r = .returned (.tuple #[tkA k a v A' m c', .int .i64 t.e]) ∧ LX w' h g A n c q ∧ Only g w w' ∧ (t.e = 0 → k = t.k ∧ v = t.v ∧ q = t.q ∧ Byt w' w'.heap.size A' m c' t.b ∧ From w.heap.size A' m)
end Go.Proofs.Ytojbhckgegoldaa
