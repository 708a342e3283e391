/- Contracts of functions that the law calls, and what they lean on (a part). -/
import Derived.Test.YtdkmomdioiipjaaCkn20
import Derived.Test.YtdkmomdioiipjaaCkn25
namespace Go.Proofs.Ytdkmomdioiipjaa
section
open Go.RowKit Go.Sort
set_option linter.unusedVariables false
set_option maxRecDepth 100000
def GotO (S : Nat → Prop) (x : Ob) (v : Value) (w : World) : Prop := ∃ d0 d1 d2 d3 d4, v = .agg #[d0, d1, d2, d3, d4] ∧ ObR w S x d0 d1 d2 d3 d4
def BoxV (N : Nat) (v : Value) (w : World) (Z : Value → Prop) : Prop := ∃ b z0 z1 z2 z3 z4, v = .pointer (some ⟨b, 0, none⟩) ∧ N ≤ b ∧ w.heap[b]? = some (.cells #[z0, z1, z2, z3, z4] 27 (0, 0)) ∧ Z (.agg #[z0, z1, z2, z3, z4])
structure TwF (N : Nat) (W0 : World) (S : Nat → Prop) (x y : Ob) (p0 p1 p3 p4 : Value) (L : Nat → Bool) (V : Nat → Value) (w : World) : Prop where
  low : Below N W0 w
  f0 : L 0 = true → V 0 = p0
  f1 : L 1 = true → V 1 = p1
  f2 : L 2 = true → GotO S x (V 2) w
  f3 : L 3 = true → V 3 = p3
  f4 : L 4 = true → V 4 = p4
  f5 : L 5 = true → GotO S y (V 5) w
  f6 : L 6 = true → BoxV N (V 6) w (fun z => L 8 = true → V 2 = z)
  f7 : L 7 = true → BoxV N (V 7) w (fun z => L 9 = true → V 5 = z)
  f8 : L 6 = true → L 7 = true → V 6 ≠ V 7
  g8 : L 8 = true → L 2 = true ∧ L 6 = true
  g9 : L 9 = true → L 5 = true ∧ L 7 = true
section
variable {N : Nat} {W0 w w' : World} {S : Nat → Prop} {x y : Ob} {p0 p1 p3 p4 : Value} {L : Nat → Bool} {V : Nat → Value}
theorem GotO.low {v : Value} (h : GotO S x v w) (hb : ∀ g, S g → w'.heap[g]? = w.heap[g]?) : GotO S x v w' := by
  obtain ⟨d0, d1, d2, d3, d4, e, h⟩ := h
  exact ⟨d0, d1, d2, d3, d4, e, ObR.keep hb (fun _ h => h) _ h⟩
theorem BoxV.low {v : Value} {Z : Value → Prop} (h : BoxV N v w Z) (hb : Below w.heap.size w w') : BoxV N v w' Z := by
  obtain ⟨b, z0, z1, z2, z3, z4, e, hn, hh, hz⟩ := h
  exact ⟨b, z0, z1, z2, z3, z4, e, hn, (hb.block b (row_lt _ _ _ hh)).trans hh, hz⟩
theorem BoxV.imp {v : Value} {Z Z' : Value → Prop} (h : BoxV N v w Z) (hz : ∀ z, Z z → Z' z) : BoxV N v w Z' := by
  obtain ⟨b, z0, z1, z2, z3, z4, e, hn, hh, h⟩ := h
  exact ⟨b, z0, z1, z2, z3, z4, e, hn, hh, hz _ h⟩
theorem TwF.start (hS : ∀ g, S g → g < N) (hN : N = W0.heap.size) : TwF N W0 S x y p0 p1 p3 p4 (fun _ => false) (fun _ => undef) W0.drew := by
  subst hN
  refine ⟨(Below.refl _ _).drew, ?_, ?_, ?_, ?_, ?_, ?_, ?_, ?_, ?_, ?_, ?_⟩ <;> intro h <;> cases h
theorem TwF.grow (h : TwF N W0 S x y p0 p1 p3 p4 L V w) (hS : ∀ g, S g → g < N) (hN : N = W0.heap.size) (hb : Below w.heap.size w w') : TwF N W0 S x y p0 p1 p3 p4 L V w' := by
  have hs : ∀ g, S g → w'.heap[g]? = w.heap[g]? := fun g hg => hb.block g (by have := hS g hg; have := h.low.size; omega)
  exact ⟨h.low.trans (hb.mono (by have := h.low.size; omega)), h.f0, h.f1, fun k => (h.f2 k).low hs, h.f3, h.f4, fun k => (h.f5 k).low hs, fun k => (h.f6 k).low hb, fun k => (h.f7 k).low hb, h.f8, h.g8, h.g9⟩
theorem TwF.at0 (h : TwF N W0 S x y p0 p1 p3 p4 L V w) : TwF N W0 S x y p0 p1 p3 p4 (updF L 0 true) (updF V 0 p0) w :=
  ⟨h.low, fun _ => rfl, h.f1, h.f2, h.f3, h.f4, h.f5, h.f6, h.f7, h.f8, h.g8, h.g9⟩
theorem TwF.at1 (h : TwF N W0 S x y p0 p1 p3 p4 L V w) : TwF N W0 S x y p0 p1 p3 p4 (updF L 1 true) (updF V 1 p1) w :=
  ⟨h.low, h.f0, fun _ => rfl, h.f2, h.f3, h.f4, h.f5, h.f6, h.f7, h.f8, h.g8, h.g9⟩
theorem TwF.at3 (h : TwF N W0 S x y p0 p1 p3 p4 L V w) : TwF N W0 S x y p0 p1 p3 p4 (updF L 3 true) (updF V 3 p3) w :=
  ⟨h.low, h.f0, h.f1, h.f2, fun _ => rfl, h.f4, h.f5, h.f6, h.f7, h.f8, h.g8, h.g9⟩
theorem TwF.at4 (h : TwF N W0 S x y p0 p1 p3 p4 L V w) : TwF N W0 S x y p0 p1 p3 p4 (updF L 4 true) (updF V 4 p4) w :=
  ⟨h.low, h.f0, h.f1, h.f2, h.f3, fun _ => rfl, h.f5, h.f6, h.f7, h.f8, h.g8, h.g9⟩
theorem TwF.at2 (h : TwF N W0 S x y p0 p1 p3 p4 L V w) (hL : L 2 = false) {v : Value} (hv : GotO S x v w) : TwF N W0 S x y p0 p1 p3 p4 (updF L 2 true) (updF V 2 v) w :=
  ⟨h.low, h.f0, h.f1, fun _ => hv, h.f3, h.f4, h.f5, fun k => (h.f6 k).imp (fun z _ h8 => by have := (h.g8 h8).1; rw [hL] at this; cases this), h.f7, h.f8, (fun h8 => by have := (h.g8 h8).1; rw [hL] at this; cases this), h.g9⟩
theorem TwF.at5 (h : TwF N W0 S x y p0 p1 p3 p4 L V w) (hL : L 5 = false) {v : Value} (hv : GotO S y v w) : TwF N W0 S x y p0 p1 p3 p4 (updF L 5 true) (updF V 5 v) w :=
  ⟨h.low, h.f0, h.f1, h.f2, h.f3, h.f4, fun _ => hv, h.f6, fun k => (h.f7 k).imp (fun z _ h8 => by have := (h.g9 h8).1; rw [hL] at this; cases this), h.f8, h.g8, fun h8 => by have := (h.g9 h8).1; rw [hL] at this; cases this⟩
theorem BoxV.lt {v : Value} {Z : Value → Prop} (h : BoxV N v w Z) : ∃ b, v = .pointer (some ⟨b, 0, none⟩) ∧ b < w.heap.size := by
  obtain ⟨b, z0, z1, z2, z3, z4, e, hn, hh, hz⟩ := h
  exact ⟨b, e, row_lt _ _ _ hh⟩
theorem TwF.at6 (h : TwF N W0 S x y p0 p1 p3 p4 L V w) (hS : ∀ g, S g → g < N) (hN : N = W0.heap.size) (hL : L 6 = false) {z0 z1 z2 z3 z4 : Value} :
    TwF N W0 S x y p0 p1 p3 p4 (updF L 6 true) (updF V 6 (.pointer (some ⟨w.heap.size, 0, none⟩))) (w.alloc (.cells #[z0, z1, z2, z3, z4] 27)) := by
  have h2 := h.grow (w' := w.alloc (.cells #[z0, z1, z2, z3, z4] 27)) hS hN ((Below.refl _ _).alloc (Nat.le_refl _) _)
  have no8 : L 8 = true → False := fun h8 => by have := (h.g8 h8).2; rw [hL] at this; cases this
  refine ⟨h2.low, h2.f0, h2.f1, h2.f2, h2.f3, h2.f4, h2.f5, fun _ => ⟨w.heap.size, z0, z1, z2, z3, z4, rfl, by have := h.low.size; omega, heap_alloc_new w _, fun h8 => (no8 h8).elim⟩, h2.f7, fun _ k => ?_, fun h8 => (no8 h8).elim, h2.g9⟩
  obtain ⟨b, e, hlt⟩ := (h.f7 k).lt
  show Value.pointer (some ⟨w.heap.size, 0, none⟩) ≠ V 7
  rw [e]
  intro e2
  injection e2 with e2
  injection e2 with e2
  injection e2 with e2
  omega
theorem TwF.at7 (h : TwF N W0 S x y p0 p1 p3 p4 L V w) (hS : ∀ g, S g → g < N) (hN : N = W0.heap.size) (hL : L 7 = false) {z0 z1 z2 z3 z4 : Value} :
    TwF N W0 S x y p0 p1 p3 p4 (updF L 7 true) (updF V 7 (.pointer (some ⟨w.heap.size, 0, none⟩))) (w.alloc (.cells #[z0, z1, z2, z3, z4] 27)) := by
  have h2 := h.grow (w' := w.alloc (.cells #[z0, z1, z2, z3, z4] 27)) hS hN ((Below.refl _ _).alloc (Nat.le_refl _) _)
  have no9 : L 9 = true → False := fun h8 => by have := (h.g9 h8).2; rw [hL] at this; cases this
  refine ⟨h2.low, h2.f0, h2.f1, h2.f2, h2.f3, h2.f4, h2.f5, h2.f6, fun _ => ⟨w.heap.size, z0, z1, z2, z3, z4, rfl, by have := h.low.size; omega, heap_alloc_new w _, fun h8 => (no9 h8).elim⟩, fun k _ => ?_, h2.g8, fun h8 => (no9 h8).elim⟩
  obtain ⟨b, e, hlt⟩ := (h.f6 k).lt
  show V 6 ≠ Value.pointer (some ⟨w.heap.size, 0, none⟩)
  rw [e]
  intro e2
  injection e2 with e2
  injection e2 with e2
  injection e2 with e2
  omega
/-- The five cells are written. -/
theorem TwF.at8 (h : TwF N W0 S x y p0 p1 p3 p4 L V w) (hS : ∀ g, S g → g < N) (hN : N = W0.heap.size) (h2 : L 2 = true) (h6 : L 6 = true) {b : Nat} {d0 d1 d2 d3 d4 : Value} (hv : V 6 = .pointer (some ⟨b, 0, none⟩)) (hd : V 2 = .agg #[d0, d1, d2, d3, d4]) :
    TwF N W0 S x y p0 p1 p3 p4 (updF L 8 true) (updF V 8 undef) (((((w.setCell ⟨b, 0, none⟩ d0).setCell ⟨b, 1, none⟩ d1).setCell ⟨b, 2, none⟩ d2).setCell ⟨b, 3, none⟩ d3).setCell ⟨b, 4, none⟩ d4) := by
  obtain ⟨b', z0, z1, z2, z3, z4, e, hn, hh, hz⟩ := h.f6 h6
  rw [hv] at e
  injection e with e
  injection e with e
  injection e with e
  subst e
  have hs : ∀ g, S g → (((((w.setCell ⟨b, 0, none⟩ d0).setCell ⟨b, 1, none⟩ d1).setCell ⟨b, 2, none⟩ d2).setCell ⟨b, 3, none⟩ d3).setCell ⟨b, 4, none⟩ d4).heap[g]? = w.heap[g]? := fun g hg => heap_set5 (by have := hS g hg; omega)
  refine ⟨below_set5 h.low hn, h.f0, h.f1, fun k => (h.f2 k).low hs, h.f3, h.f4, fun k => (h.f5 k).low hs, fun _ => ⟨b, d0, d1, d2, d3, d4, hv, hn, set5_row hh, fun _ => hd⟩, fun k => ?_, h.f8, fun _ => ⟨h2, h6⟩, h.g9⟩
  obtain ⟨b2, y0, y1, y2, y3, y4, e2, hn2, hh2, hz2⟩ := h.f7 k
  refine ⟨b2, y0, y1, y2, y3, y4, e2, hn2, (heap_set5 ?_).trans hh2, hz2⟩
  rintro rfl
  exact h.f8 h6 k (hv.trans e2.symm)
theorem TwF.at9 (h : TwF N W0 S x y p0 p1 p3 p4 L V w) (hS : ∀ g, S g → g < N) (hN : N = W0.heap.size) (h5 : L 5 = true) (h7 : L 7 = true) {b : Nat} {d0 d1 d2 d3 d4 : Value} (hv : V 7 = .pointer (some ⟨b, 0, none⟩)) (hd : V 5 = .agg #[d0, d1, d2, d3, d4]) :
    TwF N W0 S x y p0 p1 p3 p4 (updF L 9 true) (updF V 9 undef) (((((w.setCell ⟨b, 0, none⟩ d0).setCell ⟨b, 1, none⟩ d1).setCell ⟨b, 2, none⟩ d2).setCell ⟨b, 3, none⟩ d3).setCell ⟨b, 4, none⟩ d4) := by
  obtain ⟨b', z0, z1, z2, z3, z4, e, hn, hh, hz⟩ := h.f7 h7
  rw [hv] at e
  injection e with e
  injection e with e
  injection e with e
  subst e
  have hs : ∀ g, S g → (((((w.setCell ⟨b, 0, none⟩ d0).setCell ⟨b, 1, none⟩ d1).setCell ⟨b, 2, none⟩ d2).setCell ⟨b, 3, none⟩ d3).setCell ⟨b, 4, none⟩ d4).heap[g]? = w.heap[g]? := fun g hg => heap_set5 (by have := hS g hg; omega)
  refine ⟨below_set5 h.low hn, h.f0, h.f1, fun k => (h.f2 k).low hs, h.f3, h.f4, fun k => (h.f5 k).low hs, fun k => ?_, fun _ => ⟨b, d0, d1, d2, d3, d4, hv, hn, set5_row hh, fun _ => hd⟩, h.f8, h.g8, fun _ => ⟨h5, h7⟩⟩
  obtain ⟨b2, y0, y1, y2, y3, y4, e2, hn2, hh2, hz2⟩ := h.f6 k
  refine ⟨b2, y0, y1, y2, y3, y4, e2, hn2, (heap_set5 ?_).trans hh2, hz2⟩
  rintro rfl
  exact h.f8 k h7 (e2.trans hv.symm)
/-- What is there in the end. -/
theorem TwF.done (h : TwF N W0 S x y p0 p1 p3 p4 L V w) (hL : ∀ j, j < 10 → L j = true) : ∃ bA bB d0 d1 d2 d3 d4 e0 e1 e2 e3 e4, V 2 = .agg #[d0, d1, d2, d3, d4] ∧ V 5 = .agg #[e0, e1, e2, e3, e4] ∧ V 6 = .pointer (some ⟨bA, 0, none⟩) ∧ V 7 = .pointer (some ⟨bB, 0, none⟩) ∧ N ≤ bA ∧ N ≤ bB ∧
    w.heap[bA]? = some (.cells #[d0, d1, d2, d3, d4] 27 (0, 0)) ∧ w.heap[bB]? = some (.cells #[e0, e1, e2, e3, e4] 27 (0, 0)) ∧ ObR w S x d0 d1 d2 d3 d4 ∧ ObR w S y e0 e1 e2 e3 e4 ∧ Below N W0 w := by
  obtain ⟨bA, z0, z1, z2, z3, z4, a1, a2, a3, a4⟩ := h.f6 (hL 6 (by omega))
  obtain ⟨bB, y0, y1, y2, y3, y4, b1, b2, b3, b4⟩ := h.f7 (hL 7 (by omega))
  have a5 := a4 (hL 8 (by omega))
  have b5 := b4 (hL 9 (by omega))
  obtain ⟨d0, d1, d2, d3, d4, c1, c2⟩ := h.f2 (hL 2 (by omega))
  obtain ⟨e0, e1, e2, e3, e4, g1, g2⟩ := h.f5 (hL 5 (by omega))
  rw [a5] at c1
  rw [b5] at g1
  injection c1 with c1
  injection g1 with g1
  simp only [Array.mk.injEq, List.cons.injEq, and_true] at c1 g1
  obtain ⟨rfl, rfl, rfl, rfl, rfl⟩ := c1
  obtain ⟨rfl, rfl, rfl, rfl, rfl⟩ := g1
  exact ⟨bA, bB, _, _, _, _, _, _, _, _, _, _, a5, b5, a1, b1, a2, b2, a3, b3, c2, g2, h.low⟩
end
end

section
open Go.RowKit Go.Sort
set_option linter.unusedVariables false
set_option maxRecDepth 100000
theorem PrS.start {w W3 : World} {S : Nat → Prop} {x y : Ob} {c0 c1 c2 c3 c4 e0 e1 e2 e3 e4 : Value} {g : Nat} (hx : ObR w S x c0 c1 c2 c3 c4) (hy : ObR w S y e0 e1 e2 e3 e4) (hlo : Below w.heap.size w W3) (hS : ∀ g, S g → g < w.heap.size) (hg : w.heap.size ≤ g) (hh : W3.heap[g]? = some (.cells #[c0, c1, c2, c3, c4, e0, e1, e2, e3, e4] 59 (0, 0))) : PrS W3 S w.heap.size (.slice (some ⟨g, 0, none⟩) 1 1) [(x, y)] :=
  ⟨[c0, c1, c2, c3, c4, e0, e1, e2, e3, e4], ⟨rfl, .inr ⟨g, 1, _, rfl, hg, hh, Nat.le_refl _, by decide, rfl, rfl⟩⟩, [], c0, c1, c2, c3, c4, e0, e1, e2, e3, e4, rfl, ObR.keep (fun b hb => hlo.block b (hS b hb)) (fun _ h => h) _ hx, ObR.keep (fun b hb => hlo.block b (hS b hb)) (fun _ h => h) _ hy, rfl⟩
set_option maxHeartbeats 8000000 in
theorem pSameC (KM W : Nat) (hW1 : 1 ≤ W) (x y : Ob) (hmx : fitO x) (hmy : fitO y) (hwd : wdO W x) (hK : W * htO x ≤ KM) (hKm : KM ≤ 100000000) (S : Nat → Prop) (w : World) (c0 c1 c2 c3 c4 e0 e1 e2 e3 e4 : Value) (hx : ObR w S x c0 c1 c2 c3 c4) (hy : ObR w S y e0 e1 e2 e3 e4) (hS : ∀ g, S g → g < w.heap.size) :
    Calls Try.prog 20 #[.agg #[c0, c1, c2, c3, c4], .agg #[e0, e1, e2, e3, e4]] w fun r w' => r = .returned (.bool (sameO x y)) ∧ Below w.heap.size w w' := by
  obtain ⟨k9, n9, A29, m29, c29, A39, m39, c39, A49, m49, c49, rfl, rfl, rfl, rfl, rfl⟩ := hx.form
  obtain ⟨k8, n8, A28, m28, c28, A38, m38, c38, A48, m48, c48, rfl, rfl, rfl, rfl, rfl⟩ := hy.form
  obtain ⟨R, hR⟩ : ∃ R, sameO x y = R := ⟨_, rfl⟩
  rw [hR]
  have HAL : Hid (allS [(x, y)] = R) := Lib.hid (by rw [allS_cons, hR]; simp [allS])
  have HPO : Hid (PosOk KM W [(x, y)]) := Lib.hid ⟨⟨by simpa using hK, hwd⟩, trivial⟩
  have HMA : Hid (MayS [(x, y)]) := Lib.hid (fun p hp => by
    simp at hp; subst hp; exact ⟨hmx, hmy⟩)
  have hb3 := (((Below.refl w.heap.size w).alloc (Nat.le_refl _) (.cells #[.int .i64 k9, .int .i64 n9, .slice A29 m29 c29, .slice A39 m39 c39, .slice A49 m49 c49] 27)).alloc (by simp) (.cells #[.int .i64 k8, .int .i64 n8, .slice A28 m28 c28, .slice A38 m38 c38, .slice A48 m48 c48] 27)).alloc (by simp; omega) (.cells #[.int .i64 k9, .int .i64 n9, .slice A29 m29 c29, .slice A39 m39 c39, .slice A49 m49 c49, .int .i64 k8, .int .i64 n8, .slice A28 m28 c28, .slice A38 m38 c38, .slice A48 m48 c48] 59)
  have hn3 := heap_alloc_new ((w.alloc (.cells #[.int .i64 k9, .int .i64 n9, .slice A29 m29 c29, .slice A39 m39 c39, .slice A49 m49 c49] 27)).alloc (.cells #[.int .i64 k8, .int .i64 n8, .slice A28 m28 c28, .slice A38 m38 c38, .slice A48 m48 c48] 27)) (.cells #[.int .i64 k9, .int .i64 n9, .slice A29 m29 c29, .slice A39 m39 c39, .slice A49 m49 c49, .int .i64 k8, .int .i64 n8, .slice A28 m28 c28, .slice A38 m38 c38, .slice A48 m48 c48] 59)
  rw [show ((w.alloc (.cells #[.int .i64 k9, .int .i64 n9, .slice A29 m29 c29, .slice A39 m39 c39, .slice A49 m49 c49] 27)).alloc (.cells #[.int .i64 k8, .int .i64 n8, .slice A28 m28 c28, .slice A38 m38 c38, .slice A48 m48 c48] 27)).heap.size = w.heap.size + 2 by simp] at hn3
  have HST := Lib.hid (PrS.start hx hy hb3 hS (by omega) hn3)
  have HB3 := Lib.hid hb3
  have HS := Lib.hid hS
  have hsz : ∀ st, PosOk KM W st → st.length ≤ 100000000 := fun st h => Nat.le_trans (PosOk.len hW1 st h) hKm
  have HSZ := Lib.hid hsz
  have HKM := Lib.hid hKm
  clear hb3 hn3 hx hy hS hR hmx hmy hwd hK hKm hsz
  go_enter Try.func20, Try.ntmps20
  go_wp2_with fail
  go_loopg [5] x.sz (fun gm sv wr => ∃ (v : Value) (st : List (Ob × Ob)), sv = v ∧ szS st ≤ gm ∧ Hid (PrS wr S w.heap.size v st) ∧ Hid (PosOk KM W st) ∧ Hid (MayS st) ∧ Hid (allS st = R) ∧ Hid (Below w.heap.size w wr))
  case atStart => exact ⟨_, _, rfl, by simp [szS], HST, HPO, HMA, HAL, HB3⟩
  case round =>
    clear HST HPO HMA HAL HB3
    obtain ⟨v, st, rfl, hms, HPR, HPO, HMA, HAL, HBE⟩ := hrel
    cases st with
    | nil =>
      obtain ⟨cs, hrow, -⟩ := HPR.out
      obtain ⟨A, c, rfl, -, -⟩ := row_shapeN hrow
      have hal := HAL.out
      rw [show allS [] = true from rfl] at hal
      subst hal
      clear hrow
      go_wp2_with fail
      go_ret
      exact ⟨rfl, HBE.out⟩
    | cons p ps =>
      obtain ⟨g, c, rfl, hbg, hgw, hpr, hcc, d0, d1, d2, d3, d4, f0, f1, f2, f3, f4, hpx, hpy, r0, r1, r2, r3, r4, r5, r6, r7, r8, r9⟩ := HPR.out.top
      obtain ⟨px, py⟩ := p
      obtain ⟨k7, n7, A27, m27, c27, A37, m37, c37, A47, m47, c47, rfl, rfl, rfl, rfl, rfl⟩ := hpx.form
      obtain ⟨k6, n6, A26, m26, c26, A36, m36, c36, A46, m46, c46, rfl, rfl, rfl, rfl, rfl⟩ := hpy.form
      have hm0 := HSZ.out ps HPO.out.2
      obtain ⟨m, hm⟩ : ∃ m, ps.length = m := ⟨_, rfl⟩
      rw [hm] at hpr hcc r0 r1 r2 r3 r4 r5 r6 r7 r8 r9 hm0 ⊢
      have HM := Lib.hid hm
      have HPS := Lib.hid hpr
      have HPX := Lib.hid hpx
      have HPY := Lib.hid hpy
      have HMS := Lib.hid hms
      have HGW := Lib.hid hgw
      have hb4 := (Below.refl wr.heap.size wr).alloc (Nat.le_refl _) (.cells #[.int .i64 k7, .int .i64 n7, .slice A27 m27 c27, .slice A37 m37 c37, .slice A47 m47 c47, .int .i64 k6, .int .i64 n6, .slice A26 m26 c26, .slice A36 m36 c36, .slice A46 m46 c46] 59)
      have hn4 := heap_alloc_new wr (.cells #[.int .i64 k7, .int .i64 n7, .slice A27 m27 c27, .slice A37 m37 c37, .slice A47 m47 c47, .int .i64 k6, .int .i64 n6, .slice A26 m26 c26, .slice A36 m36 c36, .slice A46 m46 c46] 59)
      obtain ⟨W4, hW4⟩ : ∃ W4, wr.alloc (.cells #[.int .i64 k7, .int .i64 n7, .slice A27 m27 c27, .slice A37 m37 c37, .slice A47 m47 c47, .int .i64 k6, .int .i64 n6, .slice A26 m26 c26, .slice A36 m36 c36, .slice A46 m46 c46] 59) = W4 := ⟨_, rfl⟩
      rw [hW4] at hb4 hn4
      have HB4 := Lib.hid hb4
      have HN4 := Lib.hid hn4
      have HW4 := Lib.hid hW4
      have hm1 : (m : Int) + 1 ≤ 10000000000 := by omega
      have hm3 : (m : Int) < c := by omega
      have e3 : ¬ ((m : Int) + 1 = 0) := by omega
      clear hm hpr hpx hpy hms hgw hbg hb4 hn4 hW4 HPR
      go_upto_region 4 with fail
      rw [HW4.out]
      clear r0 r1 r2 r3 r4 r5 r6 r7 r8 r9
      go_upto_region 5 with fail
      have hsS : ∀ g, S g → g < wr.heap.size := fun g hg => by have := HS.out g hg; have := HBE.out.size; omega
      obtain ⟨hmx, hmy⟩ := HMA.out (px, py) (List.mem_cons_self ..)
      have HS4 : Hid (∀ g, S g → g < W4.heap.size) := Lib.hid (fun g hg => Nat.lt_of_lt_of_le (hsS g hg) HB4.out.size)
      have HCX := Lib.hid (fun W (hW : Below W4.heap.size W4 W) => countedC px S W _ _ _ _ _ (ObR.keep (w' := W) (fun b hb => (hW.block b (HS4.out b hb)).trans (HB4.out.block b (hsS b hb))) (fun _ h => h) px HPX.out) (fun g hg => Nat.lt_of_lt_of_le (HS4.out g hg) hW.size) hmx)
      have HCY := Lib.hid (fun W (hW : Below W4.heap.size W4 W) => countedC py S W _ _ _ _ _ (ObR.keep (w' := W) (fun b hb => (hW.block b (HS4.out b hb)).trans (HB4.out.block b (hsS b hb))) (fun _ h => h) py HPY.out) (fun g hg => Nat.lt_of_lt_of_le (HS4.out g hg) hW.size) hmy)
      have HCE : Hid (∀ W, Below W4.heap.size W4 W → ∀ j u, (#[.int .i64 k7, .int .i64 n7, .slice A27 m27 c27, .slice A37 m37 c37, .slice A47 m47 c47] ++ #[.int .i64 k6, .int .i64 n6, .slice A26 m26 c26, .slice A36 m36 c36, .slice A46 m46 c46])[j]? = some u → W.cell? ⟨wr.heap.size, j, none⟩ = some u) := Lib.hid (fun W hW j u hj => cell_of_row _ _ j _ _ (0, 0) ((hW.block _ (row_lt _ _ _ HN4.out)).trans HN4.out) |>.trans (by simpa using hj))
      clear hmx hmy hsS
      refine wp_region_V (by kernel_rfl) (by kernel_rfl) (by kernel_rfl) (TwF W4.heap.size W4 S px py (.pointer (some ⟨wr.heap.size, 0, none⟩)) (.agg #[.int .i64 k7, .int .i64 n7, .slice A27 m27 c27, .slice A37 m37 c37, .slice A47 m47 c47]) (.pointer (some ⟨wr.heap.size, 5, none⟩)) (.agg #[.int .i64 k6, .int .i64 n6, .slice A26 m26 c26, .slice A36 m36 c36, .slice A46 m46 c46])) (TwF.start HS4.out rfl) ?_ ?_
      · intro L V wx i o a ho hi hdep hF hA
        have hlt : i < 10 := (List.getElem?_eq_some_iff.1 ho).1
        obtain rfl | rfl | rfl | rfl | rfl | rfl | rfl | rfl | rfl | rfl : i = 0 ∨ i = 1 ∨ i = 2 ∨ i = 3 ∨ i = 4 ∨ i = 5 ∨ i = 6 ∨ i = 7 ∨ i = 8 ∨ i = 9 := by omega
        · cases ho
          have e6 := hA.ev0 (k := 6) (by kernel_rfl) rfl
          exact wpOp_valueV (v := .pointer (some ⟨wr.heap.size, 0, none⟩)) (w' := wx) rfl rfl (by go_simp) ⟨_, rfl, hF.at0⟩
        · cases ho
          have e := hA.ev (j := 0) rfl rfl (hdep ⟨0, .data⟩ (by simp) rfl)
          rw [hF.f0 (hdep ⟨0, .data⟩ (by simp) rfl)] at e
          have q0 := HCE.out wx hF.low 0 _ rfl
          have q1 := HCE.out wx hF.low 1 _ rfl
          have q2 := HCE.out wx hF.low 2 _ rfl
          have q3 := HCE.out wx hF.low 3 _ rfl
          have q4 := HCE.out wx hF.low 4 _ rfl
          exact wpOp_valueV (v := .agg #[.int .i64 k7, .int .i64 n7, .slice A27 m27 c27, .slice A37 m37 c37, .slice A47 m47 c47]) (w' := wx) rfl rfl (by go_simp) ⟨_, rfl, hF.at1⟩
        · cases ho
          have e := hA.ev (j := 1) rfl rfl (hdep ⟨1, .data⟩ (by simp) rfl)
          rw [hF.f1 (hdep ⟨1, .data⟩ (by simp) rfl)] at e
          refine wpOp_enterV (f := 42) (args := #[.agg #[.int .i64 k7, .int .i64 n7, .slice A27 m27 c27, .slice A37 m37 c37, .slice A47 m47 c47]]) rfl rfl (by go_simp) (HCX.out wx hF.low) ?_
          rintro r w' ⟨d0, d1, d2, d3, d4, rfl, hd, hb⟩
          exact ⟨_, rfl, _, rfl, (hF.grow HS4.out rfl hb).at2 hi ⟨_, _, _, _, _, rfl, hd⟩⟩
        · cases ho
          have e6 := hA.ev0 (k := 6) (by kernel_rfl) rfl
          exact wpOp_valueV (v := .pointer (some ⟨wr.heap.size, 5, none⟩)) (w' := wx) rfl rfl (by go_simp) ⟨_, rfl, hF.at3⟩
        · cases ho
          have e := hA.ev (j := 3) rfl rfl (hdep ⟨3, .data⟩ (by simp) rfl)
          rw [hF.f3 (hdep ⟨3, .data⟩ (by simp) rfl)] at e
          have q0 := HCE.out wx hF.low 5 _ rfl
          have q1 := HCE.out wx hF.low 6 _ rfl
          have q2 := HCE.out wx hF.low 7 _ rfl
          have q3 := HCE.out wx hF.low 8 _ rfl
          have q4 := HCE.out wx hF.low 9 _ rfl
          exact wpOp_valueV (v := .agg #[.int .i64 k6, .int .i64 n6, .slice A26 m26 c26, .slice A36 m36 c36, .slice A46 m46 c46]) (w' := wx) rfl rfl (by go_simp) ⟨_, rfl, hF.at4⟩
        · cases ho
          have e := hA.ev (j := 4) rfl rfl (hdep ⟨4, .data⟩ (by simp) rfl)
          rw [hF.f4 (hdep ⟨4, .data⟩ (by simp) rfl)] at e
          refine wpOp_enterV (f := 42) (args := #[.agg #[.int .i64 k6, .int .i64 n6, .slice A26 m26 c26, .slice A36 m36 c36, .slice A46 m46 c46]]) rfl rfl (by go_simp) (HCY.out wx hF.low) ?_
          rintro r w' ⟨d0, d1, d2, d3, d4, rfl, hd, hb⟩
          exact ⟨_, rfl, _, rfl, (hF.grow HS4.out rfl hb).at5 hi ⟨_, _, _, _, _, rfl, hd⟩⟩
        · cases ho
          exact wpOp_valueV (v := .pointer (some ⟨wx.heap.size, 0, none⟩)) (w' := wx.alloc (.cells #[.int .i64 0, .int .i64 0, .slice none 0 0, .slice none 0 0, .slice none 0 0] 27)) rfl rfl (by go_simp) ⟨_, rfl, hF.at6 HS4.out rfl hi⟩
        · cases ho
          exact wpOp_valueV (v := .pointer (some ⟨wx.heap.size, 0, none⟩)) (w' := wx.alloc (.cells #[.int .i64 0, .int .i64 0, .slice none 0 0, .slice none 0 0, .slice none 0 0] 27)) rfl rfl (by go_simp) ⟨_, rfl, hF.at7 HS4.out rfl hi⟩
        · cases ho
          have l6 := hdep ⟨6, .data⟩ (by simp) rfl
          have l2 := hdep ⟨2, .data⟩ (by simp) rfl
          have e := hA.ev (j := 6) rfl rfl l6
          have e2 := hA.ev (j := 2) rfl rfl l2
          obtain ⟨b, z0, z1, z2, z3, z4, hv, hn, hh, hz⟩ := hF.f6 l6
          obtain ⟨d0, d1, d2, d3, d4, hv2, hob⟩ := hF.f2 l2
          have hat8 := hF.at8 HS4.out rfl l2 l6 hv hv2
          rw [hv] at e
          rw [hv2] at e2
          obtain ⟨y0, y1, y2, y3, y4, y5⟩ := row5_cells hh
          obtain ⟨k, n, A2, m2, g2, A3, m3, g3, A4, m4, g4, rfl, rfl, rfl, rfl, rfl⟩ := hob.form
          exact wpOp_skipV rfl rfl (by go_simp) ⟨_, rfl, hat8⟩
        · cases ho
          have l7 := hdep ⟨7, .data⟩ (by simp) rfl
          have l5 := hdep ⟨5, .data⟩ (by simp) rfl
          have e := hA.ev (j := 7) rfl rfl l7
          have e2 := hA.ev (j := 5) rfl rfl l5
          obtain ⟨b, z0, z1, z2, z3, z4, hv, hn, hh, hz⟩ := hF.f7 l7
          obtain ⟨d0, d1, d2, d3, d4, hv2, hob⟩ := hF.f5 l5
          have hat9 := hF.at9 HS4.out rfl l5 l7 hv hv2
          rw [hv] at e
          rw [hv2] at e2
          obtain ⟨y0, y1, y2, y3, y4, y5⟩ := row5_cells hh
          obtain ⟨k, n, A2, m2, g2, A3, m3, g3, A4, m4, g4, rfl, rfl, rfl, rfl, rfl⟩ := hob.form
          exact wpOp_skipV rfl rfl (by go_simp) ⟨_, rfl, hat9⟩
      intro L V wx hall hF
      obtain ⟨bA, bB, d0, d1, d2, d3, d4, e0, e1, e2, e3, e4, v2, v5, v6, v7, hA6, hB6, hhA, hhB, hox, hoy, hb5⟩ := hF.done hall
      simp only [putsF, Act.put, List.setIfInBounds_toArray, List.set_cons_zero, List.set_cons_succ, Nat.zero_add, Nat.reduceAdd]
      rw [v2, v5, v6, v7]
      have HB5 := Lib.hid (((HBE.out.trans (HB4.out.mono HBE.out.size)).trans (hb5.mono (Nat.le_trans HBE.out.size HB4.out.size))))
      have HP5 := Lib.hid (((HPS.out.low HB4.out HS.out HBE.out.size).low hb5 HS.out (Nat.le_trans HBE.out.size HB4.out.size)))
      have HGN : Hid (w.heap.size ≤ g ∧ g < W4.heap.size) := Lib.hid ⟨(HPS.out.lt g rfl).2, Nat.lt_of_lt_of_le HGW.out HB4.out.size⟩
      have HNA : Hid (g ≠ bA ∧ g ≠ bB) := Lib.hid ⟨by have := HGN.out.2; omega, by have := HGN.out.2; omega⟩
      have hS5 : ∀ g, S g → g < wx.heap.size := fun g' hg' => by have := HS.out g' hg'; have := HB5.out.size; omega
      have HOC := Lib.hid (outsideC px py S wx _ _ _ _ _ _ _ _ _ _ hox hoy hS5)
      have HOX := Lib.hid hox
      have HOY := Lib.hid hoy
      have HHA := Lib.hid hhA
      have HHB := Lib.hid hhB
      obtain ⟨x0, x1, x2, x3, x4, x5⟩ := row5_cells hhA
      obtain ⟨y0, y1, y2, y3, y4, y5⟩ := row5_cells hhB
      obtain ⟨p9, q9, A2, m2, g2, A3, m3, g3, A4, m4, g4, rfl, rfl, rfl, rfl, rfl⟩ := hox.form
      obtain ⟨s9, t9, B2, z2, h2, B3, z3, h3, B4, z4, h4, rfl, rfl, rfl, rfl, rfl⟩ := hoy.form
      clear hall hF v2 v5 v6 v7 hhA hhB hox hoy hb5 hA6 hB6 HCX HCY HCE HS4 HB4 HN4 HW4 HPX HPY HPS HGW hS5
      obtain ⟨hmx, hmy⟩ := HMA.out (px, py) (List.mem_cons_self ..)
      cases hout : outO px py with
      | false =>
        have hR : R = false := by
          have h1 := HAL.out
          rw [allS_cons, same_out hmx hmy, hout] at h1
          simpa using h1.symm
        subst hR
        rw [hout] at HOC
        clear hmx hmy hout
        go_wp2_with (go_at_call 43; (with_reducible refine HOC.out.mono ?_); (rintro r w6 ⟨rfl, hb6⟩); have HB6 := Lib.hid (HB5.out.trans (hb6.mono HB5.out.size)); clear hb6)
        go_ret
        exact ⟨rfl, HB6.out⟩
      | true =>
        rw [hout] at HOC
        have HAN := Lib.hid (nextP_all hmx hmy hout ps)
        have HMN := Lib.hid (nextP_may HMA.out)
        have HPN := Lib.hid (nextP_pos HPO.out)
        have HSN := Lib.hid (nextP_sz px py ps)
        have HRN : Hid (allS (nextP (px, py) ps) = R) := Lib.hid (HAN.out.trans HAL.out)
        have HMH : Hid (m + (Ob.mk 0 0 [] .nil .nil).sz ≤ 1000000000) := Lib.hid (by simp [Ob.sz, Obs.sz, Ens.sz]; omega)
        obtain ⟨kx, nx, bx, lx, dx⟩ := px
        obtain ⟨ky, ny, by_, ly, dy⟩ := py
        obtain ⟨hle, hde⟩ := outO_len hout
        have hox := HOX.out
        have hoy := HOY.out
        unfold ObR at hox hoy
        obtain ⟨-, -, -, -, -, ⟨A3', g3', e3x, h3x, hlx⟩, ⟨A4', g4', e4x, h4x, hdx⟩⟩ := hox
        obtain ⟨-, -, -, -, -, ⟨B3', h3', e3y, h3y, hly⟩, ⟨B4', h4', e4y, h4y, hdy⟩⟩ := hoy
        injection e3x with a1 a2 a3
        injection e4x with a4 a5 a6
        injection e3y with b1 b2 b3
        injection e4y with b4 b5 b6
        subst a1 a3 a4 a6 b1 b3 b4 b6
        rw [← hle] at b2 h3y
        rw [← hde] at b5 h4y
        obtain ⟨LL, hLL⟩ : ∃ LL, lx.len = LL := ⟨_, rfl⟩
        obtain ⟨DD, hDD⟩ : ∃ DD, dx.len = DD := ⟨_, rfl⟩
        rw [hLL] at a2 b2 h3x h3y hlx
        rw [hDD] at a5 b5 h4x h4y hdx
        subst a2 a5 b2 b5
        rw [← hle, hLL] at hly
        rw [← hde, hDD] at hdy
        have hwl : z3 ≤ 100000000 ∧ z4 ≤ 100000000 := by
          have h1 := HPO.out.1
          have h2 := h1.2
          unfold wdO at h2
          have h3 := h1.1
          have h4 : 1 ≤ htO (Ob.mk kx nx bx lx dx) := by rw [htO]; omega
          have h5 : W * 1 ≤ W * htO (Ob.mk kx nx bx lx dx) := Nat.mul_le_mul_left W h4
          have h6 := HKM.out
          dsimp only at h3
          omega
        have hbw : ∀ Wz, Below wx.heap.size wx Wz → Below w.heap.size w Wz := fun Wz hW => HB5.out.trans (hW.mono HB5.out.size)
        have HPX2 : Hid (∀ Wz, Below wx.heap.size wx Wz → PrS Wz S w.heap.size (.slice (some ⟨g, 0, none⟩) m c) ps) := Lib.hid (fun Wz hW => HP5.out.low hW HS.out HB5.out.size)
        have hbA : bA < wx.heap.size := row_lt _ _ _ HHA.out
        have hbB : bB < wx.heap.size := row_lt _ _ _ HHB.out
        have HEL : Hid (∀ w6, Below wx.heap.size wx w6 → ∀ sv wq, KeepX (.slice (some ⟨g, 0, none⟩) m c) w6 sv wq → (wq.cell? ⟨bA, 3, none⟩ = some (.slice A3 z3 g3) ∧ wq.cell? ⟨bB, 3, none⟩ = some (.slice B3 z3 h3) ∧ wq.cell? ⟨bA, 4, none⟩ = some (.slice A4 z4 g4) ∧ wq.cell? ⟨bB, 4, none⟩ = some (.slice B4 z4 h4)) ∧ (∀ g', S g' → wq.heap[g']? = wx.heap[g']?) ∧ Below w.heap.size w wq) := Lib.hid (fun w6 h6 sv wq hk => by
          have nA : (Value.slice (some ⟨g, 0, none⟩) m c).ownBlock ≠ some bA := fun e => HNA.out.1 (by injection e)
          have nB : (Value.slice (some ⟨g, 0, none⟩) m c).ownBlock ≠ some bB := fun e => HNA.out.2 (by injection e)
          have eA := ((hk.block bA (Nat.lt_of_lt_of_le hbA h6.size) nA).trans (h6.block bA hbA)).trans HHA.out
          have eB := ((hk.block bB (Nat.lt_of_lt_of_le hbB h6.size) nB).trans (h6.block bB hbB)).trans HHB.out
          refine ⟨⟨cell_of_row _ _ 3 _ _ (0, 0) eA, cell_of_row _ _ 3 _ _ (0, 0) eB, cell_of_row _ _ 4 _ _ (0, 0) eA, cell_of_row _ _ 4 _ _ (0, 0) eB⟩, fun g' hg' => ?_, (hbw w6 h6).trans (hk.below (hbw w6 h6).size (fun b e => by injection e with e; have := HGN.out.1; dsimp only at e; omega))⟩
          have hlt := HS.out g' hg'
          exact (hk.block g' (by have := HB5.out.size; have := h6.size; omega) (fun e => by injection e with e; have := HGN.out.1; dsimp only at e; omega)).trans (h6.block g' (by have := HB5.out.size; omega)))
        have HLX := Lib.hid hlx
        have HLY := Lib.hid hly
        have HDX := Lib.hid hdx
        have HDY := Lib.hid hdy
        have HLL := Lib.hid hLL
        have HDD := Lib.hid hDD
        have HLE := Lib.hid hle
        have HDE := Lib.hid hde
        have HC3 := Lib.hid (And.intro h3x (And.intro h3y (And.intro h4x h4y)))
        have HWL := Lib.hid hwl
        have HBX := Lib.hid HB5.out.size
        clear hmx hmy hout hlx hly hdx hdy hLL hDD hle hde h3x h3y h4x h4y hwl hbw hbA hbB HAN HMA HAL HPO HOX HOY HHA HHB HP5 HMH HNA
        go_upto_region 8 with (go_at_call 43; (with_reducible refine HOC.out.mono ?_); (rintro r w6 ⟨rfl, hb6⟩); have HB6 := Lib.hid hb6; clear hb6)
        have HP6 := Lib.hid (HPX2.out w6 HB6.out)
        obtain ⟨v3, v3', v4, v4'⟩ := (HEL.out w6 HB6.out _ _ (KeepX.refl _ w6)).1
        clear x0 x1 x2 x3 x4 y0 y1 y2 y3 y4 HOC HPX2
        go_wp2_with fail
        go_loopw [5, 42] (fun sv iv wq => ∃ (i cW : Nat) (AW : Option Addr), i ≤ z3 ∧ iv = .int .i64 i ∧ sv = .slice AW (m + i) cW ∧ Hid (PrS wq S w.heap.size (.slice AW (m + i) cW) (((pairsL lx ly).take i).reverse ++ ps)) ∧ Hid (KeepX (.slice (some ⟨g, 0, none⟩) m c) w6 (.slice AW (m + i) cW) wq)) (fun _ iv _ => z3 - (intOf iv).toNat)
        case atStart => exact ⟨0, c, _, Nat.zero_le _, rfl, rfl, HP6, Lib.hid (KeepX.refl _ _)⟩
        case round =>
          obtain ⟨i, cW, AW, hi, rfl, rfl, HPQ, HKX⟩ := hrel
          clear v3 v3' v4 v4'
          by_cases hlt : i < z3
          · have hlz : (i : Int) < (z3 : Int) := by omega
            obtain ⟨x, hx⟩ := lx.get_some i (by rw [HLL.out]; exact hlt)
            obtain ⟨y, hy⟩ := ly.get_some i (by rw [← HLE.out, HLL.out]; exact hlt)
            obtain ⟨gx, ox, rfl, hgx, hrx⟩ := HLX.out (by omega)
            obtain ⟨gy, oy, rfl, hgy, hry⟩ := HLY.out (by omega)
            obtain ⟨d0, d1, d2, d3, d4, k0, k1, k2, k3, k4, hxr⟩ := hrx.get lx gx ox i x hx
            obtain ⟨e0, e1, e2, e3, e4, j0, j1, j2, j3, j4, hyr⟩ := hry.get ly gy oy i y hy
            have HEX : Hid (∀ sv wq, KeepX (.slice (some ⟨g, 0, none⟩) m c) w6 sv wq → wq.cell? ⟨bA, 3, none⟩ = some (.slice (some ⟨gx, ox, none⟩) z3 g3) ∧ wq.cell? ⟨bB, 3, none⟩ = some (.slice (some ⟨gy, oy, none⟩) z3 h3) ∧ wq.cell? ⟨gx, ox + i * 5, none⟩ = some d0 ∧ wq.cell? ⟨gx, ox + i * 5 + 1, none⟩ = some d1 ∧ wq.cell? ⟨gx, ox + i * 5 + 2, none⟩ = some d2 ∧ wq.cell? ⟨gx, ox + i * 5 + 3, none⟩ = some d3 ∧ wq.cell? ⟨gx, ox + i * 5 + 4, none⟩ = some d4 ∧ wq.cell? ⟨gy, oy + i * 5, none⟩ = some e0 ∧ wq.cell? ⟨gy, oy + i * 5 + 1, none⟩ = some e1 ∧ wq.cell? ⟨gy, oy + i * 5 + 2, none⟩ = some e2 ∧ wq.cell? ⟨gy, oy + i * 5 + 3, none⟩ = some e3 ∧ wq.cell? ⟨gy, oy + i * 5 + 4, none⟩ = some e4) := Lib.hid (fun sv wq hk => by
              obtain ⟨⟨q1, q2, -, -⟩, q5, -⟩ := HEL.out w6 HB6.out sv wq hk
              have ex := fun j => World.cell?_of_block (a := ⟨gx, j, none⟩) (q5 gx hgx)
              have ey := fun j => World.cell?_of_block (a := ⟨gy, j, none⟩) (q5 gy hgy)
              exact ⟨q1, q2, (ex _).trans k0, (ex _).trans k1, (ex _).trans k2, (ex _).trans k3, (ex _).trans k4, (ey _).trans j0, (ey _).trans j1, (ey _).trans j2, (ey _).trans j3, (ey _).trans j4⟩)
            have hqd := HEL.out w6 HB6.out _ _ (HKX.out.drewN 1)
            have hlen : (((pairsL lx ly).take i).reverse ++ ps).length = m + i := by
              rw [List.length_append, List.length_reverse, List.length_take_of_le (by rw [pairsL_len _ _ HLE.out, HLL.out]; exact hi), HM.out]; omega
            have HAP := Lib.hid ((HPQ.out.same (w' := wr.drewN 1) (fun _ _ => rfl) (fun _ _ => rfl)).pushX (x, y) (ObR.keep (w' := wr.drewN 1) hqd.2.1 (fun _ h => h) x hxr) (ObR.keep (w' := wr.drewN 1) hqd.2.1 (fun _ h => h) y hyr) (by rw [hlen]; have := HWL.out.1; omega) hqd.2.2.size HS.out)
            rw [hlen, ← rev_take (pairsL_get lx ly i x y hx hy)] at HAP
            obtain ⟨m0, m1, m2, m3, m4, m5, m6, m7, m8, m9, m10, m11⟩ := HEX.out _ _ HKX.out
            obtain ⟨a0, a1, a2, a3, a4, a5, a6, a7, a8, a9, a10, a11⟩ := HEX.out _ _ (HKX.out.drewN 1)
            have hmi : (m : Int) + (i : Int) ≤ 1000000000 := by have := HWL.out.1; omega
            have hg3 : (z3 : Int) ≤ g3 := by have := HC3.out.1.1; omega
            have hh3 : (z3 : Int) ≤ h3 := by have := HC3.out.2.1.1; omega
            clear hx hy hgx hgy hrx hry hxr hyr k0 k1 k2 k3 k4 j0 j1 j2 j3 j4 hqd hlen
            go_upto_region 11 with fail
            refine wp_region_heldR (fun w' => w'.cell? ⟨bA, 3, none⟩ = some (.slice (some ⟨gx, ox, none⟩) z3 g3) ∧ w'.cell? ⟨bB, 3, none⟩ = some (.slice (some ⟨gy, oy, none⟩) z3 h3) ∧ w'.cell? ⟨gx, ox + i * 5, none⟩ = some d0 ∧ w'.cell? ⟨gx, ox + i * 5 + 1, none⟩ = some d1 ∧ w'.cell? ⟨gx, ox + i * 5 + 2, none⟩ = some d2 ∧ w'.cell? ⟨gx, ox + i * 5 + 3, none⟩ = some d3 ∧ w'.cell? ⟨gx, ox + i * 5 + 4, none⟩ = some d4 ∧ w'.cell? ⟨gy, oy + i * 5, none⟩ = some e0 ∧ w'.cell? ⟨gy, oy + i * 5 + 1, none⟩ = some e1 ∧ w'.cell? ⟨gy, oy + i * 5 + 2, none⟩ = some e2 ∧ w'.cell? ⟨gy, oy + i * 5 + 3, none⟩ = some e3 ∧ w'.cell? ⟨gy, oy + i * 5 + 4, none⟩ = some e4) 1000 (by kernel_rfl) ⟨a0, a1, a2, a3, a4, a5, a6, a7, a8, a9, a10, a11⟩ (fun hHeld => ?_)
            refine wpAnyR_take 0 rfl (by kernel_rfl) (by kernel_rfl) (by kernel_rfl) (by kernel_rfl) (fun _ _ _ h => h) (by rfl) (v := ?_) ?_ (by assumption) ?_
            rotate_left
            focus
              intro wS hSw
              (try dsimp only at hSw)
              go_simp
              try with_reducible rfl
            intro hHeld
            try simp only [Act.put, List.setIfInBounds_toArray, List.set_cons_zero, List.set_cons_succ]
            refine wpAnyR_take 1 rfl (by kernel_rfl) (by kernel_rfl) (by kernel_rfl) (by kernel_rfl) (fun _ _ _ h => h) (by rfl) (v := ?_) ?_ (by assumption) ?_
            rotate_left
            focus
              intro wS hSw
              (try dsimp only at hSw)
              go_simp
              try with_reducible rfl
            intro hHeld
            try simp only [Act.put, List.setIfInBounds_toArray, List.set_cons_zero, List.set_cons_succ]
            refine wpAnyR_take 2 rfl (by kernel_rfl) (by kernel_rfl) (by kernel_rfl) (by kernel_rfl) (fun _ _ _ h => h) (by rfl) (v := ?_) ?_ (by assumption) ?_
            rotate_left
            focus
              intro wS hSw
              (try dsimp only at hSw)
              go_simp
              try with_reducible rfl
            intro hHeld
            try simp only [Act.put, List.setIfInBounds_toArray, List.set_cons_zero, List.set_cons_succ]
            refine wpAnyR_take 3 rfl (by kernel_rfl) (by kernel_rfl) (by kernel_rfl) (by kernel_rfl) (fun _ _ _ h => h) (by rfl) (v := ?_) ?_ (by assumption) ?_
            rotate_left
            focus
              intro wS hSw
              (try dsimp only at hSw)
              go_simp
              try with_reducible rfl
            intro hHeld
            try simp only [Act.put, List.setIfInBounds_toArray, List.set_cons_zero, List.set_cons_succ]
            refine wpAnyR_take 4 rfl (by kernel_rfl) (by kernel_rfl) (by kernel_rfl) (by kernel_rfl) (fun _ _ _ h => h) (by rfl) (v := ?_) ?_ (by assumption) ?_
            rotate_left
            focus
              intro wS hSw
              (try dsimp only at hSw)
              go_simp
              try with_reducible rfl
            intro hHeld
            try simp only [Act.put, List.setIfInBounds_toArray, List.set_cons_zero, List.set_cons_succ]
            refine wpAnyR_take 5 rfl (by kernel_rfl) (by kernel_rfl) (by kernel_rfl) (by kernel_rfl) (fun _ _ _ h => h) (by rfl) (v := ?_) ?_ (by assumption) ?_
            rotate_left
            focus
              intro wS hSw
              (try dsimp only at hSw)
              go_simp
              try with_reducible rfl
            intro hHeld
            try simp only [Act.put, List.setIfInBounds_toArray, List.set_cons_zero, List.set_cons_succ]
            refine wpAnyR_take 6 rfl (by kernel_rfl) (by kernel_rfl) (by kernel_rfl) (by kernel_rfl) (fun _ _ _ h => h) (by rfl) (v := ?_) ?_ (by assumption) ?_
            rotate_left
            focus
              intro wS hSw
              (try dsimp only at hSw)
              go_simp
              try with_reducible rfl
            intro hHeld
            try simp only [Act.put, List.setIfInBounds_toArray, List.set_cons_zero, List.set_cons_succ]
            refine wpAnyR_take 7 rfl (by kernel_rfl) (by kernel_rfl) (by kernel_rfl) (by kernel_rfl) (fun _ _ _ h => h) (by rfl) (v := ?_) ?_ (by assumption) ?_
            rotate_left
            focus
              intro wS hSw
              (try dsimp only at hSw)
              go_simp
              try with_reducible rfl
            intro hHeld
            try simp only [Act.put, List.setIfInBounds_toArray, List.set_cons_zero, List.set_cons_succ]
            refine wpAnyR_take 8 rfl (by kernel_rfl) (by kernel_rfl) (by kernel_rfl) (by kernel_rfl) (fun _ _ _ h => h) (by rfl) (v := ?_) ?_ (by assumption) ?_
            rotate_left
            focus
              intro wS hSw
              (try dsimp only at hSw)
              go_simp
              try with_reducible rfl
            intro hHeld
            try simp only [Act.put, List.setIfInBounds_toArray, List.set_cons_zero, List.set_cons_succ]
            refine wpAnyR_take 9 rfl (by kernel_rfl) (by kernel_rfl) (by kernel_rfl) (by kernel_rfl) (fun _ _ _ h => h) (by rfl) (v := ?_) ?_ (by assumption) ?_
            rotate_left
            focus
              intro wS hSw
              (try dsimp only at hSw)
              go_simp
              try with_reducible rfl
            intro hHeld
            try simp only [Act.put, List.setIfInBounds_toArray, List.set_cons_zero, List.set_cons_succ]
            refine wpAnyR_take 10 rfl (by kernel_rfl) (by kernel_rfl) (by kernel_rfl) (by kernel_rfl) (fun _ _ _ h => h) (by rfl) (v := ?_) ?_ (by assumption) ?_
            rotate_left
            focus
              intro wS hSw
              (try dsimp only at hSw)
              go_simp
              try with_reducible rfl
            intro hHeld
            try simp only [Act.put, List.setIfInBounds_toArray, List.set_cons_zero, List.set_cons_succ]
            refine wpAnyR_take 11 rfl (by kernel_rfl) (by kernel_rfl) (by kernel_rfl) (by kernel_rfl) (fun _ _ _ h => h) (by rfl) (v := ?_) ?_ (by assumption) ?_
            rotate_left
            focus
              intro wS hSw
              (try dsimp only at hSw)
              go_simp
              try with_reducible rfl
            intro hHeld
            try simp only [Act.put, List.setIfInBounds_toArray, List.set_cons_zero, List.set_cons_succ]
            refine wpAnyR_step 12 rfl (by kernel_rfl) (fun K hK => ?_)
            go_simp
            refine hK.out _ _ (by go_keep) (fun hHeld => ?_)
            clear hK K
            try simp only [Act.put, List.setIfInBounds_toArray, List.set_cons_zero, List.set_cons_succ]
            refine wpAnyR_step 13 rfl (by kernel_rfl) (fun K hK => ?_)
            obtain ⟨A6, c6, w7, hrun, ho6, hk6⟩ := HAP.out
            refine step_append_run9 rfl (.tmp 45) (.tmp 57) 60 rfl (.slice AW (m + i) cW) (.slice (some ⟨wr.heap.size, 0, none⟩) 1 1) rfl rfl hrun ?_
            have HK7 := Lib.hid (HKX.out.trans (show KeepX (.slice AW (m + i) cW) wr (.slice A6 (m + i + 1) c6) w7 from ⟨hk6.os, hk6.tape, hk6.output, hk6.size, hk6.block, hk6.own⟩))
            have HO7 := Lib.hid ho6
            have b12 := HEX.out _ _ HK7.out
            clear hrun ho6 hk6
            refine hK.out _ _ b12 (fun hHeld => ?_)
            clear hK K
            try simp only [Act.put, List.setIfInBounds_toArray, List.set_cons_zero, List.set_cons_succ]
            refine wpAnyR_take 14 rfl (by kernel_rfl) (by kernel_rfl) (by kernel_rfl) (by kernel_rfl) (fun _ _ _ h => h) (by rfl) (v := ?_) ?_ (by assumption) ?_
            rotate_left
            focus
              intro wS hSw
              (try dsimp only at hSw)
              go_simp
              try with_reducible rfl
            intro hHeld
            try simp only [Act.put, List.setIfInBounds_toArray, List.set_cons_zero, List.set_cons_succ]
            refine wpAnyR_done (by kernel_rfl) ?_
            refine NoPanic.normal ?_
            go_wp2_with fail
            go_roundw
            case rel => exact ⟨i + 1, c6, A6, by omega, by go_num, rfl, HO7, HK7⟩
            case measure => simp [intOf]; omega
          · obtain rfl : z3 = i := by omega
            have hPQ := HPQ.out
            rw [List.take_of_length_le (by rw [pairsL_len _ _ HLE.out, HLL.out]; exact Nat.le_refl _)] at hPQ
            have HPR := Lib.hid hPQ
            obtain ⟨v3, v3', v4, v4'⟩ := (HEL.out w6 HB6.out _ _ HKX.out).1
            clear hPQ HPQ hlt v3 v3'
            go_wp2_with fail
            go_loopw [5, 63] (fun sv iv wq => ∃ (i cX : Nat) (AX : Option Addr), i ≤ z4 ∧ iv = .int .i64 i ∧ sv = .slice AX (m + z3 + i) cX ∧ Hid (PrS wq S w.heap.size (.slice AX (m + z3 + i) cX) (((pairsE dx dy).take i).reverse ++ ((pairsL lx ly).reverse ++ ps))) ∧ Hid (KeepX (.slice (some ⟨g, 0, none⟩) m c) w6 (.slice AX (m + z3 + i) cX) wq)) (fun _ iv _ => z4 - (intOf iv).toNat)
            case atStart => exact ⟨0, cW, AW, Nat.zero_le _, rfl, rfl, HPR, HKX⟩
            case round =>
              clear HKX
              obtain ⟨i, cX, AX, hi2, rfl, rfl, HPQ, HKX⟩ := hrel
              clear v4 v4'
              by_cases hlt : i < z4
              · have hlz : (i : Int) < (z4 : Int) := by omega
                obtain ⟨sx, x, hx⟩ := dx.get_some i (by rw [HDD.out]; exact hlt)
                obtain ⟨sy, y, hy⟩ := dy.get_some i (by rw [← HDE.out, HDD.out]; exact hlt)
                obtain ⟨gx, ox, rfl, hgx, hrx⟩ := HDX.out (by omega)
                obtain ⟨gy, oy, rfl, hgy, hry⟩ := HDY.out (by omega)
                obtain ⟨d0, d1, d2, d3, d4, -, k0, k1, k2, k3, k4, hxr⟩ := hrx.get dx gx ox i sx x hx
                obtain ⟨e0, e1, e2, e3, e4, -, j0, j1, j2, j3, j4, hyr⟩ := hry.get dy gy oy i sy y hy
                have HEX : Hid (∀ sv wq, KeepX (.slice (some ⟨g, 0, none⟩) m c) w6 sv wq → wq.cell? ⟨bA, 4, none⟩ = some (.slice (some ⟨gx, ox, none⟩) z4 g4) ∧ wq.cell? ⟨bB, 4, none⟩ = some (.slice (some ⟨gy, oy, none⟩) z4 h4) ∧ wq.cell? ⟨gx, ox + i * 6 + 1, none⟩ = some d0 ∧ wq.cell? ⟨gx, ox + i * 6 + 2, none⟩ = some d1 ∧ wq.cell? ⟨gx, ox + i * 6 + 3, none⟩ = some d2 ∧ wq.cell? ⟨gx, ox + i * 6 + 4, none⟩ = some d3 ∧ wq.cell? ⟨gx, ox + i * 6 + 5, none⟩ = some d4 ∧ wq.cell? ⟨gy, oy + i * 6 + 1, none⟩ = some e0 ∧ wq.cell? ⟨gy, oy + i * 6 + 2, none⟩ = some e1 ∧ wq.cell? ⟨gy, oy + i * 6 + 3, none⟩ = some e2 ∧ wq.cell? ⟨gy, oy + i * 6 + 4, none⟩ = some e3 ∧ wq.cell? ⟨gy, oy + i * 6 + 5, none⟩ = some e4) := Lib.hid (fun sv wq hk => by
                  obtain ⟨⟨-, -, q1, q2⟩, q5, -⟩ := HEL.out w6 HB6.out sv wq hk
                  have ex := fun j => World.cell?_of_block (a := ⟨gx, j, none⟩) (q5 gx hgx)
                  have ey := fun j => World.cell?_of_block (a := ⟨gy, j, none⟩) (q5 gy hgy)
                  exact ⟨q1, q2, (ex _).trans k0, (ex _).trans k1, (ex _).trans k2, (ex _).trans k3, (ex _).trans k4, (ey _).trans j0, (ey _).trans j1, (ey _).trans j2, (ey _).trans j3, (ey _).trans j4⟩)
                have hqd := HEL.out w6 HB6.out _ _ (HKX.out.drewN 1)
                have hlen : (((pairsE dx dy).take i).reverse ++ ((pairsL lx ly).reverse ++ ps)).length = m + z3 + i := by
                  rw [List.length_append, List.length_append, List.length_reverse, List.length_reverse, List.length_take_of_le (by rw [pairsE_len _ _ HDE.out, HDD.out]; exact hi2), HM.out, pairsL_len _ _ HLE.out, HLL.out]; omega
                have HAP := Lib.hid ((HPQ.out.same (w' := wr.drewN 1) (fun _ _ => rfl) (fun _ _ => rfl)).pushX (x, y) (ObR.keep (w' := wr.drewN 1) hqd.2.1 (fun _ h => h) x hxr) (ObR.keep (w' := wr.drewN 1) hqd.2.1 (fun _ h => h) y hyr) (by rw [hlen]; have := HWL.out; omega) hqd.2.2.size HS.out)
                rw [hlen, ← rev_take (pairsE_get dx dy i sx sy x y hx hy)] at HAP
                obtain ⟨m0, m1, m2, m3, m4, m5, m6, m7, m8, m9, m10, m11⟩ := HEX.out _ _ HKX.out
                obtain ⟨a0, a1, a2, a3, a4, a5, a6, a7, a8, a9, a10, a11⟩ := HEX.out _ _ (HKX.out.drewN 1)
                have hmi : (m : Int) + (z3 : Int) + (i : Int) ≤ 1000000000 := by have := HWL.out; omega
                have hg3 : (z4 : Int) ≤ g4 := by have := HC3.out.2.2.1.1; omega
                have hh3 : (z4 : Int) ≤ h4 := by have := HC3.out.2.2.2.1; omega
                clear hx hy hgx hgy hrx hry hxr hyr k0 k1 k2 k3 k4 j0 j1 j2 j3 j4 hqd hlen
                go_upto_region 16 with fail
                refine wp_region_heldR (fun w' => w'.cell? ⟨bA, 4, none⟩ = some (.slice (some ⟨gx, ox, none⟩) z4 g4) ∧ w'.cell? ⟨bB, 4, none⟩ = some (.slice (some ⟨gy, oy, none⟩) z4 h4) ∧ w'.cell? ⟨gx, ox + i * 6 + 1, none⟩ = some d0 ∧ w'.cell? ⟨gx, ox + i * 6 + 2, none⟩ = some d1 ∧ w'.cell? ⟨gx, ox + i * 6 + 3, none⟩ = some d2 ∧ w'.cell? ⟨gx, ox + i * 6 + 4, none⟩ = some d3 ∧ w'.cell? ⟨gx, ox + i * 6 + 5, none⟩ = some d4 ∧ w'.cell? ⟨gy, oy + i * 6 + 1, none⟩ = some e0 ∧ w'.cell? ⟨gy, oy + i * 6 + 2, none⟩ = some e1 ∧ w'.cell? ⟨gy, oy + i * 6 + 3, none⟩ = some e2 ∧ w'.cell? ⟨gy, oy + i * 6 + 4, none⟩ = some e3 ∧ w'.cell? ⟨gy, oy + i * 6 + 5, none⟩ = some e4) 1000 (by kernel_rfl) ⟨a0, a1, a2, a3, a4, a5, a6, a7, a8, a9, a10, a11⟩ (fun hHeld => ?_)
                refine wpAnyR_take 0 rfl (by kernel_rfl) (by kernel_rfl) (by kernel_rfl) (by kernel_rfl) (fun _ _ _ h => h) (by rfl) (v := ?_) ?_ (by assumption) ?_
                rotate_left
                focus
                  intro wS hSw
                  (try dsimp only at hSw)
                  go_simp
                  try with_reducible rfl
                intro hHeld
                try simp only [Act.put, List.setIfInBounds_toArray, List.set_cons_zero, List.set_cons_succ]
                refine wpAnyR_take 1 rfl (by kernel_rfl) (by kernel_rfl) (by kernel_rfl) (by kernel_rfl) (fun _ _ _ h => h) (by rfl) (v := ?_) ?_ (by assumption) ?_
                rotate_left
                focus
                  intro wS hSw
                  (try dsimp only at hSw)
                  go_simp
                  try with_reducible rfl
                intro hHeld
                try simp only [Act.put, List.setIfInBounds_toArray, List.set_cons_zero, List.set_cons_succ]
                refine wpAnyR_take 2 rfl (by kernel_rfl) (by kernel_rfl) (by kernel_rfl) (by kernel_rfl) (fun _ _ _ h => h) (by rfl) (v := ?_) ?_ (by assumption) ?_
                rotate_left
                focus
                  intro wS hSw
                  (try dsimp only at hSw)
                  go_simp
                  try with_reducible rfl
                intro hHeld
                try simp only [Act.put, List.setIfInBounds_toArray, List.set_cons_zero, List.set_cons_succ]
                refine wpAnyR_take 3 rfl (by kernel_rfl) (by kernel_rfl) (by kernel_rfl) (by kernel_rfl) (fun _ _ _ h => h) (by rfl) (v := ?_) ?_ (by assumption) ?_
                rotate_left
                focus
                  intro wS hSw
                  (try dsimp only at hSw)
                  go_simp
                  try with_reducible rfl
                intro hHeld
                try simp only [Act.put, List.setIfInBounds_toArray, List.set_cons_zero, List.set_cons_succ]
                refine wpAnyR_take 4 rfl (by kernel_rfl) (by kernel_rfl) (by kernel_rfl) (by kernel_rfl) (fun _ _ _ h => h) (by rfl) (v := ?_) ?_ (by assumption) ?_
                rotate_left
                focus
                  intro wS hSw
                  (try dsimp only at hSw)
                  go_simp
                  try with_reducible rfl
                intro hHeld
                try simp only [Act.put, List.setIfInBounds_toArray, List.set_cons_zero, List.set_cons_succ]
                refine wpAnyR_take 5 rfl (by kernel_rfl) (by kernel_rfl) (by kernel_rfl) (by kernel_rfl) (fun _ _ _ h => h) (by rfl) (v := ?_) ?_ (by assumption) ?_
                rotate_left
                focus
                  intro wS hSw
                  (try dsimp only at hSw)
                  go_simp
                  try with_reducible rfl
                intro hHeld
                try simp only [Act.put, List.setIfInBounds_toArray, List.set_cons_zero, List.set_cons_succ]
                refine wpAnyR_take 6 rfl (by kernel_rfl) (by kernel_rfl) (by kernel_rfl) (by kernel_rfl) (fun _ _ _ h => h) (by rfl) (v := ?_) ?_ (by assumption) ?_
                rotate_left
                focus
                  intro wS hSw
                  (try dsimp only at hSw)
                  go_simp
                  try with_reducible rfl
                intro hHeld
                try simp only [Act.put, List.setIfInBounds_toArray, List.set_cons_zero, List.set_cons_succ]
                refine wpAnyR_take 7 rfl (by kernel_rfl) (by kernel_rfl) (by kernel_rfl) (by kernel_rfl) (fun _ _ _ h => h) (by rfl) (v := ?_) ?_ (by assumption) ?_
                rotate_left
                focus
                  intro wS hSw
                  (try dsimp only at hSw)
                  go_simp
                  try with_reducible rfl
                intro hHeld
                try simp only [Act.put, List.setIfInBounds_toArray, List.set_cons_zero, List.set_cons_succ]
                refine wpAnyR_take 8 rfl (by kernel_rfl) (by kernel_rfl) (by kernel_rfl) (by kernel_rfl) (fun _ _ _ h => h) (by rfl) (v := ?_) ?_ (by assumption) ?_
                rotate_left
                focus
                  intro wS hSw
                  (try dsimp only at hSw)
                  go_simp
                  try with_reducible rfl
                intro hHeld
                try simp only [Act.put, List.setIfInBounds_toArray, List.set_cons_zero, List.set_cons_succ]
                refine wpAnyR_take 9 rfl (by kernel_rfl) (by kernel_rfl) (by kernel_rfl) (by kernel_rfl) (fun _ _ _ h => h) (by rfl) (v := ?_) ?_ (by assumption) ?_
                rotate_left
                focus
                  intro wS hSw
                  (try dsimp only at hSw)
                  go_simp
                  try with_reducible rfl
                intro hHeld
                try simp only [Act.put, List.setIfInBounds_toArray, List.set_cons_zero, List.set_cons_succ]
                refine wpAnyR_take 10 rfl (by kernel_rfl) (by kernel_rfl) (by kernel_rfl) (by kernel_rfl) (fun _ _ _ h => h) (by rfl) (v := ?_) ?_ (by assumption) ?_
                rotate_left
                focus
                  intro wS hSw
                  (try dsimp only at hSw)
                  go_simp
                  try with_reducible rfl
                intro hHeld
                try simp only [Act.put, List.setIfInBounds_toArray, List.set_cons_zero, List.set_cons_succ]
                refine wpAnyR_take 11 rfl (by kernel_rfl) (by kernel_rfl) (by kernel_rfl) (by kernel_rfl) (fun _ _ _ h => h) (by rfl) (v := ?_) ?_ (by assumption) ?_
                rotate_left
                focus
                  intro wS hSw
                  (try dsimp only at hSw)
                  go_simp
                  try with_reducible rfl
                intro hHeld
                try simp only [Act.put, List.setIfInBounds_toArray, List.set_cons_zero, List.set_cons_succ]
                refine wpAnyR_take 12 rfl (by kernel_rfl) (by kernel_rfl) (by kernel_rfl) (by kernel_rfl) (fun _ _ _ h => h) (by rfl) (v := ?_) ?_ (by assumption) ?_
                rotate_left
                focus
                  intro wS hSw
                  (try dsimp only at hSw)
                  go_simp
                  try with_reducible rfl
                intro hHeld
                try simp only [Act.put, List.setIfInBounds_toArray, List.set_cons_zero, List.set_cons_succ]
                refine wpAnyR_take 13 rfl (by kernel_rfl) (by kernel_rfl) (by kernel_rfl) (by kernel_rfl) (fun _ _ _ h => h) (by rfl) (v := ?_) ?_ (by assumption) ?_
                rotate_left
                focus
                  intro wS hSw
                  (try dsimp only at hSw)
                  go_simp
                  try with_reducible rfl
                intro hHeld
                try simp only [Act.put, List.setIfInBounds_toArray, List.set_cons_zero, List.set_cons_succ]
                refine wpAnyR_step 14 rfl (by kernel_rfl) (fun K hK => ?_)
                go_simp
                refine hK.out _ _ (by go_keep) (fun hHeld => ?_)
                clear hK K
                try simp only [Act.put, List.setIfInBounds_toArray, List.set_cons_zero, List.set_cons_succ]
                refine wpAnyR_step 15 rfl (by kernel_rfl) (fun K hK => ?_)
                obtain ⟨A6, c6, w7, hrun, ho6, hk6⟩ := HAP.out
                refine step_append_run9 rfl (.tmp 66) (.tmp 80) 60 rfl (.slice AX (m + z3 + i) cX) (.slice (some ⟨wr.heap.size, 0, none⟩) 1 1) rfl rfl hrun ?_
                have HK7 := Lib.hid (HKX.out.trans (show KeepX (.slice AX (m + z3 + i) cX) wr (.slice A6 (m + z3 + i + 1) c6) w7 from ⟨hk6.os, hk6.tape, hk6.output, hk6.size, hk6.block, hk6.own⟩))
                have HO7 := Lib.hid ho6
                have b12 := HEX.out _ _ HK7.out
                clear hrun ho6 hk6
                refine hK.out _ _ b12 (fun hHeld => ?_)
                clear hK K
                try simp only [Act.put, List.setIfInBounds_toArray, List.set_cons_zero, List.set_cons_succ]
                refine wpAnyR_take 16 rfl (by kernel_rfl) (by kernel_rfl) (by kernel_rfl) (by kernel_rfl) (fun _ _ _ h => h) (by rfl) (v := ?_) ?_ (by assumption) ?_
                rotate_left
                focus
                  intro wS hSw
                  (try dsimp only at hSw)
                  go_simp
                  try with_reducible rfl
                intro hHeld
                try simp only [Act.put, List.setIfInBounds_toArray, List.set_cons_zero, List.set_cons_succ]
                refine wpAnyR_done (by kernel_rfl) ?_
                refine NoPanic.normal ?_
                go_wp2_with fail
                go_roundw
                case rel => exact ⟨i + 1, c6, A6, by omega, by go_num, rfl, HO7, HK7⟩
                case measure => simp [intOf]; omega
              · obtain rfl : z4 = i := by omega
                have hPQ := HPQ.out
                rw [List.take_of_length_le (by rw [pairsE_len _ _ HDE.out, HDD.out]; exact Nat.le_refl _)] at hPQ
                have HPE : Hid (PrS wr S w.heap.size (.slice AX (m + z3 + z4) cX) (nextP (Ob.mk kx nx bx lx dx, Ob.mk ky ny by_ ly dy) ps)) := Lib.hid hPQ
                have HBQ := Lib.hid (HEL.out w6 HB6.out _ _ HKX.out).2.2
                clear hPQ HPQ hlt
                go_wp2_with fail
                go_roundg (szS (nextP (Ob.mk kx nx bx lx dx, Ob.mk ky ny by_ ly dy) ps))
                case measure => exact Nat.lt_of_lt_of_le HSN.out HMS.out
                case rel => exact ⟨_, _, rfl, Nat.le_refl _, HPE, HPN, HMN, HRN, HBQ⟩
end
end Go.Proofs.Ytdkmomdioiipjaa
