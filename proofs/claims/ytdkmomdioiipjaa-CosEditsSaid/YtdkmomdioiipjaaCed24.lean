/- Contracts of functions that the law calls, and what they lean on (a part). -/
import Derived.Test.YtdkmomdioiipjaaCed20
import Derived.Test.YtdkmomdioiipjaaCed22
import Derived.Test.YtdkmomdioiipjaaCed23
namespace Go.Proofs.Ytdkmomdioiipjaa
section
open Go.ChangeShapes Go.WideShapes Go.ChangeAt Go.RowKit Go.Deep
set_option linter.unusedVariables false
set_option maxRecDepth 100000
section
variable {H : Type} {enc : TypeId × Value → H} {W : World} {base : Nat} {sp : Nat → Bool} {held : Bool}
theorem open_obj {cs : Array Value} {d : DataW H} {p : List MemPlace} (h : DataW.Trod enc Try.prog W base sp held 27 (.agg cs) d p) (hsp : ∀ b, sp b = true) :
    ∃ x c0 c1 c2 c3 c4, cs = #[c0, c1, c2, c3, c4] ∧ ObR W (fun g => g < W.heap.size) x c0 c1 c2 c3 c4 := by
  obtain ⟨fuel, hf⟩ := h
  have hcl : (Value.agg cs).cells.toList = cs.toList := by simp [Value.cells]
  rw [hcl] at hf
  obtain ⟨x, c0, c1, c2, c3, c4, e, hx⟩ := open_ob hsp fuel _ _ hf
  exact ⟨x, c0, c1, c2, c3, c4, by cases cs; simp_all, hx⟩
end
end

section
open Go.RowKit Go.Sort
set_option linter.unusedVariables false
set_option maxRecDepth 100000
theorem Ens.toL_get : ∀ (l : Ens) (i : Nat), l.toL[i]? = l.get? i
  | .nil, i => by simp [Ens.toL, Ens.get?]
  | .cons s x xs, 0 => by simp [Ens.toL, Ens.get?]
  | .cons s x xs, i + 1 => by rw [Ens.toL, List.getElem?_cons_succ, Ens.get?]; exact Ens.toL_get xs i
/-- What an operation of the region leaves. -/
def gotZ (x : Ob) (v : Value) (z : Zone) (w : World) : Prop := ∃ d0 d1 d2 d3 d4, v = .agg #[d0, d1, d2, d3, d4] ∧ ObR w (fun g => z.1 ≤ g ∧ g < z.2) x d0 d1 d2 d3 d4
def boxZ (v : Value) (z : Zone) (w : World) : Prop := v = .pointer (some ⟨z.1, 0, none⟩) ∧ z.1 < z.2 ∧ ∃ z0 z1 z2 z3 z4, w.heap[z.1]? = some (.cells #[z0, z1, z2, z3, z4] 27 (0, 0))
def heldZ (u v : Value) (z : Zone) (w : World) : Prop := ∃ d0 d1 d2 d3 d4, u = .agg #[d0, d1, d2, d3, d4] ∧ v = .pointer (some ⟨z.1, 0, none⟩) ∧ z.1 < z.2 ∧ w.heap[z.1]? = some (.cells #[d0, d1, d2, d3, d4] 27 (0, 0))
section
variable {N : Nat} {z : Zone} {w : World}
theorem gotZ.stab {x : Ob} {v : Value} (h : gotZ x v z w) (hz : z.2 ≤ w.heap.size) : Stab N z (gotZ x v z) w := fun w' _ hb => by
  obtain ⟨d0, d1, d2, d3, d4, e, ho⟩ := h
  exact ⟨d0, d1, d2, d3, d4, e, ObR.keep (fun g hg => hb g (by omega) (.inr hg)) (fun _ h => h) _ ho⟩
theorem boxZ.stab {v : Value} (h : boxZ v z w) : Stab N z (boxZ v z) w := fun w' _ hb => by
  obtain ⟨e, hl, z0, z1, z2, z3, z4, hh⟩ := h
  exact ⟨e, hl, z0, z1, z2, z3, z4, (hb z.1 (row_lt _ _ _ hh) (.inr ⟨Nat.le_refl _, hl⟩)).trans hh⟩
theorem heldZ.stab {u v : Value} (h : heldZ u v z w) : Stab N z (heldZ u v z) w := fun w' _ hb => by
  obtain ⟨d0, d1, d2, d3, d4, e, e2, hl, hh⟩ := h
  exact ⟨d0, d1, d2, d3, d4, e, e2, hl, (hb z.1 (row_lt _ _ _ hh) (.inr ⟨Nat.le_refl _, hl⟩)).trans hh⟩
end
section
variable {N : Nat} {W0 : World} {Pr : Nat → (Nat → Value) → Zone → World → Prop} {dep : Nat → List Nat} {eat : Nat → Option Nat} {Zo : Nat → Zone} {L : Nat → Bool} {V : Nat → Value} {w w' : World}
/-- An object is stored in its box. -/
theorem ZF.fill (loc : ∀ i V V' z w, (∀ j ∈ dep i, V j = V' j) → Pr i V z w → Pr i V' z w) (h : ZF N W0 Pr dep eat Zo L V w) (hN : N = W0.heap.size) {i j : Nat} (hi : L i = false) (hdep : ∀ j ∈ dep i, j = i ∨ L j = true) (hj : eat j = some i) (hlj : L j = true)
    {b : Nat} {d0 d1 d2 d3 d4 : Value} {W' : World} (hW' : (((((w.setCell ⟨b, 0, none⟩ d0).setCell ⟨b, 1, none⟩ d1).setCell ⟨b, 2, none⟩ d2).setCell ⟨b, 3, none⟩ d3).setCell ⟨b, 4, none⟩ d4) = W') (ho : boxZ (.pointer (some ⟨b, 0, none⟩)) (Zo j) w) (hp : ∀ z w2, heldZ (.agg #[d0, d1, d2, d3, d4]) (.pointer (some ⟨b, 0, none⟩)) z w2 → Pr i (updF V i undef) z w2) :
    ZF N W0 Pr dep eat (updF Zo i (Zo j)) (updF L i true) (updF V i undef) W' := by
  have hr := h.rng j hlj (fun c hc => by rw [hj] at hc; injection hc with hc; subst hc; exact hi)
  obtain ⟨e, hl, z0, z1, z2, z3, z4, hh⟩ := ho
  injection e with e
  injection e with e
  injection e with e
  subst e
  have hrow := set5_row (x0 := d0) (x1 := d1) (x2 := d2) (x3 := d3) (x4 := d4) hh
  have hoth := fun b (hb : b ≠ (Zo j).1) => heap_set5 (W := w) (x0 := d0) (x1 := d1) (x2 := d2) (x3 := d3) (x4 := d4) hb
  have hsz := size_set5 (W := w) (g := (Zo j).1) (x0 := d0) (x1 := d1) (x2 := d2) (x3 := d3) (x4 := d4)
  rw [hW'] at hrow hsz
  simp only [hW'] at hoth
  have hb5 := below_set5 (g := (Zo j).1) (x0 := d0) (x1 := d1) (x2 := d2) (x3 := d3) (x4 := d4) (Below.refl 0 w) (Nat.zero_le _)
  rw [hW'] at hb5
  have hos := hb5.os
  have htp := hb5.tape
  have hou := hb5.output
  clear hW' hb5
  have hk : ∀ b, b < w.heap.size → (∀ j, eat j = some i → L j = true → ¬ ((Zo j).1 ≤ b ∧ b < (Zo j).2)) → W'.heap[b]? = w.heap[b]? := fun b hb hno => by
    refine hoth b (fun e => ?_)
    subst e
    exact hno j hj hlj ⟨Nat.le_refl _, hl⟩
  have hst : Stab N (Zo j) (Pr i (updF V i undef) (Zo j)) W' := (heldZ.stab ⟨d0, d1, d2, d3, d4, rfl, rfl, hl, hrow⟩).mono (fun w2 h2 => hp _ w2 h2)
  have hsl : w.heap.size ≤ W'.heap.size := by rw [hsz]; exact Nat.le_refl _
  have hz3 : (Zo j).2 ≤ W'.heap.size := by rw [hsz]; exact hr.2.2
  clear hrow hoth hsz hh hp
  exact ZF.move (w := w) (w' := W') (v := undef) (z := Zo j) loc h hN hi hdep hos htp hou hsl hk ⟨hr.1, hr.2.1, hz3⟩ (.inr (.inr ⟨j, hj, hlj, Nat.le_refl _, Nat.le_refl _⟩)) hst
end
/-- An append in a region that draws its order. -/
theorem wpOp_appendV {P : Program} {l : List Oper} {Q : Exit → Act → World → Prop} {i : Nat} {o : Oper} {K : Act → World → Prop} {a : Act} {w w' : World} {s x : Operand} {t : TypeId} {v v1 v2 : Value} (ho : l[i]? = some o) (hg : o.guard = none) (hop : o.op = .call { callee := .builtin .append, args := #[s, x], argTypes := #[t, t] })
    (h1 : a.eval s = v1) (h2 : a.eval x = v2) (hrun : (Builtin.append_ #[t, t] o.type #[v1, v2]).run P w = .ok v w') (h : K (a.put o.dst v) w') : wpOp P l.toArray Q i K a w := by
  refine wpOp_valueV ho hg ?_ h
  simp [execOp, hop, resolve, invoke, builtin, h1, h2, hrun, Result.andThen]
section
variable {N : Nat} {W0 : World} {Pr : Nat → (Nat → Value) → Zone → World → Prop} {dep : Nat → List Nat} {eat : Nat → Option Nat} {Zo : Nat → Zone} {L : Nat → Bool} {V : Nat → Value} {w : World}
theorem ZF.get (h : ZF N W0 Pr dep eat Zo L V w) {j : Nat} (hl : L j = true) (he : eat j = none) : Pr j V (Zo j) w := (h.at_ j hl (fun c hc => by rw [he] at hc; cases hc)).now
theorem ZF.getE (h : ZF N W0 Pr dep eat Zo L V w) {i j : Nat} (hl : L j = true) (he : eat j = some i) (hi : L i = false) : Pr j V (Zo j) w := (h.at_ j hl (fun c hc => by rw [he] at hc; injection hc with hc; subst hc; exact hi)).now
end
theorem Agree.evT {l : List Oper} {L : Nat → Bool} {V : Nat → Value} {a0 a : Act} (h : Agree l L V a0 a) {j k : Nat} {o : Oper} (ho : l[j]? = some o) (hk : o.dst = some k) (hl : L j = true) : a.eval (.tmp k) = V j := by
  have e := h.ev ho hk hl
  rw [← Array.getD_eq_getD_getElem?] at e
  exact e
end
end Go.Proofs.Ytdkmomdioiipjaa
