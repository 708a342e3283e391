/- Contracts of functions that the law calls, and what they lean on (a part). -/
import Derived.Maps.OwnSet
import Derived.StringKeys
import Derived.Test.YtdkmomdioiipjaaCed1
namespace Go.Proofs.Ytdkmomdioiipjaa
section
open Go.RowKit Go.Maps Go.ChangeMaps Go.MapKept Go.ChangeShapes Go.WideShapes
set_option linter.unusedVariables false
set_option maxRecDepth 100000
theorem str_law : Keyed Try.prog 9 := string_keyed Try.underlying9
theorem zero_unit (w : World) : (zeroValue 88).run Try.prog w = .ok (.agg #[]) w := by kernel_rfl
theorem key_inj {s t : ByteArray} (h : Lit.string s.data.toList = Lit.string t.data.toList) : s = t := by
  injection h with h
  rcases s with ⟨⟨a⟩⟩
  rcases t with ⟨⟨b⟩⟩
  simp at h
  rw [h]
/-- Block B is the set F. -/
def SetS (w : World) (B n : Nat) (F : ByteArray → Bool) : Prop :=
  ∃ D : DataW Unit, w.ownsMap Try.prog 9 (unitElem (H := Unit)) B n D ∧ ∀ s : ByteArray, s.size ≤ maxLen → Maps.has D (.string s.data.toList) = F s
section
variable {w w' : World} {B n : Nat} {F : ByteArray → Bool}
theorem SetS.lt (h : SetS w B n F) : B < w.heap.size := by
  obtain ⟨D, h1, _⟩ := h
  exact h1.lt
theorem SetS.keep (h : SetS w B n F) (hb : w'.heap[B]? = w.heap[B]?) : SetS w' B n F := by
  obtain ⟨D, ⟨es, clock, h1, h2⟩, h3⟩ := h
  exact ⟨D, ⟨es, clock, hb.trans h1, h2⟩, h3⟩
theorem SetS.made (w : World) : SetS (w.alloc (.map #[] 0)) w.heap.size 0 (fun _ => false) :=
  ⟨_, World.ownsMap_made _ _ _ _, fun s _ => by simp [Maps.has]⟩
theorem SetS.look (h : SetS w B n F) (s : ByteArray) (hs : s.size ≤ maxLen) :
    (Instr.lookup 87 (.map (some B)) (.string s) true).run Try.prog w = .ok (.tuple #[.agg #[], .bool (F s)]) w := by
  obtain ⟨D, h1, h3⟩ := h
  obtain ⟨v, ps, hrun, hv⟩ := h1.look_ok str_law Try.underlying87 (zero_unit w) (unitElem_mk (H := Unit)) (WideMaps.keyOf_string_mk Try.underlying9 hs)
  obtain ⟨rfl, _⟩ := unitElem_inv hv
  rw [h3 s hs] at hrun
  exact hrun
theorem SetS.put (h : SetS w B n F) (s : ByteArray) (hs : s.size ≤ maxLen) (hn : n < maxLen) :
    ∃ w', (Instr.mapUpdate 87 (.map (some B)) (.string s) (.agg #[])).run Try.prog w = .ok () w' ∧ SetS w' B (n + 1) (fun t => F t || decide (s = t)) ∧ Only B w w' := by
  obtain ⟨D, h1, h3⟩ := h
  have hk := WideMaps.keyOf_string_mk (P := Try.prog) Try.underlying9 hs
  have hD := h1.isMap
  obtain ⟨w', hrun, ho, hg⟩ := h1.update str_law Try.underlying87 hn hk (unitElem_mk (H := Unit))
  refine ⟨w', hrun, ⟨_, ho, fun t ht => ?_⟩, ⟨hg.os, hg.tape, hg.output, hg.size, fun i hi hne => hg.block i hi (fun e => by injection e with e; exact hne e)⟩⟩
  by_cases e : s = t
  · subst e
    rw [has_put_same hD (str_law.key hk) _]
    simp
  · rw [has_put_other (fun e2 => e (key_inj e2.symm)), h3 t ht]
    simp [e]
end
theorem wpList_lookup_run {P : Program} {w : World} {ops : Array Oper} {rest : List Oper} {o : Oper} {a : Act} {Q : Exit → Act → World → Prop} (hg : o.guard = none) (m x : Operand) (t : TypeId) (hop : o.op = Op.lookup t m x true)
    (mv key v : Value) (hm : a.eval m = mv) (hx : a.eval x = key) (hrun : (Instr.lookup t mv key true).run P w = .ok v w) (hK : wpList P ops Q rest (a.put o.dst v) w) : wpList P ops Q (o :: rest) a w := by
  refine wpList_plain hg fun K' hK' => ?_
  unfold Oper.wp
  simp [execOp, hop, hm, hx, hrun, Result.andThen]
  exact hK' _ _ hK
theorem wpList_mapUpdate_run {P : Program} {w w' : World} {ops : Array Oper} {rest : List Oper} {o : Oper} {a : Act} {Q : Exit → Act → World → Prop} (hg : o.guard = none) (m x v : Operand) (t : TypeId) (hop : o.op = Op.mapUpdate t m x v)
    (mv key val : Value) (hm : a.eval m = mv) (hx : a.eval x = key) (hv : a.eval v = val) (hrun : (Instr.mapUpdate t mv key val).run P w = .ok () w') (hK : wpList P ops Q rest (a.put o.dst undef) w') : wpList P ops Q (o :: rest) a w := by
  refine wpList_plain hg fun K' hK' => ?_
  unfold Oper.wp
  simp [execOp, hop, hm, hx, hv, hrun, Result.andThen]
  exact hK' _ _ hK
end
end Go.Proofs.Ytdkmomdioiipjaa
