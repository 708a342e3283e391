/- Chapter 8, the project's own table: a map from a row's code and a byte to a code. -/
import Derived.Test.YtpnnejedfccckaaPr8
import Derived.Maps.OwnSet
import Derived.DeepKeys4
namespace Go.Proofs.Ytpnnejedfccckaa
open Go.RowKit Go.Maps Go.ChangeMaps Go.MapKept Go.ChangeShapes Go.WideShapes
set_option linter.unusedVariables false
set_option maxRecDepth 100000

def kyV (r : Nat) (c : Int) : Value := .agg #[.int .i64 r, .int .u8 c]
def kyL (r : Nat) (c : Int) : Lit := .string (keyBytes [.int .i64 r, .int .u8 c])
theorem ky_law : Keyed Try.prog 79 := Keyed.of_law (deep_law_laid (by kernel_rfl) (m := 2) (by omega) (of_decide_eq_true (by kernel_rfl)) (by kernel_rfl) (by rw [Try.underlying79]))
theorem ky_of (r : Nat) (c : Int) (hr : r ≤ 100000) (c0 : 0 ≤ c) (c1 : c < 256) : keyOf Try.prog 79 (kyV r c) = some (kyL r c) := by
  obtain ⟨d, hd⟩ : ∃ d, Try.prog.types.size + 1 = d + 2 := ⟨Try.prog.types.size - 1, by have : 0 < Try.prog.types.size := of_decide_eq_true (by kernel_rfl); omega⟩
  have hk : Try.prog.keyType 79 = true := by kernel_rfl
  have hc : Try.prog.cellsOf 79 = 2 := by kernel_rfl
  have hc1 : Try.prog.cellsOf 3 = 1 := by kernel_rfl
  have hc2 : Try.prog.cellsOf 5 = 1 := by kernel_rfl
  have hw1 : (Lit.int .i64 (r : Int)).wf = true := WalkArith.wf_i64 (by omega)
  have hw2 : (Lit.int .u8 c).wf = true := by simp [Lit.wf, IntKind.min, IntKind.max, IntKind.signed, IntKind.bits]; omega
  unfold keyOf
  rw [Try.underlying79, hk, hd]
  simp [kyV, kyL, Value.formed, Value.cells, Program.keyLits, Try.underlying79, Try.underlying3, Try.underlying5, hc, hc1, hc2, hw1, hw2]
theorem ky_inj {r r' : Nat} {c c' : Int} (hr : r ≤ 100000) (hr' : r' ≤ 100000) (hc : 0 ≤ c ∧ c < 256) (hc' : 0 ≤ c' ∧ c' < 256) (h : kyL r c = kyL r' c') : r = r' ∧ c = c' := by
  have e := ky_law.inj (ky_of r c hr hc.1 hc.2) (by rw [h]; exact ky_of r' c' hr' hc'.1 hc'.2)
  unfold kyV at e
  injection e with e
  have e1 := congrArg (fun a : Array Value => a[0]?) e
  have e2 := congrArg (fun a : Array Value => a[1]?) e
  simp at e1 e2
  exact ⟨by omega, e2⟩
theorem zero_int (w : World) : (zeroValue 3).run Try.prog w = .ok (.int .i64 0) w := by kernel_rfl
/-- Block B is the table F. -/
def MapF (w : World) (B n : Nat) (F : Nat → Int → Option Nat) : Prop :=
  ∃ D : DataW Unit, w.ownsMap Try.prog 79 (plainElem Try.prog 3) B n D ∧ ∀ r c, r ≤ 100000 → 0 ≤ c → c < 256 → Maps.has D (kyL r c) = (F r c).isSome ∧ ∀ v : Nat, F r c = some v → D.atKey (kyL r c) (.lit (.int .i64 0)) = .lit (.int .i64 v)
section
variable {w w' : World} {B n : Nat} {F : Nat → Int → Option Nat}
theorem MapF.lt (h : MapF w B n F) : B < w.heap.size := by
  obtain ⟨D, h1, _⟩ := h
  exact h1.lt
theorem MapF.keep (h : MapF w B n F) (hb : w'.heap[B]? = w.heap[B]?) : MapF w' B n F := by
  obtain ⟨D, ⟨es, clock, h1, h2⟩, h3⟩ := h
  exact ⟨D, ⟨es, clock, hb.trans h1, h2⟩, h3⟩
theorem MapF.drewN (h : MapF w B n F) (k : Nat) : MapF (w.drewN k) B n F := h.keep rfl
theorem MapF.mono (h : MapF w B n F) {m : Nat} (hm : n ≤ m) : MapF w B m F := by
  obtain ⟨D, h1, h3⟩ := h
  exact ⟨D, h1.mono hm, h3⟩
theorem MapF.made (w : World) : MapF (w.alloc (.map #[] 0)) w.heap.size 0 (fun _ _ => none) := by
  refine ⟨_, World.ownsMap_made _ _ _ _, fun r c _ _ _ => ⟨by simp [Maps.has], fun v h => by cases h⟩⟩
theorem MapF.look (h : MapF w B n F) (r : Nat) (c : Int) (hr : r ≤ 100000) (c0 : 0 ≤ c) (c1 : c < 256) :
    ∃ v : Int, (Instr.lookup 45 (.map (some B)) (kyV r c) true).run Try.prog w = .ok (.tuple #[.int .i64 v, .bool (F r c).isSome]) w ∧ ∀ x : Nat, F r c = some x → v = x := by
  obtain ⟨D, h1, h3⟩ := h
  obtain ⟨v, ps, hrun, hv⟩ := h1.look_ok ky_law Try.underlying45 (zero_int w) (plainElem_int Try.underlying3 (by decide)) (ky_of r c hr c0 c1)
  obtain ⟨a, rfl, ha, hwa⟩ := plainElem_int_inv Try.underlying3 hv
  obtain ⟨h4, h5⟩ := h3 r c hr c0 c1
  rw [h4] at hrun
  refine ⟨a, hrun, fun x hx => ?_⟩
  have e := h5 x hx
  simp only [Prod.mk.injEq] at ha
  rw [ha.1] at e
  injection e with e
  injection e
def updF (F : Nat → Int → Option Nat) (r : Nat) (c : Int) (v : Nat) : Nat → Int → Option Nat := fun r' c' => if r' = r ∧ c' = c then some v else F r' c'
theorem MapF.put (h : MapF w B n F) (r v : Nat) (c : Int) (hr : r ≤ 100000) (c0 : 0 ≤ c) (c1 : c < 256) (hv : v ≤ 100000) (hn : n ≤ 100000) :
    ∃ w', (Instr.mapUpdate 45 (.map (some B)) (kyV r c) (.int .i64 v)).run Try.prog w = .ok () w' ∧ MapF w' B (n + 1) (updF F r c v) ∧ Only B w w' := by
  obtain ⟨D, h1, h3⟩ := h
  have hk := ky_of r c hr c0 c1
  have hD := h1.isMap
  obtain ⟨w', hrun, ho, hg⟩ := h1.update ky_law Try.underlying45 (by unfold maxLen; omega) hk (plainElem_int Try.underlying3 (a := (v : Int)) (WalkArith.wf_i64 (by omega)))
  refine ⟨w', hrun, ⟨_, ho, fun r' c' hr' h0' h1' => ?_⟩, ⟨hg.os, hg.tape, hg.output, hg.size, fun i hi hne => hg.block i hi (fun e => by injection e with e; exact hne e)⟩⟩
  unfold updF
  by_cases e : r' = r ∧ c' = c
  · obtain ⟨rfl, rfl⟩ := e
    rw [if_pos ⟨rfl, rfl⟩]
    refine ⟨has_put_same hD (ky_law.key hk) _, fun x hx => ?_⟩
    injection hx with hx
    subst hx
    exact atKey_put_same hD (ky_law.key hk) _ _
  · rw [if_neg e]
    have hne : kyL r' c' ≠ kyL r c := fun e2 => e (ky_inj hr' hr ⟨h0', h1'⟩ ⟨c0, c1⟩ e2)
    rw [has_put_other hne]
    refine ⟨(h3 r' c' hr' h0' h1').1, fun x hx => ?_⟩
    rw [atKey_put_other hne]
    exact (h3 r' c' hr' h0' h1').2 x hx
theorem MapF.clear (h : MapF w B n F) (ty : TypeId) : ∃ w', (Builtin.clear_ #[45] ty #[.map (some B)]).run Try.prog w = .ok (.tuple #[]) w' ∧ MapF w' B 0 (fun _ _ => none) ∧ Only B w w' := by
  have hlt := h.lt
  obtain ⟨D, ⟨es, clock, hb, hF, hs, hD⟩, h3⟩ := h
  refine ⟨setBlock w B (.map #[] clock), by simp [Builtin.clear_, run_underlying Try.underlying45, MapKept.run_getObj_map hb, MapKept.run_setObj_map _ hb, Result.andThen, setBlock], ⟨.map [], ⟨#[], clock, heap_setBlock_same hb _, ⟨by simp, ?_, by simp⟩, by simp, rfl⟩, fun r c _ _ _ => ⟨by simp [Maps.has], fun v h => by cases h⟩⟩, ⟨rfl, rfl, rfl, by simp [setBlock], fun i hi hne => heap_setBlock_other hb _ hne⟩⟩
  exact stamped_empty clock
end
/-- 'clear(m)', a store into a map: at the operation, for the walk. -/
theorem wpList_clear_run {P : Program} {w w' : World} {ops : Array Oper} {rest : List Oper} {o : Oper} {a : Act} {Q : Exit → Act → World → Prop} (hg : o.guard = none) (m : Operand) (t : TypeId) (hop : o.op = Op.call { callee := Callee.builtin Builtin.clear, args := #[m], argTypes := #[t] })
    (v : Value) (hm : a.eval m = v) (hrun : (Builtin.clear_ #[t] o.type #[v]).run P w = .ok (.tuple #[]) w') (hK : wpList P ops Q rest (a.put o.dst (.tuple #[])) w') : wpList P ops Q (o :: rest) a w := by
  refine wpList_plain hg fun K' hK' => ?_
  unfold Oper.wp
  simp [execOp, hop, resolve, invoke, builtin, hm, hrun, Result.andThen]
  exact hK' _ _ hK
theorem wpList_mapUpdate_run {P : Program} {w w' : World} {ops : Array Oper} {rest : List Oper} {o : Oper} {a : Act} {Q : Exit → Act → World → Prop} (hg : o.guard = none) (m x v : Operand) (t : TypeId) (hop : o.op = Op.mapUpdate t m x v)
    (mv key val : Value) (hm : a.eval m = mv) (hx : a.eval x = key) (hv : a.eval v = val) (hrun : (Instr.mapUpdate t mv key val).run P w = .ok () w') (hK : wpList P ops Q rest (a.put o.dst undef) w') : wpList P ops Q (o :: rest) a w := by
  refine wpList_plain hg fun K' hK' => ?_
  unfold Oper.wp
  simp [execOp, hop, hm, hx, hv, hrun, Result.andThen]
  exact hK' _ _ hK
end Go.Proofs.Ytpnnejedfccckaa
