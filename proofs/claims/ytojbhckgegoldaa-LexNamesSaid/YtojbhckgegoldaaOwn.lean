/- A row of bytes that the call makes itself, by append: what it holds, and that it stays; all parts one behind the other. -/
import Derived.Test.YtojbhckgegoldaaBytes
import Derived.Outline
import Derived.LoopTactic
import Derived.Lib.SlFresh
import Derived.OwnWalk
import Derived.Maps.AppendAt
import Derived.Lib.AppendZerosOnto
import Derived.Lib.SliceRun
import Derived.Lib.Walk
namespace Go.Proofs.Ytojbhckgegoldaa
open Go.RowKit
set_option linter.unusedVariables false
set_option maxRecDepth 100000

theorem info5 : (Try.prog.info? 5).map (fun i => (i.zero, i.size, i.bytes)) = some (some (.int .u8 0), 1, 1) := by kernel_rfl

/-- v is a slice of the call's own, in a block from 'base' on, that holds the p bytes zs. -/
structure Mine (w : World) (base : Nat) (v : Value) (p : Nat) (zs : List Int) : Prop where
  own : w.ownsRow base 5 1 v p (zs.map (Value.int .u8))
  rng : ∀ z ∈ zs, 0 ≤ z ∧ z < 256

section
variable {w w' : World} {base p : Nat} {v : Value} {zs : List Int}
theorem Mine.len (h : Mine w base v p zs) : zs.length = p := by have := h.own.1; simp at this; exact this

theorem Mine.nil (w : World) (base : Nat) : Mine w base (.slice none 0 0) 0 [] := ⟨⟨rfl, .inl ⟨rfl, rfl⟩⟩, fun _ h => by cases h⟩

theorem Mine.only (h : Mine w base v p zs) {g : Nat} (ho : Only g w w') (hg : g < base) : Mine w' base v p zs := by
  refine ⟨⟨h.own.1, ?_⟩, h.rng⟩
  rcases h.own.2 with h0 | ⟨b, cap, cur, hv, hb, hh, hr⟩
  · exact .inl h0
  · refine .inr ⟨b, cap, cur, hv, hb, ?_, hr⟩
    have hlt : b < w.heap.size := by
      rcases Nat.lt_or_ge b w.heap.size with hlt | hge
      · exact hlt
      · rw [Array.getElem?_eq_none hge] at hh; cases hh
    rw [ho.block b hlt (by omega)]
    exact hh

theorem Mine.drewN (h : Mine w base v p zs) (k : Nat) : Mine (w.drewN k) base v p zs := ⟨h.own, h.rng⟩

theorem Mine.byt (h : Mine w base v p zs) : ∃ A c, v = .slice A p c ∧ Byt w w.heap.size A p c zs := by
  rcases h.own.2 with ⟨rfl, h0⟩ | ⟨b, cap, cur, rfl, hb, hh, hnc, _⟩
  · subst h0
    exact ⟨none, 0, rfl, h.len, Nat.le_refl _, h.rng, fun h => absurd h (by omega)⟩
  · refine ⟨some ⟨b, 0, none⟩, cap, rfl, h.len, hnc, h.rng, fun h0 => ?_⟩
    have hlt : b < w.heap.size := by
      rcases Nat.lt_or_ge b w.heap.size with hlt | hge
      · exact hlt
      · rw [Array.getElem?_eq_none hge] at hh; cases hh
    refine ⟨b, 0, rfl, hlt, fun i hi => ?_⟩
    have hci := h.own.cells (g := b) rfl i (.int .u8 (zs.getD i 0)) (by simp [List.getD, h.len, hi])
    have e2 : (⟨b, 0, none⟩ : Addr).add i = ⟨b, 0 + i, none⟩ := by unfold Addr.add; split <;> simp_all
    rw [← e2]; exact hci

/-- Beyond what was there, the row of v alone may have changed. -/
theorem Mine.append (h : Mine w base v p zs) {B m c : Nat} {A : Option Addr} {ys : List Int} (hy : Byt w B A m c ys) (ty : TypeId) (hb : p + m ≤ 140737488355328) (hbase : base ≤ w.heap.size) :
    ∃ v' w', (Builtin.append_ #[25, 25] ty #[v, .slice A m c]).run Try.prog w = .ok v' w' ∧ Mine w' base v' (p + m) (zs ++ ys) ∧ Below base w w' := by
  obtain ⟨i0, hi, hz0, hz1, hz2⟩ := info_parts info5
  have hrng : ∀ z ∈ zs ++ ys, 0 ≤ z ∧ z < 256 := fun z hz => by
    rcases List.mem_append.1 hz with hz | hz
    · exact h.rng z hz
    · exact hy.rng z hz
  have key : m = 0 ∨ 0 < m := by omega
  rcases A with _ | a
  · have h0 : m = 0 := by
      rcases key with h0 | h0
      · exact h0
      · obtain ⟨b, o, e, _⟩ := hy.cell h0
        cases e
    subst h0
    have hn : ys = [] := List.eq_nil_of_length_eq_zero hy.len
    subst hn
    refine ⟨v, w, ?_, by simpa using h, Below.refl _ _⟩
    rcases h.own.2 with ⟨rfl, _⟩ | ⟨b, cap, cur, rfl, _, _, hnc, _⟩
    · simp [Builtin.append_, run_underlying Try.underlying25, sizeOf, typeInfo, hi, Builtin.lenOf, Builtin.firstCells]
    · simp [Builtin.append_, run_underlying Try.underlying25, sizeOf, typeInfo, hi, Builtin.lenOf, Builtin.firstCells, hnc, storeCells]
  · have hcell : ∀ j u, (ys.map (Value.int .u8))[j]? = some u → w.cell? (a.add j) = some u := by
      intro j u hj
      have hjl : j < ys.length := by have := (List.getElem?_eq_some_iff.1 hj).1; simpa using this
      have hyl := hy.len
      obtain ⟨b, o, e, _, hc⟩ := hy.cell (by omega)
      injection e with e
      subst e
      have e2 : (⟨b, o, none⟩ : Addr).add j = ⟨b, o + j, none⟩ := by unfold Addr.add; split <;> simp_all
      rw [e2, hc j (by omega), ← hj]
      simp [List.getD, hjl]
    obtain ⟨v', w', hr, hown, hgr, _, hat⟩ := run_append_own_at (P := Try.prog) w base 25 ty 5 i0 _ 1 1 Try.underlying25 hi hz0 hz1 hz2 rfl (by omega) v p _ h.own a m c (ys.map (Value.int .u8))
      (by simp [hy.len]) hcell (fun u hu => by obtain ⟨x, _, rfl⟩ := List.mem_map.1 hu; rfl) (by simp only [maxLen]; omega) (by omega) hbase
    refine ⟨v', w', hr, ⟨by simpa using hown, hrng⟩, hgr.os, hgr.tape, hgr.output, hgr.size, fun k hk => hgr.block k (Nat.lt_of_lt_of_le hk hbase) (fun e => ?_)⟩
    rcases h.own.2 with ⟨rfl, _⟩ | ⟨b, cap, cur, rfl, hb, _⟩
    · simp [Value.ownBlock] at e
    · simp [Value.ownBlock] at e
      omega

end

/-- 'b[:h]'. -/
theorem run_cut0 {P : Program} (W : World) (t e : TypeId) (ht : P.underlying t = some (.slice e)) (hz : ∀ w, (Go.sizeOf e).run P w = .ok 1 w) (A : Option Addr) (len cap h : Nat) (hh : h ≤ cap) :
    (Instr.slice t (.slice A len cap) none (some (.int .i64 (h : Int))) none).run P W = .ok (.slice (cutA A cap 0) h cap) W := by
  have ht' : P.underlying t = some (.slice (P.elem t)) := by simp [Program.elem, ht]
  have he : P.elem t = e := by simp [Program.elem, ht]
  rw [run_slice_h W t _ _ _ ht' .i64 _ (by omega) (by omega), he, hz]
  simp [Result.andThen, sliced, cutA]

theorem Byt.first {w : World} {B n c m : Nat} {A : Option Addr} {zs : List Int} (h : Byt w B A n c zs) (hm : m ≤ n) : Byt w B (cutA A c 0) m c (zs.take m) := by
  have := h.cut (l := 0) (m := m) (by omega)
  simpa using this

theorem Mine.byt2 {w : World} {base p : Nat} {v : Value} {zs : List Int} (h : Mine w base v p zs) : ∃ A c, v = .slice A p c ∧ Byt w w.heap.size A p c zs ∧ (A = none → c = 0) := by
  obtain ⟨A, c, hv, hb⟩ := h.byt
  refine ⟨A, c, hv, hb, fun hA => ?_⟩
  rcases h.own.2 with ⟨e, h0⟩ | ⟨b, cap, cur, e, _⟩
  · rw [hv] at e; injection e
  · rw [hv, hA] at e; injection e with e; cases e

/-- The slice '.slice A n c' holds n slices of bytes, all below block B. -/
structure Parts (w : World) (B : Nat) (A : Option Addr) (n : Nat) (As : Nat → Option Addr) (Ns Cs : Nat → Nat) (Z : Nat → List Int) : Prop where
  cell : 0 < n → ∃ b o, A = some ⟨b, o, none⟩ ∧ b < B ∧ ∀ i, i < n → w.cell? ⟨b, o + i, none⟩ = some (.slice (As i) (Ns i) (Cs i))
  byt : ∀ i, i < n → Byt w B (As i) (Ns i) (Cs i) (Z i)

section
variable {w w' : World} {B B' n : Nat} {A : Option Addr} {As : Nat → Option Addr} {Ns Cs : Nat → Nat} {Z : Nat → List Int}
theorem Parts.below (h : Parts w B A n As Ns Cs Z) (hb : Below B' w w') (hB : B ≤ B') : Parts w' B A n As Ns Cs Z :=
  ⟨fun hn => by
    obtain ⟨b, o, e, hlt, hc⟩ := h.cell hn
    exact ⟨b, o, e, hlt, fun i hi => (hb.cell (p := ⟨b, o + i, none⟩) (Nat.lt_of_lt_of_le hlt hB)).trans (hc i hi)⟩, fun i hi => (h.byt i hi).below hb hB⟩

end

/-- The first k parts, one behind the other. -/
def catZ (Z : Nat → List Int) : Nat → List Int
  | 0 => []
  | k + 1 => catZ Z k ++ Z k

theorem catZ_len {Z : Nat → List Int} {n : Nat} (h : ∀ i, i < n → (Z i).length ≤ 200) : ∀ k, k ≤ n → (catZ Z k).length ≤ 200 * k := by
  intro k
  induction k with
  | zero => intro _; simp [catZ]
  | succ k ih =>
    intro hk
    have h1 := ih (by omega)
    have h2 := h k (by omega)
    simp only [catZ, List.length_append]
    omega

end Go.Proofs.Ytojbhckgegoldaa
