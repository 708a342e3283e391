/- Rows of bytes that a call makes itself, by append of many: which block may change, where the new row lies; '^n'. -/
import Derived.Test.YtojbhckgegoldaaCopy
namespace Go.Proofs.Ytojbhckgegoldaa
open Go.RowKit
set_option linter.unusedVariables false
set_option maxRecDepth 100000

theorem Mine.lt {w : World} {base p : Nat} {v : Value} {zs : List Int} (h : Mine w base v p zs) (b : Nat) (hb : v.ownBlock = some b) : b < w.heap.size := by
  rcases h.own.2 with ⟨rfl, _⟩ | ⟨b', cap, cur, rfl, _, hh, _⟩
  · cases hb
  · injection hb with hb
    dsimp only at hb
    subst hb
    rcases Nat.lt_or_ge b' w.heap.size with hlt | hge
    · exact hlt
    · rw [Array.getElem?_eq_none hge] at hh; cases hh
theorem Mine.recast {w : World} {base p : Nat} {v : Value} {zs ys : List Int} (h : Mine w base v p zs) (e : zs = ys) : Mine w base v ys.length ys := by
  subst e
  rw [h.len]
  exact h
/-- More bytes behind a row of one's own: which block may change, where the new row lies. -/
theorem Mine.appendT {w : World} {base p : Nat} {v : Value} {zs : List Int} (h : Mine w base v p zs) {B m c : Nat} {A : Option Addr} {ys : List Int} (hy : Byt w B A m c ys) (ty : TypeId) (hb : p + m ≤ 140737488355328) (hbase : base ≤ w.heap.size) :
    ∃ v' w', (Builtin.append_ #[25, 25] ty #[v, .slice A m c]).run Try.prog w = .ok v' w' ∧ Mine w' base v' (p + m) (zs ++ ys) ∧ Below base w w' ∧
      (∀ k, k < w.heap.size → v.ownBlock ≠ some k → w'.heap[k]? = w.heap[k]?) ∧ w.heap.size ≤ w'.heap.size ∧ (∀ b, v'.ownBlock = some b → v.ownBlock = some b ∨ w.heap.size ≤ b) := by
  obtain ⟨i0, hi, hz0, hz1, hz2⟩ := info_parts info5
  have hrng : ∀ z ∈ zs ++ ys, 0 ≤ z ∧ z < 256 := fun z hz => by
    rcases List.mem_append.1 hz with hz | hz
    · exact h.rng z hz
    · exact hy.rng z hz
  have key : m = 0 ∨ 0 < m := by omega
  rcases A with _ | a
  · have h0 : m = 0 := by
      rcases key with h0 | h0
      · exact h0
      · obtain ⟨b, o, e, _⟩ := hy.cell h0
        cases e
    subst h0
    have hn : ys = [] := List.eq_nil_of_length_eq_zero hy.len
    subst hn
    refine ⟨v, w, ?_, by simpa using h, Below.refl _ _, fun _ _ _ => rfl, Nat.le_refl _, fun b hb => .inl hb⟩
    rcases h.own.2 with ⟨rfl, _⟩ | ⟨b, cap, cur, rfl, _, _, hnc, _⟩
    · simp [Builtin.append_, run_underlying Try.underlying25, sizeOf, typeInfo, hi, Builtin.lenOf, Builtin.firstCells]
    · simp [Builtin.append_, run_underlying Try.underlying25, sizeOf, typeInfo, hi, Builtin.lenOf, Builtin.firstCells, hnc, storeCells]
  · have hcell : ∀ j u, (ys.map (Value.int .u8))[j]? = some u → w.cell? (a.add j) = some u := by
      intro j u hj
      have hjl : j < ys.length := by have := (List.getElem?_eq_some_iff.1 hj).1; simpa using this
      have hyl := hy.len
      obtain ⟨b, o, e, _, hc⟩ := hy.cell (by omega)
      injection e with e
      subst e
      have e2 : (⟨b, o, none⟩ : Addr).add j = ⟨b, o + j, none⟩ := by unfold Addr.add; split <;> simp_all
      rw [e2, hc j (by omega), ← hj]
      simp [List.getD, hjl]
    obtain ⟨v', w', hr, hown, hgr, _, hat⟩ := run_append_own_at (P := Try.prog) w base 25 ty 5 i0 _ 1 1 Try.underlying25 hi hz0 hz1 hz2 rfl (by omega) v p _ h.own a m c (ys.map (Value.int .u8))
      (by simp [hy.len]) hcell (fun u hu => by obtain ⟨x, _, rfl⟩ := List.mem_map.1 hu; rfl) (by simp only [maxLen]; omega) (by omega) hbase
    refine ⟨v', w', hr, ⟨by simpa using hown, hrng⟩, ⟨hgr.os, hgr.tape, hgr.output, hgr.size, fun k hk => hgr.block k (Nat.lt_of_lt_of_le hk hbase) (fun e => ?_)⟩, fun k hk hne => hgr.block k hk (fun e => hne e.symm), hgr.size, fun b hb => ?_⟩
    · rcases h.own.2 with ⟨rfl, _⟩ | ⟨b, cap, cur, rfl, hb, _⟩
      · simp [Value.ownBlock] at e
      · simp [Value.ownBlock] at e
        omega
    · rcases hat with h1 | h1
      · exact .inl (by rw [← h1, hb])
      · rw [hb] at h1; injection h1 with h1; exact .inr (by omega)

theorem not_int (L : Nat) (h : L < 65536) : bits .xor .i64 (-1) (L : Int) = -(L : Int) - 1 := by
  show IntKind.i64.wrap ((BitVec.ofInt 64 (-1) ^^^ BitVec.ofInt 64 (L : Int)).toNat : Int) = _
  have e : BitVec.ofInt 64 (-1) ^^^ BitVec.ofInt 64 (L : Int) = BitVec.ofInt 64 (-(L : Int) - 1) := by
    rw [show BitVec.ofInt 64 (-1) = BitVec.allOnes 64 by decide, BitVec.allOnes_xor, BitVec.ofInt_natCast, show -(L : Int) - 1 = Int.negSucc L by omega, BitVec.ofInt_negSucc_eq_not_ofNat]
  rw [e]
  have h2 : ((BitVec.ofInt 64 (-(L : Int) - 1)).toNat : Int) = 18446744073709551616 - L - 1 := by
    rw [BitVec.toNat_ofInt]
    omega
  rw [h2, IntKind.wrap_i64]
  omega
/-- 'b[l:]'. -/
theorem run_cutR {P : Program} (W : World) (t e : TypeId) (ht : P.underlying t = some (.slice e)) (hz : ∀ w, (Go.sizeOf e).run P w = .ok 1 w) (A : Option Addr) (len cap l : Nat) (hl : l ≤ len) (hlc : len ≤ cap) :
    (Instr.slice t (.slice A len cap) (some (.int .i64 (l : Int))) none none).run P W = .ok (.slice (cutA A cap l) (len - l) (cap - l)) W := by
  have ht' : P.underlying t = some (.slice (P.elem t)) := by simp [Program.elem, ht]
  have he : P.elem t = e := by simp [Program.elem, ht]
  rw [run_slice_l W t _ _ _ ht' .i64 _ (by omega) (by omega), he, hz]
  simp [Result.andThen, sliced, cutA]
end Go.Proofs.Ytojbhckgegoldaa
