/- How the statements' arguments lie in memory: a slice of bytes, a slice of deeds. -/
import Derived.Test.YtffmdlknkimlhaaWords
import Derived.Test.YtffmdlknkimlhaaRows
import Derived.ProofKit
import Derived.OpenShut
import Derived.ShutString
import Derived.ChangeOld
import Derived.Deep.Slices
import Derived.Deep.Fields
import Derived.ChangeSame
namespace Go.Proofs.Ytffmdlknkimlhaa
open Go.ChangeShapes Go.WideShapes Go.ChangeAt Go.RowKit Go.Deep
set_option linter.unusedVariables false

theorem own : ownKnob Try.prog.godebug = none := by kernel_rfl
theorem laidOut : laidOutB Try.prog = true := by kernel_rfl

theorem cell_lt {w : World} {p : Addr} {v : Value} (h : w.cell? p = some v) : p.block < w.heap.size := by
  rcases Nat.lt_or_ge p.block w.heap.size with hlt | hge
  · exact hlt
  · have e : w.heap[p.block]? = none := Array.getElem?_eq_none hge
    simp [World.cell?, e] at h

theorem byte_wf {z : Int} (h : (Lit.int .u8 z).wf = true) : 0 ≤ z ∧ z < 256 := by
  simp [Lit.wf] at h
  have e1 : IntKind.u8.min = 0 := by decide
  have e2 : IntKind.u8.max = 255 := by decide
  omega
theorem byt_of_cells {w : World} {a : Addr} {len cap : Nat} {zs : List Int} (hl : len ≤ cap) (hz : zs.length = cap)
    (hcell : ∀ i, i < zs.length → w.cell? (a.add i) = some (.int .u8 (zs.getD i 0))) (hwz : ∀ n ∈ zs, (Lit.int .u8 n).wf = true) : Byt w w.heap.size (some a) len cap (zs.take len) := by
  refine ⟨by simp; omega, hl, fun z hz => byte_wf (hwz z (List.mem_of_mem_take hz)), fun h0 => ?_⟩
  obtain ⟨b, o, rfl, hc⟩ := ints_at hcell (by omega)
  refine ⟨b, o, rfl, cell_lt (hc 0 (by omega)), fun i hi => ?_⟩
  rw [hc i (by omega)]
  simp [List.getD, hi]

theorem open_bytes {H : Type} {enc : TypeId × Value → H} {W : World} {base : Nat} {sp : Nat → Bool} {held : Bool} {A : Option Addr} {len cap : Nat} {d : DataW H} {p : List MemPlace}
    (h : DataW.Trod enc Try.prog W base sp held 25 (.slice A len cap) d p) (hsp : ∀ b, sp b = true) : ∃ zs, Byt W W.heap.size A len cap zs ∧ cap ≤ maxLen := by
  obtain ⟨fuel, hf⟩ := h
  rcases open_ints Try.underlying25 Try.underlying5 (by kernel_rfl) hf with ⟨hcs, _⟩ | ⟨x, l, c, zs, hcs, _, hl, hm, hz, _, hcell, hwz⟩
  · simp [Value.cells] at hcs
    obtain ⟨rfl, rfl, rfl⟩ := hcs
    exact ⟨[], ⟨rfl, Nat.le_refl _, (fun _ h => by cases h), fun h => absurd h (by omega)⟩, Nat.zero_le _⟩
  · simp [Value.cells] at hcs
    obtain ⟨rfl, rfl, rfl⟩ := hcs
    exact ⟨_, byt_of_cells hl (by simpa [hsp] using hz) hcell hwz, hm⟩

section
variable {H : Type} {enc : TypeId × Value → H} {W : World} {base : Nat} {sp : Nat → Bool} {held : Bool}
/-- A slice of deeds, opened. -/
theorem open_deeds {A : Option Addr} {len cap : Nat} {d : DataW H} {p : List MemPlace} (h : DataW.Trod enc Try.prog W base sp held 31 (.slice A len cap) d p) (hsp : ∀ b, sp b = true) :
    ∃ (D M : Nat → Int) (S : Nat → ByteArray), len ≤ 9223372036854775807 ∧ (0 < len → ∃ b o, A = some ⟨b, o, none⟩ ∧ b < W.heap.size ∧ ∀ i, i < len → W.cell? ⟨b, o + i * 3, none⟩ = some (.int .i64 (D i)) ∧ W.cell? ⟨b, o + i * 3 + 1, none⟩ = some (.int .i64 (M i)) ∧ W.cell? ⟨b, o + i * 3 + 2, none⟩ = some (.string (S i)) ∧ (S i).size ≤ 9223372036854775807) := by
  obtain ⟨fuel, hf⟩ := h
  rcases open_slice Try.underlying31 hf with ⟨hcs, _⟩ | ⟨a, l, c, m, n, D, Pl, hcs, _, hl, hm, hmm, _, hi⟩
  · simp [Value.cells] at hcs
    obtain ⟨rfl, rfl, rfl⟩ := hcs
    exact ⟨fun _ => 0, fun _ => 0, fun _ => ByteArray.empty, by omega, fun h => absurd h (by omega)⟩
  · simp [Value.cells] at hcs
    obtain ⟨rfl, rfl, rfl⟩ := hcs
    have hC : Try.prog.cellsOf 35 = 3 := by kernel_rfl
    have hmx : maxLen = 9223372036854775807 := by decide
    rw [hsp] at hmm
    have one : ∀ i, i < len → ∃ (x y : Int) (s : ByteArray), W.cell? ((a.add (i * 3)).add 0) = some (.int .i64 x) ∧ W.cell? ((a.add (i * 3)).add 1) = some (.int .i64 y) ∧ W.cell? ((a.add (i * 3)).add 2) = some (.string s) ∧ s.size ≤ maxLen := by
      intro i him
      obtain ⟨cs', hc, ht'⟩ := hi i (by simp at hmm; omega)
      rw [hC] at hc
      obtain ⟨ys, n', hn', hy, hlen, hyl, hfl⟩ := DataW.trod_struct Try.underlying35 ht'
      obtain ⟨_, hcl, hat⟩ := World.cells?_some hc
      match cs', hcl with
      | [c0, c1, c2], _ =>
        have hys : ys.length = 3 := hyl
        have h3 : Try.prog.cellsOf 3 = 1 := by kernel_rfl
        have h9 : Try.prog.cellsOf 9 = 1 := by kernel_rfl
        have f0 : DataW.trod enc Try.prog W base sp held n' 3 (List.take (Try.prog.cellsOf 3) [c0, c1, c2]) = ys[0]? := hfl 0 _ rfl
        have f1 : DataW.trod enc Try.prog W base sp held n' 3 (List.take (Try.prog.cellsOf 3) [c1, c2]) = ys[1]? := hfl 1 _ rfl
        have f2 : DataW.trod enc Try.prog W base sp held n' 9 (List.take (Try.prog.cellsOf 9) [c2]) = ys[2]? := hfl 2 _ rfl
        rw [h3, List.getElem?_eq_getElem (by omega)] at f0 f1
        rw [h9, List.getElem?_eq_getElem (by omega)] at f2
        obtain ⟨x, e0, _, _⟩ := DataW.trod_int Try.underlying3 f0
        obtain ⟨y, e1, _, _⟩ := DataW.trod_int Try.underlying3 f1
        obtain ⟨s, e2, _, hs⟩ := DataW.trod_string Try.underlying9 f2
        simp at e0 e1 e2
        subst e0 e1 e2
        exact ⟨x, y, s, hat 0 (by omega), hat 1 (by omega), hat 2 (by omega), hs⟩
    have hlen : len ≤ 9223372036854775807 := by omega
    rcases Nat.eq_zero_or_pos len with h0 | h0
    · exact ⟨fun _ => 0, fun _ => 0, fun _ => ByteArray.empty, hlen, fun h => absurd h (by omega)⟩
    obtain ⟨x, _, _, hx, _⟩ := one 0 h0
    obtain ⟨b, o, spot⟩ := a
    obtain rfl : spot = none := by simpa [Addr.add] using World.cell?_spot hx
    have hbl : b < W.heap.size := by have := cell_lt hx; simpa [Addr.add] using this
    have two : ∀ i, ∃ (x y : Int) (s : ByteArray), i < len → W.cell? ⟨b, o + i * 3, none⟩ = some (.int .i64 x) ∧ W.cell? ⟨b, o + i * 3 + 1, none⟩ = some (.int .i64 y) ∧ W.cell? ⟨b, o + i * 3 + 2, none⟩ = some (.string s) ∧ s.size ≤ 9223372036854775807 := by
      intro i
      rcases Nat.lt_or_ge i len with hlt | hge
      · obtain ⟨x, y, s, e0, e1, e2, e3⟩ := one i hlt
        simp only [add_plain, Nat.add_zero] at e0 e1 e2
        exact ⟨x, y, s, fun _ => ⟨e0, e1, e2, by omega⟩⟩
      · exact ⟨0, 0, ByteArray.empty, fun h => absurd h (by omega)⟩
    exact ⟨fun i => (two i).choose, fun i => (two i).choose_spec.choose, fun i => (two i).choose_spec.choose_spec.choose, hlen, fun _ => ⟨b, o, rfl, hbl, fun i hlt => (two i).choose_spec.choose_spec.choose_spec hlt⟩⟩
end
end Go.Proofs.Ytffmdlknkimlhaa
