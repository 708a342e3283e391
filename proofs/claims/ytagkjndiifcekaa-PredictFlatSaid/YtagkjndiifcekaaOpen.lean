/- How a statement's arguments lie in memory: a slice of bytes, a slice of slices of bytes. -/
import Derived.Test.YtagkjndiifcekaaOwn
import Derived.Test.YtagkjndiifcekaaRows
import Derived.ProofKit
import Derived.OpenShut
import Derived.ShutString
import Derived.ChangeOld
import Derived.Deep.Slices
import Derived.Deep.Fields
import Derived.ChangeSame
namespace Go.Proofs.Ytagkjndiifcekaa
open Go.ChangeShapes Go.WideShapes Go.ChangeAt Go.RowKit Go.Deep
set_option linter.unusedVariables false
set_option maxRecDepth 100000

theorem own : ownKnob Try.prog.godebug = none := by kernel_rfl

theorem laidOut : laidOutB Try.prog = true := by kernel_rfl

theorem byt_of_cells {w : World} {a : Addr} {len cap : Nat} {zs : List Int} (hl : len ≤ cap) (hz : zs.length = cap)
    (hcell : ∀ i, i < zs.length → w.cell? (a.add i) = some (.int .u8 (zs.getD i 0))) (hwz : ∀ n ∈ zs, (Lit.int .u8 n).wf = true) : Byt w w.heap.size (some a) len cap (zs.take len) := by
  refine ⟨by simp; omega, hl, fun z hz => byte_wf (hwz z (List.mem_of_mem_take hz)), fun h0 => ?_⟩
  obtain ⟨b, o, rfl, hc⟩ := ints_at hcell (by omega)
  refine ⟨b, o, rfl, cell_lt (hc 0 (by omega)), fun i hi => ?_⟩
  rw [hc i (by omega)]
  simp [List.getD, hi]

theorem open_bytes {H : Type} {enc : TypeId × Value → H} {W : World} {base : Nat} {sp : Nat → Bool} {held : Bool} {A : Option Addr} {len cap : Nat} {d : DataW H} {p : List MemPlace}
    (h : DataW.Trod enc Try.prog W base sp held 23 (.slice A len cap) d p) (hsp : ∀ b, sp b = true) : ∃ zs, Byt W W.heap.size A len cap zs ∧ cap ≤ maxLen := by
  obtain ⟨fuel, hf⟩ := h
  rcases open_ints Try.underlying23 Try.underlying5 (by kernel_rfl) hf with ⟨hcs, _⟩ | ⟨x, l, c, zs, hcs, _, hl, hm, hz, _, hcell, hwz⟩
  · simp [Value.cells] at hcs
    obtain ⟨rfl, rfl, rfl⟩ := hcs
    exact ⟨[], ⟨rfl, Nat.le_refl _, (fun _ h => by cases h), fun h => absurd h (by omega)⟩, Nat.zero_le _⟩
  · simp [Value.cells] at hcs
    obtain ⟨rfl, rfl, rfl⟩ := hcs
    exact ⟨_, byt_of_cells hl (by simpa [hsp] using hz) hcell hwz, hm⟩

theorem open_nil {H : Type} {enc : TypeId × Value → H} {W : World} {base : Nat} {sp : Nat → Bool} {held : Bool} {A : Option Addr} {len cap : Nat} {d : DataW H} {p : List MemPlace}
    (h : DataW.Trod enc Try.prog W base sp held 23 (.slice A len cap) d p) : A = none → cap = 0 := by
  obtain ⟨fuel, hf⟩ := h
  rcases open_ints Try.underlying23 Try.underlying5 (by kernel_rfl) hf with ⟨hcs, _⟩ | ⟨x, l, c, zs, hcs, _⟩
  · simp [Value.cells] at hcs
    obtain ⟨rfl, rfl, rfl⟩ := hcs
    exact fun _ => rfl
  · simp [Value.cells] at hcs
    obtain ⟨rfl, rfl, rfl⟩ := hcs
    exact fun h => by cases h

theorem i64_wf {x : Int} (h : (Lit.int .i64 x).wf = true) : -9223372036854775808 ≤ x ∧ x ≤ 9223372036854775807 := by
  simp [Lit.wf] at h
  have e1 : IntKind.i64.min = -9223372036854775808 := by decide
  have e2 : IntKind.i64.max = 9223372036854775807 := by decide
  omega

section
variable {H : Type} {enc : TypeId × Value → H} {W : World} {base : Nat} {sp : Nat → Bool} {held : Bool}
/-- One part, opened. -/
theorem open_part {fuel : Nat} {cs : List Value} {x : DataW H × List MemPlace} (hf : DataW.trod enc Try.prog W base sp held fuel 23 cs = some x) (hsp : ∀ b, sp b = true) :
    ∃ (A : Option Addr) (len cap : Nat) (zs : List Int), cs = [.slice A len cap] ∧ Byt W W.heap.size A len cap zs ∧ cap ≤ maxLen := by
  rcases open_ints Try.underlying23 Try.underlying5 (by kernel_rfl) hf with ⟨hcs, _⟩ | ⟨a, l, c, zs, hcs, _, hl, hm, hz, _, hcell, hwz⟩
  · exact ⟨none, 0, 0, [], hcs, Byt.none_ _ _, Nat.zero_le _⟩
  · exact ⟨some a, l, c, _, hcs, byt_of_cells hl (by simpa [hsp] using hz) hcell hwz, hm⟩

/-- A slice of parts, opened. -/
theorem open_parts {A : Option Addr} {len cap : Nat} {d : DataW H} {p : List MemPlace} (h : DataW.Trod enc Try.prog W base sp held 36 (.slice A len cap) d p) (hsp : ∀ b, sp b = true) :
    ∃ (As : Nat → Option Addr) (Ns Cs : Nat → Nat) (Z : Nat → List Int), len ≤ 9223372036854775807 ∧ Parts W W.heap.size A len As Ns Cs Z ∧ ∀ i, i < len → Ns i ≤ 9223372036854775807 := by
  obtain ⟨fuel, hf⟩ := h
  have hmx : maxLen = 9223372036854775807 := by decide
  rcases open_slice Try.underlying36 hf with ⟨hcs, _⟩ | ⟨a, l, c, m, n, D, Pl, hcs, _, hl, hm, hmm, _, hi⟩
  · simp [Value.cells] at hcs
    obtain ⟨rfl, rfl, rfl⟩ := hcs
    exact ⟨fun _ => none, fun _ => 0, fun _ => 0, fun _ => [], by omega, ⟨fun h => absurd h (by omega), fun i h => absurd h (by omega)⟩, fun i h => absurd h (by omega)⟩
  · simp [Value.cells] at hcs
    obtain ⟨rfl, rfl, rfl⟩ := hcs
    have hC : Try.prog.cellsOf 23 = 1 := by kernel_rfl
    rw [hsp] at hmm
    have one : ∀ i, i < len → ∃ (Ai : Option Addr) (Ni Ci : Nat) (zs : List Int), W.cell? (a.add i) = some (.slice Ai Ni Ci) ∧ Byt W W.heap.size Ai Ni Ci zs ∧ Ci ≤ maxLen := by
      intro i him
      obtain ⟨cs', hc, ht'⟩ := hi i (by simp at hmm; omega)
      obtain ⟨Ai, Ni, Ci, zs, rfl, hb, hcm⟩ := open_part ht' hsp
      rw [hC, Nat.mul_one] at hc
      obtain ⟨_, _, hat⟩ := World.cells?_some hc
      have h0 := hat 0 (by omega)
      have e0 : (a.add i).add 0 = a.add i := by rw [Go.Deep.add_add, Nat.add_zero]
      rw [e0] at h0
      exact ⟨Ai, Ni, Ci, zs, h0, hb, hcm⟩
    have hlen : len ≤ 9223372036854775807 := by omega
    rcases Nat.eq_zero_or_pos len with h0 | h0
    · exact ⟨fun _ => none, fun _ => 0, fun _ => 0, fun _ => [], hlen, ⟨fun h => absurd h (by omega), fun i h => absurd h (by omega)⟩, fun i h => absurd h (by omega)⟩
    obtain ⟨x, _, _, _, hx, _⟩ := one 0 h0
    obtain ⟨b, o, spot⟩ := a
    obtain rfl : spot = none := by simpa [Addr.add] using World.cell?_spot hx
    have hbl : b < W.heap.size := by have := cell_lt hx; simpa [Addr.add] using this
    have two : ∀ i, ∃ (Ai : Option Addr) (Ni Ci : Nat) (zs : List Int), i < len → W.cell? ⟨b, o + i, none⟩ = some (.slice Ai Ni Ci) ∧ Byt W W.heap.size Ai Ni Ci zs ∧ Ci ≤ maxLen := by
      intro i
      rcases Nat.lt_or_ge i len with hlt | hge
      · obtain ⟨Ai, Ni, Ci, zs, e0, hb, hcm⟩ := one i hlt
        simp only [add_plain] at e0
        exact ⟨Ai, Ni, Ci, zs, fun _ => ⟨e0, hb, hcm⟩⟩
      · exact ⟨none, 0, 0, [], fun h => absurd h (by omega)⟩
    exact ⟨fun i => (two i).choose, fun i => (two i).choose_spec.choose, fun i => (two i).choose_spec.choose_spec.choose, fun i => (two i).choose_spec.choose_spec.choose_spec.choose, hlen,
      ⟨fun _ => ⟨b, o, rfl, hbl, fun i hlt => ((two i).choose_spec.choose_spec.choose_spec.choose_spec hlt).1⟩, fun i hlt => ((two i).choose_spec.choose_spec.choose_spec.choose_spec hlt).2.1⟩,
      fun i hlt => by
        have h := (two i).choose_spec.choose_spec.choose_spec.choose_spec hlt
        have h1 := h.2.1.cap
        have h2 := h.2.2
        exact Nat.le_trans h1 (Nat.le_trans h2 (Nat.le_of_eq hmx))⟩

end

end Go.Proofs.Ytagkjndiifcekaa
