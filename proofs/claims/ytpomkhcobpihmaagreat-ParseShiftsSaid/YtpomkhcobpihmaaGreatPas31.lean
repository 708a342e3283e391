/- Contracts of functions that the law calls, and what they lean on (a part). -/
import Derived.Test.YtpomkhcobpihmaaGreatPas21
import Derived.Test.YtpomkhcobpihmaaGreatPas27
namespace Go.Proofs.YtpomkhcobpihmaaGreat
section
open Go.RowKit
set_option linter.unusedVariables false
set_option maxRecDepth 100000
theorem bytS_nil (w : World) (S : Nat → Prop) : BytS w S none 0 0 [] := ⟨rfl, by omega, (fun _ h => by cases h), fun h => absurd h (by omega)⟩
theorem ObR.plain {w : World} {S : Nat → Prop} {k n : Int} {A : Option Addr} {m c : Nat} {b : List Int} (hk : -9223372036854775808 ≤ k ∧ k ≤ 9223372036854775807) (hn : -9223372036854775808 ≤ n ∧ n ≤ 9223372036854775807) (hb : BytS w S A m c b) :
    ObR w S (.mk k n b .nil .nil) (.int .i64 k) (.int .i64 n) (.slice A m c) (.slice none 0 0) (.slice none 0 0) := by
  unfold ObR
  exact ⟨rfl, rfl, hk, hn, ⟨A, m, c, rfl, hb⟩, ⟨none, 0, rfl, by simp [Obs.len], fun h => absurd h (by simp [Obs.len])⟩, ⟨none, 0, rfl, by simp [Ens.len], fun h => absurd h (by simp [Ens.len])⟩⟩
end

section
open Go.RowKit
set_option linter.unusedVariables false
set_option maxRecDepth 100000
/-- A row of objects, as a slice, in blocks of a kind. -/
def ObsV (w : World) (S : Nat → Prop) (l : Obs) (A : Option Addr) (c : Nat) : Prop := (l.len ≤ c ∧ c ≤ 9223372036854775807) ∧ (0 < l.len → ∃ g o, A = some ⟨g, o, none⟩ ∧ S g ∧ ObsR w S l g o)
theorem ObsV.keep {w w' : World} {S S' : Nat → Prop} {l : Obs} {A : Option Addr} {c : Nat} (h : ObsV w S l A c) (hb : ∀ g, S g → w'.heap[g]? = w.heap[g]?) (hS : ∀ g, S g → S' g) : ObsV w' S' l A c :=
  ⟨h.1, fun h0 => by
    obtain ⟨g, o, e, hg, hx⟩ := h.2 h0
    exact ⟨g, o, e, hS g hg, ObsR.keep hb hS l g o (hS g hg) hg hx⟩⟩
end

section
open Go.RowKit
set_option linter.unusedVariables false
set_option maxRecDepth 100000
theorem ObR.shape {w : World} {S : Nat → Prop} {y : Ob} {c0 c1 c2 c3 c4 : Value} (h : ObR w S y c0 c1 c2 c3 c4) : ∃ (e1 : Int) (A2 : _) (m2 : Nat) (r2 : Nat) (A3 : _) (m3 : Nat) (r3 : Nat) (A4 : _) (m4 : Nat) (r4 : Nat), c1 = Value.int .i64 e1 ∧ c2 = Value.slice A2 m2 r2 ∧ c3 = Value.slice A3 m3 r3 ∧ c4 = Value.slice A4 m4 r4 := by
  obtain ⟨k, n, b, l, d⟩ := y
  unfold ObR at h
  obtain ⟨_, rfl, _, _, ⟨A2, m2, r2, rfl, _⟩, ⟨A3, r3, rfl, _⟩, ⟨A4, r4, rfl, _⟩⟩ := h
  exact ⟨_, _, _, _, _, _, _, _, _, _, rfl, rfl, rfl, rfl⟩
end
end Go.Proofs.YtpomkhcobpihmaaGreat
