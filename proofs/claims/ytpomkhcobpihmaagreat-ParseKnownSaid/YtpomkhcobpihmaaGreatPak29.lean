/- Contracts of functions that the law calls, and what they lean on (a part). -/
import Derived.Test.YtpomkhcobpihmaaGreatPak21
import Derived.Test.YtpomkhcobpihmaaGreatPak26
namespace Go.Proofs.YtpomkhcobpihmaaGreat
section
open Go.RowKit
set_option linter.unusedVariables false
set_option maxRecDepth 100000
theorem bytS_nil (w : World) (S : Nat → Prop) : BytS w S none 0 0 [] := ⟨rfl, by omega, (fun _ h => by cases h), fun h => absurd h (by omega)⟩
theorem ObR.plain {w : World} {S : Nat → Prop} {k n : Int} {A : Option Addr} {m c : Nat} {b : List Int} (hk : -9223372036854775808 ≤ k ∧ k ≤ 9223372036854775807) (hn : -9223372036854775808 ≤ n ∧ n ≤ 9223372036854775807) (hb : BytS w S A m c b) :
    ObR w S (.mk k n b .nil .nil) (.int .i64 k) (.int .i64 n) (.slice A m c) (.slice none 0 0) (.slice none 0 0) := by
  unfold ObR
  exact ⟨rfl, rfl, hk, hn, ⟨A, m, c, rfl, hb⟩, ⟨none, 0, rfl, by simp [Obs.len], fun h => absurd h (by simp [Obs.len])⟩, ⟨none, 0, rfl, by simp [Ens.len], fun h => absurd h (by simp [Ens.len])⟩⟩
end

section
open Go.RowKit
set_option linter.unusedVariables false
set_option maxRecDepth 100000
/-- A row of objects, as a slice, in blocks of a kind. -/
def ObsV (w : World) (S : Nat → Prop) (l : Obs) (A : Option Addr) (c : Nat) : Prop := (l.len ≤ c ∧ c ≤ 9223372036854775807) ∧ (0 < l.len → ∃ g o, A = some ⟨g, o, none⟩ ∧ S g ∧ ObsR w S l g o)
theorem ObsV.keep {w w' : World} {S S' : Nat → Prop} {l : Obs} {A : Option Addr} {c : Nat} (h : ObsV w S l A c) (hb : ∀ g, S g → w'.heap[g]? = w.heap[g]?) (hS : ∀ g, S g → S' g) : ObsV w' S' l A c :=
  ⟨h.1, fun h0 => by
    obtain ⟨g, o, e, hg, hx⟩ := h.2 h0
    exact ⟨g, o, e, hS g hg, ObsR.keep hb hS l g o (hS g hg) hg hx⟩⟩
end
end Go.Proofs.YtpomkhcobpihmaaGreat
