/- Contracts of functions that the law calls, and what they lean on (a part). -/
import Derived.Test.YtdkmomdioiipjaaCkn12
import Derived.Test.YtdkmomdioiipjaaCkn13
namespace Go.Proofs.Ytdkmomdioiipjaa
section
open Go.RowKit
set_option linter.unusedVariables false
set_option maxRecDepth 100000
theorem bytS_nil (w : World) (S : Nat → Prop) : BytS w S none 0 0 [] := ⟨rfl, by omega, (fun _ h => by cases h), fun h => absurd h (by omega)⟩
theorem ObR.plain {w : World} {S : Nat → Prop} {k n : Int} {A : Option Addr} {m c : Nat} {b : List Int} (hk : -9223372036854775808 ≤ k ∧ k ≤ 9223372036854775807) (hn : -9223372036854775808 ≤ n ∧ n ≤ 9223372036854775807) (hb : BytS w S A m c b) :
    ObR w S (.mk k n b .nil .nil) (.int .i64 k) (.int .i64 n) (.slice A m c) (.slice none 0 0) (.slice none 0 0) := by
  unfold ObR
  exact ⟨rfl, rfl, hk, hn, ⟨A, m, c, rfl, hb⟩, ⟨none, 0, rfl, by simp [Obs.len], fun h => absurd h (by simp [Obs.len])⟩, ⟨none, 0, rfl, by simp [Ens.len], fun h => absurd h (by simp [Ens.len])⟩⟩
end

section
open Go.RowKit
set_option linter.unusedVariables false
set_option maxRecDepth 100000
/-- A row of objects, as a slice, in blocks of a kind. -/
def ObsV (w : World) (S : Nat → Prop) (l : Obs) (A : Option Addr) (c : Nat) : Prop := (l.len ≤ c ∧ c ≤ 9223372036854775807) ∧ (0 < l.len → ∃ g o, A = some ⟨g, o, none⟩ ∧ S g ∧ ObsR w S l g o)
theorem ObsV.keep {w w' : World} {S S' : Nat → Prop} {l : Obs} {A : Option Addr} {c : Nat} (h : ObsV w S l A c) (hb : ∀ g, S g → w'.heap[g]? = w.heap[g]?) (hS : ∀ g, S g → S' g) : ObsV w' S' l A c :=
  ⟨h.1, fun h0 => by
    obtain ⟨g, o, e, hg, hx⟩ := h.2 h0
    exact ⟨g, o, e, hS g hg, ObsR.keep hb hS l g o (hS g hg) hg hx⟩⟩
end

section
open Go.RowKit
set_option linter.unusedVariables false
set_option maxRecDepth 100000
def badF (k : Int) (lb ll ld : Nat) : Bool := decide ((0 < ll ∧ k ≠ 6) ∨ (0 < ld ∧ k ≠ 7 ∧ k ≠ 8) ∨ (0 < lb ∧ k ≠ 4 ∧ k ≠ 5 ∧ k ≠ 8))
def inZ (n : Int) : Bool := decide (-214748364799999 ≤ n ∧ n ≤ 214748364799999)
def nameS (s : ByteArray) : Bool := nameZ (strZ s)
mutual
/-- May it be, with so many in one another? -/
def mayO : Ob → Int → Bool
  | .mk k n b l d, dp =>
    if badF k b.length l.len d.len = true then false
    else if k = 1 then decide (n = 0 ∨ n = 1)
    else if k = 2 then decide (-2147483647 ≤ n ∧ n ≤ 2147483647)
    else if k = 3 then inZ n
    else if k = 9 then decide (1 ≤ n ∧ n ≤ 8388607)
    else if n ≠ 0 then false
    else if k = 0 then true
    else if k = 4 then decide (b.length ≤ 32767)
    else if k = 5 then nameZ b
    else if k = 6 then (mayL l dp && decide (1 ≤ dp))
    else if k = 7 ∨ k = 8 then (if dp < 1 ∨ 16777216 < b.length then false else mayE d none dp)
    else false
def mayL : Obs → Int → Bool
  | .nil, _ => true
  | .cons x xs, dp => if x.kind = 8 ∨ dp < 1 then false else if mayO x (dp - 1) = true then mayL xs dp else false
def mayE : Ens → Option ByteArray → Int → Bool
  | .nil, _, _ => true
  | .cons s x xs, pv, dp => if nameS s = true ∧ (∀ p, pv = some p → leS s p = false) ∧ x.kind ≠ 8 ∧ x.kind ≠ 0 ∧ mayO x (dp - 1) = true then mayE xs (some s) dp else false
end
end
end Go.Proofs.Ytdkmomdioiipjaa
