/- Contracts of functions that the law calls, and what they lean on (a part). -/
import Derived.Deep.QuietTactic
import Derived.BigQuiet
import Derived.Test.YtdkmomdioiipjaaCkn2
namespace Go.Proofs.Ytdkmomdioiipjaa
section
open Go.RowKit
set_option linter.unusedVariables false
set_option maxRecDepth 100000
def Ens.dropN : Ens → Nat → Ens
  | l, 0 => l
  | .nil, _ + 1 => .nil
  | .cons _ _ xs, i + 1 => xs.dropN i
theorem Ens.drop_get : ∀ (l : Ens) (i : Nat) (s : ByteArray) (x : Ob), l.get? i = some (s, x) → l.dropN i = .cons s x (l.dropN (i + 1))
  | .nil, i, s, x, h => by simp [Ens.get?] at h
  | .cons t y xs, 0, s, x, h => by
    simp [Ens.get?] at h
    obtain ⟨rfl, rfl⟩ := h
    cases xs <;> rfl
  | .cons t y xs, i + 1, s, x, h => Ens.drop_get xs i s x (by simpa [Ens.get?] using h)
theorem Ens.drop_end : ∀ (l : Ens), l.dropN l.len = .nil
  | .nil => rfl
  | .cons s x xs => Ens.drop_end xs
mutual
def depthO : Ob → Nat
  | .mk k n b l d => if k = 6 then depthL l + 1 else if k = 7 ∨ k = 8 then depthE d + 1 else 0
def depthL : Obs → Nat
  | .nil => 0
  | .cons x xs => max (depthO x) (depthL xs)
def depthE : Ens → Nat
  | .nil => 0
  | .cons s x xs => max (depthO x) (depthE xs)
end
end
end Go.Proofs.Ytdkmomdioiipjaa
