/- Contracts of functions that the law calls, and what they lean on (a part). -/
import Derived.Outline
import Derived.LoopTactic
import Derived.WalkLawsBesides
import Derived.Laws.Concat
import Derived.Lib.IndexBytes
import Derived.Test.YtliieeagbpmcgaaDoorPu1
namespace Go.Proofs.YtliieeagbpmcgaaDoor
section
open Go.RowKit
set_option linter.unusedVariables false
/-- The decimal digits of a number, at most f of them. -/
def digF : Nat → Nat → List UInt8
  | 0, _ => []
  | f + 1, n => (if n / 10 = 0 then [] else digF f (n / 10)) ++ [UInt8.ofNat (48 + n % 10)]
def digB (n : Nat) : List UInt8 := digF 20 n
/-- Without the noughts at the end, but one digit at least. -/
def stripR : List UInt8 → List UInt8
  | x :: y :: r => if x = 48 then stripR (y :: r) else x :: y :: r
  | l => l
def stripZ (l : List UInt8) : List UInt8 := (stripR l.reverse).reverse
def fracB (u : Nat) : List UInt8 := stripZ ((digB (100000 + u % 100000)).drop 1)
def signB (n : Int) : List UInt8 := if n < 0 then [45] else []
def textB (n : Int) (whole : Bool) : List UInt8 := signB n ++ (if whole = true then digB n.natAbs else digB (n.natAbs / 100000) ++ [46] ++ fracB n.natAbs)
theorem digF_len (f n : Nat) : (digF (f + 1) n).length = if n / 10 = 0 then 1 else (digF f (n / 10)).length + 1 := by
  rw [digF]
  split <;> simp
theorem digB_len6 (m : Nat) (h1 : 100000 ≤ m) (h2 : m < 1000000) : (digB m).length = 6 := by
  unfold digB
  rw [digF_len, if_neg (by omega), digF_len, if_neg (by omega), digF_len, if_neg (by omega), digF_len, if_neg (by omega), digF_len, if_neg (by omega), digF_len, if_pos (by omega)]
theorem digB_le (n : Nat) : (digB n).length ≤ 20 := by
  have h : ∀ f n, (digF f n).length ≤ f := by
    intro f
    induction f with
    | zero => intro n; simp [digF]
    | succ f ih =>
      intro n
      rw [digF_len]
      have := ih (n / 10)
      split <;> omega
  exact h 20 n
end
end Go.Proofs.YtliieeagbpmcgaaDoor
