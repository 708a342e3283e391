/- Contracts of functions that the law calls, and what they lean on (a part). -/
import Derived.Test.YtdkmomdioiipjaaCmy10
import Derived.Test.YtdkmomdioiipjaaCmy11
namespace Go.Proofs.Ytdkmomdioiipjaa
section
open Go.RowKit
set_option linter.unusedVariables false
set_option maxRecDepth 100000
def leS (s t : ByteArray) : Bool := Op.bytesLess s.toList t.toList || s.toList == t.toList
theorem run_leS (s t : ByteArray) (W : World) : (binOp BinOp.leq 9 (.string s) (.string t)).run Try.prog W = .ok (.bool (leS s t)) W := by kernel_rfl
def Ob.kind : Ob → Int
  | .mk k _ _ _ _ => k
/-- Entries with one more, by its key; 'put' if it has its place (or is none). -/
def withE (s : ByteArray) (x : Ob) : Ens → Bool → Ens
  | .nil, put => if put = true then .nil else .cons s x .nil
  | .cons t y ys, put =>
    if put = false ∧ leS s t = true then (if t = s then .cons s x (withE s x ys true) else .cons s x (.cons t y (withE s x ys true)))
    else (if t = s then withE s x ys put else .cons t y (withE s x ys put))
end

section
open Go.RowKit
set_option linter.unusedVariables false
set_option maxRecDepth 100000
/-- Entry after entry. -/
def dictF : Ens → Ens → Ens
  | .nil, acc => acc
  | .cons s x xs, acc => dictF xs (withE s x acc (decide (x.kind = 0)))
/-- A row of entries, as a slice, in blocks of a kind. -/
def EnsV (w : World) (S : Nat → Prop) (l : Ens) (A : Option Addr) (c : Nat) : Prop := (l.len ≤ c ∧ c ≤ 9223372036854775807) ∧ (0 < l.len → ∃ g o, A = some ⟨g, o, none⟩ ∧ S g ∧ EnsR w S l g o)
theorem EnsV.keep {w w' : World} {S S' : Nat → Prop} {l : Ens} {A : Option Addr} {c : Nat} (h : EnsV w S l A c) (hb : ∀ g, S g → w'.heap[g]? = w.heap[g]?) (hS : ∀ g, S g → S' g) : EnsV w' S' l A c :=
  ⟨h.1, fun h0 => by
    obtain ⟨g, o, e, hg, hx⟩ := h.2 h0
    exact ⟨g, o, e, hS g hg, EnsR.keep hb hS l g o (hS g hg) hg hx⟩⟩
theorem kind_c0 {w : World} {S : Nat → Prop} : ∀ {x : Ob} {c0 c1 c2 c3 c4 : Value}, ObR w S x c0 c1 c2 c3 c4 → c0 = .int .i64 x.kind
  | .mk k n b l d, c0, c1, c2, c3, c4, h => by unfold ObR at h; exact h.1
end
end Go.Proofs.Ytdkmomdioiipjaa
