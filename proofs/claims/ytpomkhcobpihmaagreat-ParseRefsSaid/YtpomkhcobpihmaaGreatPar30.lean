/- Lemmas. -/
import Derived.Test.YtpomkhcobpihmaaGreatPar28
import Derived.Test.YtpomkhcobpihmaaGreatPar29
namespace Go.Proofs.YtpomkhcobpihmaaGreat
set_option maxRecDepth 100000
set_option linter.unusedVariables false
section
open Go.RowKit
def leS (s t:ByteArray):Bool:=Op.bytesLess s.toList t.toList || s.toList == t.toList
def Ob.kind:Ob → Int
 | .mk k _ _ _ _=>k
def withE (s:ByteArray) (x:Ob):Ens → Bool → Ens
 | .nil,put=>if put = true then .nil else .cons s x .nil
 | .cons t y ys,put =>
  if put = false ∧ leS s t = true then (if t = s then .cons s x (withE s x ys true) else .cons s x (.cons t y (withE s x ys true)))
  else (if t = s then withE s x ys put else .cons t y (withE s x ys put))
end
section
open Go.RowKit
def dictF:Ens → Ens → Ens
 | .nil,acc=>acc
 | .cons s x xs,acc=>dictF xs (withE s x acc (decide (x.kind = 0)))
def EnsV (w:World) (S:Nat → Prop) (l:Ens) (A:Option Addr) (c:Nat):Prop:=(l.len ≤ c ∧ c ≤ 9223372036854775807) ∧ (0 < l.len → ∃ g o,A = some ⟨g,o,none⟩ ∧ S g ∧ EnsR w S l g o)
structure DiS (w wr:World) (base:Nat) (c0 c1 c2 c3 vD:Value):Prop where
 low:Below w.heap.size w wr
 res:wr.heap[w.heap.size]? = some (.cells #[.int .i64 0,.int .i64 0,.slice none 0 0,.slice none 0 0,.slice none 0 0] 27 (0,0))
 out:wr.heap[w.heap.size + 1]? = some (.cells #[c0,c1,c2,c3,vD] 27 (0,0))
 g1:w.heap.size + 2 ≤ base
 g2:base ≤ wr.heap.size
theorem kind_c0 {w:World} {S:Nat → Prop}:∀ {x:Ob} {c0 c1 c2 c3 c4:Value},ObR w S x c0 c1 c2 c3 c4 → c0 = .int .i64 x.kind
 | .mk k n b l d,c0,c1,c2,c3,c4,h=>by unfold ObR at h;exact h.1
end
end Go.Proofs.YtpomkhcobpihmaaGreat
