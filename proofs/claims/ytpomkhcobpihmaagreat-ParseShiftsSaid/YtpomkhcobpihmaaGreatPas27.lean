/- Contracts of functions that the law calls, and what they lean on (a part). -/
import Derived.Test.YtpomkhcobpihmaaGreatPas25
import Derived.Test.YtpomkhcobpihmaaGreatPas26
namespace Go.Proofs.YtpomkhcobpihmaaGreat
section
open Go.RowKit
set_option linter.unusedVariables false
set_option maxRecDepth 100000
def leS (s t : ByteArray) : Bool := Op.bytesLess s.toList t.toList || s.toList == t.toList
def Ob.kind : Ob → Int
  | .mk k _ _ _ _ => k
/-- Entries with one more, by its key; 'put' if it has its place (or is none). -/
def withE (s : ByteArray) (x : Ob) : Ens → Bool → Ens
  | .nil, put => if put = true then .nil else .cons s x .nil
  | .cons t y ys, put =>
    if put = false ∧ leS s t = true then (if t = s then .cons s x (withE s x ys true) else .cons s x (.cons t y (withE s x ys true)))
    else (if t = s then withE s x ys put else .cons t y (withE s x ys put))
theorem withE_len (s : ByteArray) (x : Ob) : ∀ (d : Ens) (p : Bool), (withE s x d p).len ≤ d.len + 1
  | .nil, p => by rw [withE]; split <;> simp [Ens.len]
  | .cons t y ys, p => by
    have h1 := withE_len s x ys true
    have h2 := withE_len s x ys p
    have h3 : (withE s x ys true).len ≤ ys.len := withE_lenT s x ys
    rw [withE, Ens.len]
    split <;> split <;> ((try simp only [Ens.len]); omega)
 where
  withE_lenT (s : ByteArray) (x : Ob) : ∀ (d : Ens), (withE s x d true).len ≤ d.len
  | .nil => by rw [withE, if_pos rfl]; exact Nat.le_refl _
  | .cons t y ys => by
    have h1 := withE_lenT s x ys
    rw [withE, if_neg (by simp), Ens.len]
    split <;> ((try simp only [Ens.len]); omega)
end

section
open Go.RowKit
set_option linter.unusedVariables false
set_option maxRecDepth 100000
/-- Entry after entry. -/
def dictF : Ens → Ens → Ens
  | .nil, acc => acc
  | .cons s x xs, acc => dictF xs (withE s x acc (decide (x.kind = 0)))
/-- A row of entries, as a slice, in blocks of a kind. -/
def EnsV (w : World) (S : Nat → Prop) (l : Ens) (A : Option Addr) (c : Nat) : Prop := (l.len ≤ c ∧ c ≤ 9223372036854775807) ∧ (0 < l.len → ∃ g o, A = some ⟨g, o, none⟩ ∧ S g ∧ EnsR w S l g o)
theorem EnsV.keep {w w' : World} {S S' : Nat → Prop} {l : Ens} {A : Option Addr} {c : Nat} (h : EnsV w S l A c) (hb : ∀ g, S g → w'.heap[g]? = w.heap[g]?) (hS : ∀ g, S g → S' g) : EnsV w' S' l A c :=
  ⟨h.1, fun h0 => by
    obtain ⟨g, o, e, hg, hx⟩ := h.2 h0
    exact ⟨g, o, e, hS g hg, EnsR.keep hb hS l g o (hS g hg) hg hx⟩⟩
/-- The state of a maker: the answer's block, the block that is being filled behind it. -/
structure DiS (w wr : World) (base : Nat) (c0 c1 c2 c3 vD : Value) : Prop where
  low : Below w.heap.size w wr
  res : wr.heap[w.heap.size]? = some (.cells #[.int .i64 0, .int .i64 0, .slice none 0 0, .slice none 0 0, .slice none 0 0] 27 (0, 0))
  out : wr.heap[w.heap.size + 1]? = some (.cells #[c0, c1, c2, c3, vD] 27 (0, 0))
  g1 : w.heap.size + 2 ≤ base
  g2 : base ≤ wr.heap.size
section
variable {w wr wr' : World} {base : Nat} {c0 c1 c2 c3 vD : Value}
theorem DiS.step (h : DiS w wr base c0 c1 c2 c3 vD) (hb : Below base wr wr') : DiS w wr' base c0 c1 c2 c3 vD :=
  ⟨h.low.trans (hb.mono (by have := h.g1; omega)), (hb.block _ (by have := h.g1; omega)).trans h.res, (hb.block _ (by have := h.g1; omega)).trans h.out, h.g1, Nat.le_trans h.g2 hb.size⟩
theorem DiS.drew (h : DiS w wr base c0 c1 c2 c3 vD) : DiS w wr.drew base c0 c1 c2 c3 vD := h.step ((Below.refl base wr).drew)
end
theorem kind_c0 {w : World} {S : Nat → Prop} : ∀ {x : Ob} {c0 c1 c2 c3 c4 : Value}, ObR w S x c0 c1 c2 c3 c4 → c0 = .int .i64 x.kind
  | .mk k n b l d, c0, c1, c2, c3, c4, h => by unfold ObR at h; exact h.1
end
end Go.Proofs.YtpomkhcobpihmaaGreat
