/- Contracts of functions that the law calls, and what they lean on (a part). -/
import Derived.Deep.Cut
import Derived.Deep.CutBlock
import Derived.Deep.LoopGhost
import Derived.Test.YtpomkhcobpihmaaBla6
import Derived.Test.YtpomkhcobpihmaaBla7
namespace Go.Proofs.Ytpomkhcobpihmaa
section
open Go.RowKit
set_option linter.unusedVariables false
set_option maxRecDepth 100000
/-- What a reader answers: the bytes in new memory, its error. -/
def ReadPost (w : World) (R : List Int × Int) (r : Ending) (w' : World) : Prop := ∃ A c, r = .returned (.tuple #[.slice A R.1.length c, .int .i64 R.2]) ∧ Byt w' w'.heap.size A R.1.length c R.1 ∧ Below w.heap.size w w' ∧ From w.heap.size A R.1.length
theorem Mine.from_ {w : World} {base p c : Nat} {A : Option Addr} {zs : List Int} (h : Mine w base (.slice A p c) p zs) : From base A p := fun hp b o e => by
  rcases h.own.2 with ⟨_, h0⟩ | ⟨g, cap, cur, e2, hb, _⟩
  · omega
  · injection e2 with e2
    rw [e] at e2
    injection e2 with e2
    injection e2 with e2
    omega
theorem ReadPost.of_row {w w' : World} {v : Value} {out : List Int} (hb : Below w.heap.size w w') (h : Mine w' w.heap.size v out.length out) : ReadPost w (out, 0) (.returned (.tuple #[v, .int .i64 0])) w' := by
  obtain ⟨A, c, rfl, hy⟩ := h.byt
  exact ⟨A, c, rfl, hy, hb, h.from_⟩
theorem ReadPost.of_bad {w w' : World} (e : Int) (hb : Below w.heap.size w w') : ReadPost w ([], e) (.returned (.tuple #[.slice none 0 0, .int .i64 e])) w' :=
  ⟨none, 0, rfl, Byt.none_ _ _, hb, fun h => absurd h (Nat.not_lt_zero _)⟩
theorem drop_atZ (zs : List Int) (p : Nat) (h : p < zs.length) : zs.drop p = zs.getD p 0 :: zs.drop (p + 1) := by
  rw [List.drop_eq_getElem_cons h, getD_eq zs p h]
end
end Go.Proofs.Ytpomkhcobpihmaa
