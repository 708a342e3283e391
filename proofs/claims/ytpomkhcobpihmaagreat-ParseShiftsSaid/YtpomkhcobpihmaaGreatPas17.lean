/- Contracts of functions that the law calls, and what they lean on (a part). -/
import Derived.Test.YtpomkhcobpihmaaGreatProg
import Derived.Outline
import Derived.LoopTactic
import Derived.WalkLawsBesides
import Derived.Deep.DeepFit
import Derived.Test.YtpomkhcobpihmaaGreatPas16
namespace Go.Proofs.YtpomkhcobpihmaaGreat
section
open Go.RowKit
set_option linter.unusedVariables false
/-- The slice '.slice A n c' holds the int64s zs; where there is one, it lies below block B. -/
structure Ints (w : World) (B : Nat) (A : Option Addr) (n c : Nat) (zs : List Int) : Prop where
  len : zs.length = n
  cap : n ≤ c
  cell : 0 < n → ∃ b o, A = some ⟨b, o, none⟩ ∧ b < B ∧ ∀ i, i < n → w.cell? ⟨b, o + i, none⟩ = some (.int .i64 (zs.getD i 0))
theorem Ints.below {w w' : World} {B B' n c : Nat} {A : Option Addr} {zs : List Int} (h : Ints w B A n c zs) (hb : Below B' w w') (hB : B ≤ B') : Ints w' B A n c zs :=
  ⟨h.len, h.cap, fun hn => by
    obtain ⟨b, o, e, hlt, hc⟩ := h.cell hn
    exact ⟨b, o, e, hlt, fun i hi => (hb.cell (p := ⟨b, o + i, none⟩) (Nat.lt_of_lt_of_le hlt hB)).trans (hc i hi)⟩⟩
end
end Go.Proofs.YtpomkhcobpihmaaGreat
