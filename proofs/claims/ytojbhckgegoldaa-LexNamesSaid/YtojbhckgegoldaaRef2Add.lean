/- What the document's own Add (of chapter 2) answers. -/
import Derived.Test.YtojbhckgegoldaaRef2Reck
namespace Go.Proofs.Ytojbhckgegoldaa
open Go.RowKit
set_option linter.unusedVariables false

/-- The slice '.slice A n c' holds the int64s zs; where there is one, it lies below block B. -/
structure Ints (w : World) (B : Nat) (A : Option Addr) (n c : Nat) (zs : List Int) : Prop where
  len : zs.length = n
  cap : n ≤ c
  cell : 0 < n → ∃ b o, A = some ⟨b, o, none⟩ ∧ b < B ∧ ∀ i, i < n → w.cell? ⟨b, o + i, none⟩ = some (.int .i64 (zs.getD i 0))
theorem Ints.below {w w' : World} {B B' n c : Nat} {A : Option Addr} {zs : List Int} (h : Ints w B A n c zs) (hb : Below B' w w') (hB : B ≤ B') : Ints w' B A n c zs :=
  ⟨h.len, h.cap, fun hn => by
    obtain ⟨b, o, e, hlt, hc⟩ := h.cell hn
    exact ⟨b, o, e, hlt, fun i hi => (hb.cell (p := ⟨b, o + i, none⟩) (Nat.lt_of_lt_of_le hlt hB)).trans (hc i hi)⟩⟩

/-- The sum from acc on; none: a summand or a sum on the way may not be. -/
def addS (acc : Int) : List Int → Option Int
  | [] => some acc
  | x :: r => if inB x = true ∧ inB (acc + x) = true then addS (acc + x) r else none
def AddOut (r : Option Int) (w : World) (e : Ending) (w' : World) : Prop := (e = match r with | some v => .returned (.tuple #[.int .i64 v, .bool true]) | none => .returned (.tuple #[.int .i64 0, .bool false])) ∧ w = w'
theorem addS_drop (acc : Int) (zs : List Int) (k : Nat) (h : k < zs.length) : addS acc (zs.drop k) = if inB (zs.getD k 0) = true ∧ inB (acc + zs.getD k 0) = true then addS (acc + zs.getD k 0) (zs.drop (k + 1)) else none := by
  rw [List.drop_eq_getElem_cons h]
  have e : zs.getD k 0 = zs[k] := by simp [List.getD, h]
  rw [e]
  rfl

end Go.Proofs.Ytojbhckgegoldaa
