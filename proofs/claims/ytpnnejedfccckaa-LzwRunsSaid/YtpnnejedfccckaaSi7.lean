/- The document's own Sink, chapters 7 and 8: what a reader answers. -/
import Derived.Test.YtpnnejedfccckaaSn7
namespace Go.Proofs.Ytpnnejedfccckaa
open Go.RowKit
set_option linter.unusedVariables false
set_option maxRecDepth 100000

/-- What is still to come of a sink's answer. -/
def StS (now : List Int × Int) (bad : Int) (R : List Int × Int) : Prop := (bad = 0 ∧ now = R) ∨ (¬ bad = 0 ∧ R = ([], bad))
/-- What a reader answers: the bytes in new memory, its error. -/
def ReadPost (w : World) (R : List Int × Int) (r : Ending) (w' : World) : Prop := ∃ A c, r = .returned (.tuple #[.slice A R.1.length c, .int .i64 R.2]) ∧ Byt w' w'.heap.size A R.1.length c R.1 ∧ Below w.heap.size w w' ∧ From w.heap.size A R.1.length
theorem Mine.from_ {w : World} {base p c : Nat} {A : Option Addr} {zs : List Int} (h : Mine w base (.slice A p c) p zs) : From base A p := fun hp b o e => by
  rcases h.own.2 with ⟨_, h0⟩ | ⟨g, cap, cur, e2, hb, _⟩
  · omega
  · injection e2 with e2
    rw [e] at e2
    injection e2 with e2
    injection e2 with e2
    omega
theorem ReadPost.of_row {w w' : World} {v : Value} {out : List Int} (hb : Below w.heap.size w w') (h : Mine w' w.heap.size v out.length out) : ReadPost w (out, 0) (.returned (.tuple #[v, .int .i64 0])) w' := by
  obtain ⟨A, c, rfl, hy⟩ := h.byt
  exact ⟨A, c, rfl, hy, hb, h.from_⟩
theorem ReadPost.of_bad {w w' : World} (e : Int) (hb : Below w.heap.size w w') : ReadPost w ([], e) (.returned (.tuple #[.slice none 0 0, .int .i64 e])) w' :=
  ⟨none, 0, rfl, Byt.none_ _ _, hb, fun h => absurd h (Nat.not_lt_zero _)⟩
theorem drop_atZ (zs : List Int) (p : Nat) (h : p < zs.length) : zs.drop p = zs.getD p 0 :: zs.drop (p + 1) := by
  rw [List.drop_eq_getElem_cons h, getD_eq zs p h]

theorem skput_ok (base ks M : Nat) (v : Value) (out : List Int) (w : World) (h : Snk w base ks v out M 0) (hlt : out.length < M) (hm : out.length ≤ 100000000) (z : Int) (hz : 0 ≤ z ∧ z < 256) :
    Calls Try.prog 24 #[.pointer (some ⟨ks, 0, none⟩), .int .u8 z] w fun r w' => r = .returned (.tuple #[]) ∧ ∃ v', Snk w' base ks v' (out ++ [z]) M 0 ∧ Below base w w' := by
  have := skput base ks M 0 z v out w h hz hm
  unfold skO skE at this
  rw [if_pos ⟨rfl, hlt⟩, if_neg (by omega)] at this
  exact this
theorem skput_no (base ks M : Nat) (v : Value) (out : List Int) (w : World) (h : Snk w base ks v out M 0) (hlt : M ≤ out.length) (hm : out.length ≤ 100000000) (z : Int) (hz : 0 ≤ z ∧ z < 256) :
    Calls Try.prog 24 #[.pointer (some ⟨ks, 0, none⟩), .int .u8 z] w fun r w' => r = .returned (.tuple #[]) ∧ ∃ v', Snk w' base ks v' out M 7 ∧ Below base w w' := by
  have := skput base ks M 0 z v out w h hz hm
  unfold skO skE at this
  rw [if_neg (by omega), if_pos ⟨rfl, hlt⟩] at this
  exact this
theorem skfail0 (base ks M : Nat) (e : Int) (v : Value) (out : List Int) (w : World) (h : Snk w base ks v out M 0) :
    Calls Try.prog 22 #[.pointer (some ⟨ks, 0, none⟩), .int .i64 e] w fun r w' => r = .returned (.tuple #[]) ∧ Snk w' base ks v out M e ∧ Below base w w' := by
  have := skfail base ks M 0 e v out w h
  rw [if_pos rfl] at this
  exact this
theorem skfail1 (base ks M : Nat) (bad e : Int) (v : Value) (out : List Int) (w : World) (h : Snk w base ks v out M bad) (hb : ¬ bad = 0) :
    Calls Try.prog 22 #[.pointer (some ⟨ks, 0, none⟩), .int .i64 e] w fun r w' => r = .returned (.tuple #[]) ∧ Snk w' base ks v out M bad ∧ Below base w w' := by
  have := skfail base ks M bad e v out w h
  rw [if_neg hb] at this
  exact this
end Go.Proofs.Ytpnnejedfccckaa
