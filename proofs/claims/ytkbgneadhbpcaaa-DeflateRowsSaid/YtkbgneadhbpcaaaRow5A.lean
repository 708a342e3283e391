/- Chapter 5's reference: the row of bits: Align. -/
import Derived.Test.YtkbgneadhbpcaaaRow5R
namespace Go.Proofs.Ytkbgneadhbpcaaa
open Go.RowKit
set_option linter.unusedVariables false
set_option maxRecDepth 100000

theorem ralignC (B k : Nat) (v : Value) (L : List Int) (w : World) (h : RRow w B k v L) (hL : L.length ≤ 800000000) :
    Calls Try.prog 18 #[.pointer (some ⟨k, 0, none⟩)] w fun r w' => r = .returned (.tuple #[]) ∧ RRow w' B k v (padB L) ∧ RMov w w' k v v := by
  have HL := Lib.hid (h.set1 (pack_pad L h.b01) (padB_01 h.b01))
  have k0 := h.c0
  have kf := h.fr 1
  have hk1 := h.c1
  obtain ⟨A, c, rfl, _⟩ := h.row.byt
  have hp := padB_len L
  have hl := pack_len L
  obtain ⟨P, hP⟩ : ∃ P, (pack L).length = P := ⟨_, rfl⟩
  rw [hP] at k0 HL hl ⊢
  have HE : Hid ((8 * P : Int) = (padB L).length) := Lib.hid (by omega)
  have hPb : (P : Int) ≤ 100000001 := by omega
  clear h hp hl hP hL
  go_enter Try.func18, Try.ntmps18
  go_wp2_with fail
  (try simp only [Exit.inBlock, Exit.then])
  refine ⟨rfl, _, results_none rfl _ _ _, ?_⟩
  exact ⟨rfl, HL.out _ HE.out⟩
end Go.Proofs.Ytkbgneadhbpcaaa
