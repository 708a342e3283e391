/- Chapter 7's laws ask a known text first. -/
import Derived.Test.YtnalaenanopnbaaPe7
import Derived.Test.YtnalaenanopnbaaOpenK
namespace Go.Proofs.Ytnalaenanopnbaa
open Go.RowKit
set_option linter.unusedVariables false
set_option maxRecDepth 100000

theorem awake_any (w : World) : Calls Try.prog 7 #[] w fun e w' => e = .returned (.bool true) ∧ Below w.heap.size w w' := by
  have kc := fun (w : World) (C : Array Value) (n c : Nat) => Lib.run_convert_bytes_const (P := Try.prog) w 23 5 C n c Try.underlying23 Try.underlying5
  have HST : Hid (∀ (W : World) (b : Nat), b = W.heap.size → Calls Try.prog 10 #[.slice (some ⟨b, 0, none⟩) 6 6] (W.alloc (.cells #[.int .u8 97, .int .u8 98, .int .u8 98, .int .u8 98, .int .u8 98, .int .u8 99] 5 (6, 7))) fun r w' => ∃ A c, r = .returned (.slice A 7 c) ∧ Byt w' w'.heap.size A 7 c [0, 97, 253, 98, 0, 99, 128] ∧ Below W.heap.size W w') := Lib.hid fun W b e => by
    subst e
    have h := pEncode _ 6 6 [97, 98, 98, 98, 98, 99] (W.alloc (.cells #[.int .u8 97, .int .u8 98, .int .u8 98, .int .u8 98, .int .u8 98, .int .u8 99] 5 (6, 7))) ((byt_lit W (6, 7) [97, 98, 98, 98, 98, 99] (by decide) 6 rfl _ rfl).more (by rw [World.size_alloc]; exact Nat.le_refl _)) (by omega)
    rw [show encS [97, 98, 98, 98, 98, 99] = [0, 97, 253, 98, 0, 99, 128] by decide +kernel] at h
    refine h.mono ?_
    rintro r w' ⟨v, rfl, hm, hb⟩
    obtain ⟨A, c, rfl, hy⟩ := hm.byt
    exact ⟨A, c, rfl, hy, ((Below.refl _ _).alloc (Nat.le_refl _) _).trans (hb.mono (by simp))⟩
  go_enter Try.func7, Try.ntmps7
  go_wp2_with (first
    | (go_at_call 10; refine (HST.out w _ rfl).mono ?_; (rintro r w1 ⟨A1, c1, rfl, hy1, hb1⟩); have HS := Lib.hid (refSame_yes A1 (some ⟨w1.heap.size, 0, none⟩) 7 c1 _ 7 _ [0, 97, 253, 98, 0, 99, 128] (w1.alloc (.cells #[.int .u8 0, .int .u8 97, .int .u8 253, .int .u8 98, .int .u8 0, .int .u8 99, .int .u8 128] 5)) (hy1.alloc (Nat.le_refl _) _) (byt_lit w1 (0, 0) [0, 97, 253, 98, 0, 99, 128] (by decide) 7 rfl _ rfl) (by omega)); have HB1 := Lib.hid hb1; clear hy1 hb1)
    | (go_at_call 9; refine HS.out.mono ?_; (rintro r w3 ⟨rfl, q, rfl⟩)))
  go_ret
  exact ⟨rfl, below_drewN (HB1.out.alloc HB1.out.size _) _⟩
end Go.Proofs.Ytnalaenanopnbaa
