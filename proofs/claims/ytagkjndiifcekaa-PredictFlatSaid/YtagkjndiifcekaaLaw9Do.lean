/- Chapter 9's laws ask a known text first. -/
import Derived.Test.YtagkjndiifcekaaPe9
import Derived.Test.YtagkjndiifcekaaRef1
import Derived.Test.YtagkjndiifcekaaLit
import Derived.Test.YtagkjndiifcekaaOpenK
namespace Go.Proofs.Ytagkjndiifcekaa
open Go.RowKit
set_option linter.unusedVariables false
set_option maxRecDepth 100000

theorem RdP.at9 {w w' : World} {zs : List Int} {n : Nat} {e : Int} {r : Ending} (hn : zs.length = n) (h : RdP w (zs, e) r w') : ∃ A c, r = .returned (.tuple #[.slice A n c, .int .i64 e]) ∧ Byt w' w'.heap.size A n c zs ∧ Below w.heap.size w w' := by
  subst hn
  obtain ⟨A, c, rfl, hy, hb⟩ := h
  exact ⟨A, c, rfl, hy, hb⟩
set_option maxHeartbeats 2000000 in
theorem awake_any (w : World) : Calls Try.prog 8 #[] w fun e w' => e = .returned (.bool true) ∧ Below w.heap.size w w' := by
  have HDC : Hid (∀ (W : World) (b : Nat), b = W.heap.size → Calls Try.prog 9 #[shV 12 1 2, .slice (some ⟨b, 0, none⟩) 6 6] (W.alloc (.cells #[.int .u8 2, .int .u8 1, .int .u8 2, .int .u8 2, .int .u8 1, .int .u8 1] 5)) fun r w' => ∃ A c, r = .returned (.tuple #[.slice A 4 c, .int .i64 0]) ∧ Byt w' w'.heap.size A 4 c [1, 2, 2, 3] ∧ Below W.heap.size W w') := Lib.hid fun W b e => by
    subst e
    refine (pDecode 12 1 2 _ 6 6 [2, 1, 2, 2, 1, 1] (W.alloc (.cells #[.int .u8 2, .int .u8 1, .int .u8 2, .int .u8 2, .int .u8 1, .int .u8 1] 5)) ((byt_lit W (0, 0) [2, 1, 2, 2, 1, 1] (by decide) 6 rfl _ rfl).more (by rw [World.size_alloc]; exact Nat.le_refl _)) (by omega) ([1, 2, 2, 3], 0) (by decide +kernel)).mono ?_
    intro r w' h
    obtain ⟨A, c, rfl, hy, hb⟩ := h.at9 (n := 4) rfl
    exact ⟨A, c, rfl, hy, ((Below.refl _ _).alloc (Nat.le_refl _) _).trans (hb.mono (by simp))⟩
  go_enter Try.func8, Try.ntmps8
  go_wp2_with (first
    | (go_at_call 9; refine (HDC.out w _ rfl).mono ?_; (rintro r w1 ⟨A1, c1, rfl, hy1, hb1⟩); have HS := Lib.hid (refSame_yes A1 (some ⟨w1.heap.size, 0, none⟩) 4 c1 _ 4 _ [1, 2, 2, 3] (w1.alloc (.cells #[.int .u8 1, .int .u8 2, .int .u8 2, .int .u8 3] 5)) (hy1.alloc (Nat.le_refl _) _) (byt_lit w1 (0, 0) [1, 2, 2, 3] (by decide) 4 rfl _ rfl) (by omega)); have HB1 := Lib.hid hb1; clear hy1 hb1)
    | (go_at_call 11; refine HS.out.mono ?_; (rintro r w6 ⟨rfl, q, rfl⟩)))
  go_ret
  exact ⟨rfl, below_drewN (HB1.out.alloc HB1.out.size _) _⟩
end Go.Proofs.Ytagkjndiifcekaa
