/- Chapter 5's laws ask a known stored block first. -/
import Derived.Test.YtginbilakdenmaaPZ5
import Derived.Test.YtginbilakdenmaaOpenK
import Derived.Test.YtginbilakdenmaaRef1
namespace Go.Proofs.Ytginbilakdenmaa
open Go.RowKit
set_option linter.unusedVariables false

theorem awake_any (w : World) : Calls Try.prog 9 #[] w fun e w' => e = .returned (.bool true) ∧ Below w.heap.size w w' := by
  have kc := fun (w : World) (C : Array Value) (n c : Nat) => Lib.run_convert_bytes_const (P := Try.prog) w 29 5 C n c Try.underlying29 Try.underlying5
  have hby : Byt (w.alloc (.cells #[.int .u8 97] 5 (1, 2))) (w.alloc (.cells #[.int .u8 97] 5 (1, 2))).heap.size (some ⟨w.heap.size, 0, none⟩) 1 1 [97] := (byt_lit w (1, 2) [97] (by decide) 1 rfl _ rfl).more (by rw [World.size_alloc]; exact Nat.le_refl _)
  have hs := pStored _ 1 1 [97] _ hby (by omega)
  rw [show joinZ (chunksS [97]) = [1, 1, 0, 254, 255, 97] by decide] at hs
  have HST := Lib.hid hs
  clear hs hby
  go_enter Try.func9, Try.ntmps9
  go_wp2_with (first
    | (go_at_call 14; refine HST.out.mono ?_; (rintro r w1 ⟨v1, rfl, hm1, hb1⟩); obtain ⟨A1, c1, rfl, hy1⟩ := hm1.byt; have HS := Lib.hid (refSame_yes A1 (some ⟨w1.heap.size, 0, none⟩) 6 c1 _ 6 _ [1, 1, 0, 254, 255, 97] (w1.alloc (.cells #[.int .u8 1, .int .u8 1, .int .u8 0, .int .u8 254, .int .u8 255, .int .u8 97] 5)) (hy1.alloc (Nat.le_refl _) _) (byt_lit w1 (0, 0) [1, 1, 0, 254, 255, 97] (by decide) 6 rfl _ rfl) (by omega)); have HB1 := Lib.hid (((Below.refl w.heap.size w).alloc (Nat.le_refl _) (.cells #[.int .u8 97] 5 (1, 2))).trans (hb1.mono (by simp))); clear hm1 hb1 hy1)
    | (go_at_call 12; refine HS.out.mono ?_; (rintro r w2 ⟨rfl, q, rfl⟩)))
  go_ret
  exact ⟨rfl, below_drewN (HB1.out.alloc HB1.out.size _) _⟩
end Go.Proofs.Ytginbilakdenmaa
