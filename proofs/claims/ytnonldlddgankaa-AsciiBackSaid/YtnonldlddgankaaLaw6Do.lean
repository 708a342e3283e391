/- Chapter 6's laws ask a known text first. -/
import Derived.Test.YtnonldlddgankaaPd6
import Derived.Test.YtnonldlddgankaaWd6
import Derived.Test.YtnonldlddgankaaOpenK
namespace Go.Proofs.Ytnonldlddgankaa
open Go.RowKit
set_option linter.unusedVariables false
set_option maxRecDepth 100000

theorem awake_any (w : World) : Calls Try.prog 8 #[] w fun e w' => e = .returned (.bool true) ∧ Below w.heap.size w w' := by
  have hby : Byt (w.alloc (.cells #[.int .u8 1, .int .u8 171] 5)) (w.alloc (.cells #[.int .u8 1, .int .u8 171] 5)).heap.size (some ⟨w.heap.size, 0, none⟩) 2 2 [1, 171] := (byt_two w 1 171 (by omega) (by omega)).more (by rw [World.size_alloc]; exact Nat.le_refl _)
  have hs := pHex _ 2 2 [1, 171] _ hby (by omega)
  rw [show hexS [1, 171] = [48, 49, 97, 98, 62] by decide] at hs
  have HST := Lib.hid hs
  have HU := Lib.hid (fun W A c (hW : Byt W W.heap.size A 5 c [48, 49, 97, 98, 62]) => pUnhex A 5 c 9 [48, 49, 97, 98, 62] W hW (by omega) (by omega) (by omega) ([1, 171], 0) (by decide))
  have HW := Lib.hid (fun W => (show whB 32 = true from rfl) ▸ pwhite 32 W)
  have HD := Lib.hid (fun W => (show dgZ 70 = 15 from rfl) ▸ pdigit 70 W)
  clear hs hby
  go_enter Try.func8, Try.ntmps8
  go_wp2_with (first
    | (go_at_call 12; refine HST.out.mono ?_; (rintro r w1 ⟨v1, rfl, hm1, hb1⟩); obtain ⟨A1, c1, rfl, hy1⟩ := hm1.byt; have HY1 := Lib.hid hy1; have HB1 := Lib.hid (((Below.refl w.heap.size w).alloc (Nat.le_refl _) (.cells #[.int .u8 1, .int .u8 171] 5)).trans (hb1.mono (by simp))); clear hm1 hb1 hy1)
    | (go_at_call 9; refine (HU.out _ _ _ HY1.out).mono ?_; (rintro r w2 ⟨A2, c2, rfl, hy2, hb2, _⟩); have HS := Lib.hid (refSame_yes A2 (some ⟨w2.heap.size, 0, none⟩) 2 c2 _ 2 _ [1, 171] (w2.alloc (.cells #[.int .u8 1, .int .u8 171] 5)) (hy2.alloc (Nat.le_refl _) _) (byt_two w2 1 171 (by omega) (by omega)) (by omega)); have HB2 := Lib.hid (HB1.out.trans (hb2.mono HB1.out.size)); clear hy2 hb2)
    | (go_at_call 11; refine HS.out.mono ?_; (rintro r w3 ⟨rfl, q, rfl⟩))
    | (go_at_call 14; refine (HW.out _).mono ?_; (rintro r w4 ⟨rfl, rfl⟩))
    | (go_at_call 15; refine (HD.out _).mono ?_; (rintro r w5 ⟨rfl, rfl⟩)))
  go_ret
  exact ⟨rfl, below_drewN (HB2.out.alloc HB2.out.size _) _⟩
end Go.Proofs.Ytnonldlddgankaa
