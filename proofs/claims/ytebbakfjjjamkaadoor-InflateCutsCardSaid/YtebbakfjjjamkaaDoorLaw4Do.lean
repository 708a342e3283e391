/- Chapter 4's laws ask a known block first. -/
import Derived.Test.YtebbakfjjjamkaaDoorPBlocks
import Derived.Test.YtebbakfjjjamkaaDoorRef1
import Derived.Test.YtebbakfjjjamkaaDoorRows
import Derived.Test.YtebbakfjjjamkaaDoorCards
import Derived.Test.YtebbakfjjjamkaaDoorTie
import Derived.ProofKit
import Derived.LaidMore
import Derived.Lay
import Derived.SevenTiedAt
import Derived.Stop.Joined
import Derived.Stop.LaidErr
import Derived.Lib.LaidTab
import Derived.Test.YtebbakfjjjamkaaDoorOpenK
import Derived.Lib.SlBytesRow
namespace Go.Proofs.YtebbakfjjjamkaaDoor
open Go.RowKit
set_option linter.unusedVariables false
set_option maxRecDepth 100000

theorem str_of (w : World) (B : Nat) (A : Option Addr) (n c : Nat) (zs : List Int) (h : Byt w B A n c zs) (hn : 0 < n) : (convert 22 9 (.slice A n c)).run Tryd.prog w = .ok (.string (strOfNums zs)) w := by
  obtain ⟨b, o, rfl, _, hc⟩ := h.cell hn
  exact run_convert_bytes_arg (P := Tryd.prog) w 22 5 Tryd.underlying22 Tryd.underlying5 b o n c zs h.len hc 9 Tryd.underlying9
theorem awake_any (w : World) (ho : Ord w) : Calls Tryd.prog 6 #[] w fun e w' => e = .returned (.bool true) ∧ Below w.heap.size w w' := by
  obtain ⟨W1, hW1⟩ : ∃ W1, W1 = w.alloc (.cells #[.int .u8 1, .int .u8 1, .int .u8 0, .int .u8 254, .int .u8 255, .int .u8 97] 5) := ⟨_, rfl⟩
  have hby : Byt W1 W1.heap.size (some ⟨w.heap.size, 0, none⟩) 6 6 [1, 1, 0, 254, 255, 97] := by rw [hW1]; exact (byt_lit w (0, 0) [1, 1, 0, 254, 255, 97] (by decide) 6 rfl _ rfl).more (by rw [World.size_alloc]; exact Nat.le_refl _)
  have hA := inBlocks _ 6 6 9 9 _ W1 hby (ho.below (B := w.heap.size) (by rw [hW1]; exact (Below.refl _ _).alloc (Nat.le_refl _) _) (Nat.le_refl _)) (by omega) (by omega) (by decide) (by decide)
  rw [show blocksS [1, 1, 0, 254, 255, 97] 9 = ([97], 6, 0) by decide +kernel] at hA
  have HA := Lib.hid hA
  have HW1 := Lib.hid hW1
  have HSZ : Hid (W1.heap.size = w.heap.size + 1) := Lib.hid (by rw [hW1]; simp)
  clear hA hW1 hby
  go_enter Tryd.func6, Tryd.ntmps6
  go_wp2_with (first
    | (go_at_call 12; rw [← HW1.out]; refine HA.out.mono ?_; rintro e w2 ⟨A2, c2, rfl, hy2, hl2, hb2⟩; have hcv := str_of w2 _ A2 1 c2 [97] hy2 (by omega); rw [show strOfNums [97] = ⟨#[97]⟩ from rfl] at hcv; have HB2 := Lib.hid hb2; clear hy2 hl2 hb2))
  go_ret
  exact ⟨rfl, (show Below w.heap.size w W1 by rw [HW1.out]; exact (Below.refl _ _).alloc (Nat.le_refl _) _).trans (HB2.out.mono (by rw [HSZ.out]; omega))⟩
end Go.Proofs.YtebbakfjjjamkaaDoor
