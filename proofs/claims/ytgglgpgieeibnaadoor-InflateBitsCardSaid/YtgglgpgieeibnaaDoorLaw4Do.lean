/- Chapter 4's laws ask a known block first. -/
import Derived.Test.YtgglgpgieeibnaaDoorPBlocks
import Derived.Test.YtgglgpgieeibnaaDoorRef1
import Derived.Test.YtgglgpgieeibnaaDoorRows
import Derived.Test.YtgglgpgieeibnaaDoorCards
import Derived.Test.YtgglgpgieeibnaaDoorTie
import Derived.ProofKit
import Derived.LaidMore
import Derived.Lay
import Derived.SevenTiedAt
import Derived.Stop.Joined
import Derived.Stop.LaidErr
import Derived.Lib.LaidTab
import Derived.Test.YtgglgpgieeibnaaDoorOpenK
import Derived.Lib.SlBytesRow
namespace Go.Proofs.YtgglgpgieeibnaaDoor
open Go.RowKit
set_option linter.unusedVariables false
set_option maxRecDepth 100000

theorem str_of (w : World) (B : Nat) (A : Option Addr) (n c : Nat) (zs : List Int) (h : Byt w B A n c zs) (hn : 0 < n) : (convert 23 9 (.slice A n c)).run Tryd.prog w = .ok (.string (strOfNums zs)) w := by
  obtain ⟨b, o, rfl, _, hc⟩ := h.cell hn
  exact run_convert_bytes_arg (P := Tryd.prog) w 23 5 Tryd.underlying23 Tryd.underlying5 b o n c zs h.len hc 9 Tryd.underlying9
theorem awake_any (w : World) (ho : Ord w) : Calls Tryd.prog 10 #[] w fun e w' => e = .returned (.bool true) ∧ Below w.heap.size w w' := by
  obtain ⟨W1, hW1⟩ : ∃ W1, W1 = w.alloc (.cells #[.int .u8 1, .int .u8 1, .int .u8 0, .int .u8 254, .int .u8 255, .int .u8 97] 5) := ⟨_, rfl⟩
  have hby : Byt W1 W1.heap.size (some ⟨w.heap.size, 0, none⟩) 6 6 [1, 1, 0, 254, 255, 97] := by rw [hW1]; exact (byt_lit w (0, 0) [1, 1, 0, 254, 255, 97] (by decide) 6 rfl _ rfl).more (by rw [World.size_alloc]; exact Nat.le_refl _)
  have hA := inBlocks _ 6 6 9 9 _ W1 hby (ho.below (B := w.heap.size) (by rw [hW1]; exact (Below.refl _ _).alloc (Nat.le_refl _) _) (Nat.le_refl _)) (by omega) (by omega) (by decide) (by decide)
  rw [show blocksS [1, 1, 0, 254, 255, 97] 9 = ([97], 6, 0) by decide +kernel] at hA
  have HA := Lib.hid hA
  have HW1 := Lib.hid hW1
  have HSZ : Hid (W1.heap.size = w.heap.size + 1) := Lib.hid (by rw [hW1]; simp)
  clear hA hW1 hby
  go_enter Tryd.func10, Tryd.ntmps10
  go_wp2_with (first
    | (go_at_call 11; rw [← HW1.out]; refine HA.out.mono ?_; rintro e w2 ⟨A2, c2, rfl, hy2, hl2, hb2⟩; have hcv := str_of w2 _ A2 1 c2 [97] hy2 (by omega); rw [show strOfNums [97] = ⟨#[97]⟩ from rfl] at hcv; have HB2 := Lib.hid hb2; clear hy2 hl2 hb2))
  go_ret
  exact ⟨rfl, (show Below w.heap.size w W1 by rw [HW1.out]; exact (Below.refl _ _).alloc (Nat.le_refl _) _).trans (HB2.out.mono (by rw [HSZ.out]; omega))⟩
theorem ord_of_laid {W : World} (h : laidMetH Tryd.prog Rows.inflateKnownRow.laid W) : Ord W := by
  rw [MakeChecks.laidMetH_plain _ _ _ (by kernel_rfl)] at h
  have h2 : laidMet Tryd.prog (("pressmark/inflate.order", Lib.tabData .i64 ordL) :: []) W := h
  exact fun i hi => (Lib.tabIs_of_head (g := 0) (t := 121) (e := 3) (n := 19) (by kernel_rfl) (by kernel_rfl) Tryd.underlying121 Tryd.underlying3 (by kernel_rfl) (by kernel_rfl) h2).cell (by kernel_rfl) i hi
end Go.Proofs.YtgglgpgieeibnaaDoor
