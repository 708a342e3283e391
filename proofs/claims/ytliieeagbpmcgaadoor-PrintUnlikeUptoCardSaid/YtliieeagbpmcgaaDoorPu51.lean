/- Contracts of functions that the law calls, and what they lean on (a part). -/
import Derived.Test.YtliieeagbpmcgaaDoorRows
import Derived.Test.YtliieeagbpmcgaaDoorCards
import Derived.Test.YtliieeagbpmcgaaDoorTie
import Derived.ProofKit
import Derived.LaidMore
import Derived.Lay
import Derived.SevenTiedAt
import Derived.Stop.Joined
import Derived.Stop.LaidErr
import Derived.Lib.LaidTab
import Derived.Deep.DeepHandedRow
import Derived.Test.YtliieeagbpmcgaaDoorPu45
namespace Go.Proofs.YtliieeagbpmcgaaDoor
section
open Go.RowKit
set_option linter.unusedVariables false
theorem tab_of_laid13 {W : World} (h : laidMetH Tryd.prog Rows.printUnlikeRow.laid W) : Tab W := by
  rw [MakeChecks.laidMetH_plain _ _ _ (by kernel_rfl)] at h
  have h2 : laidMet Tryd.prog (("internal/strconv.uint64pow10", Lib.tabData .u64 Lib.pow10Tab) :: [("unicode/utf8.acceptRanges", Rows.laid_unicode_utf8_acceptRanges), ("unicode/utf8.first", Rows.laid_unicode_utf8_first)]) W := laidMet.tail (laidMet.tail h)
  exact Lib.tabIs_of_head (g := 0) (t := 106) (e := 80) (n := 20) (by kernel_rfl) (by kernel_rfl) Tryd.underlying106 Tryd.underlying80 (by kernel_rfl) (by kernel_rfl) h2
noncomputable def laidW (os : Os) : World := World.laidAll Tryd.prog os Rows.printUnlikeRow.laid
theorem laidW_met (os : Os) (args : Array Value) : laidMet Tryd.prog Rows.printUnlikeRow.laid ((laidW os).forCall (fun _ _ => 0) ⟨#[], args, []⟩).memory := laidMet_laidAll args (by kernel_rfl) (by kernel_rfl)
end
end Go.Proofs.YtliieeagbpmcgaaDoor
