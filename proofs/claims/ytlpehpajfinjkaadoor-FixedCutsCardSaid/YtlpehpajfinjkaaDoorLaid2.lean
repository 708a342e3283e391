/- What chapter 2's rows list: the table of the powers of ten lies as it was laid. -/
import Derived.Test.YtlpehpajfinjkaaDoorLaw2Do
import Derived.Test.YtlpehpajfinjkaaDoorRows
import Derived.Test.YtlpehpajfinjkaaDoorCards
import Derived.Test.YtlpehpajfinjkaaDoorTie
import Derived.ProofKit
import Derived.LaidMore
import Derived.Lay
import Derived.SevenTiedAt
import Derived.Stop.Joined
import Derived.Stop.LaidErr
import Derived.Lib.LaidTab
namespace Go.Proofs.YtlpehpajfinjkaaDoor
open Go.RowKit
set_option linter.unusedVariables false

theorem tab_of_laid {W : World} (h : laidMetH Tryd.prog Rows.fixedKnownRow.laid W) : Tab W := by
  rw [MakeChecks.laidMetH_plain _ _ _ (by kernel_rfl)] at h
  have h2 : laidMet Tryd.prog (("internal/strconv.uint64pow10", Lib.tabData .u64 Lib.pow10Tab) :: [("unicode/utf8.acceptRanges", Rows.laid_unicode_utf8_acceptRanges), ("unicode/utf8.first", Rows.laid_unicode_utf8_first)]) W := laidMet.tail (laidMet.tail h)
  exact Lib.tabIs_of_head (g := 2) (t := 90) (e := 55) (n := 20) (by kernel_rfl) (by kernel_rfl) Tryd.underlying90 Tryd.underlying55 (by kernel_rfl) (by kernel_rfl) h2
end Go.Proofs.YtlpehpajfinjkaaDoor
