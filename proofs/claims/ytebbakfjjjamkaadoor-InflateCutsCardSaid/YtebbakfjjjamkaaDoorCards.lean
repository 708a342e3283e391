/-
  DERIVED. GIVEN WITH THE SEED: THE CARDS: each row of YtebbakfjjjamkaaDoorRows.lean that lists a variable, with what it lists TIED to the program's text (the seventh form; the later family's looks); each row that meets fmt, with fmt's text TOLD by the authors' own Lean function (tested against real Go, not proved from fmt's source: count such statements apart). THE CARD IS WHAT COUNTS. Prove the row's statement (the work); the ties are given (YtebbakfjjjamkaaDoorTie.lean); close each card by the builder's one call (the guide's Derived/Test/ToyasCard.lean, 'card_holds'). Laid BY PROGRAM, IN A SANDBOX (cutbox-door.mjs). By AI agents, Wed Nov 11 2026. No macro, syntax, notation, axiom, sorry.
-/
import Derived.Test.YtebbakfjjjamkaaDoorRows
import GoSem.ClaimSeven
namespace Go.Proofs.YtebbakfjjjamkaaDoor
namespace Rows

/-- THE TIED CARD OF 'pressmarklaw4.InflateZlib'. -/
def inflateZlibCard : Claim7 := { stood := { row := inflateZlibRow, standIns := [], harness := (true, "44db3cdc8cd79ef64984a4765bf5c0a78437459ca2246065ca4e90059e1df2c3"), looks := false }, kinds := [], alts := [], laidByText := true, laidKinds := [.data], laidTests := true, laidLooks := .later }
def InflateZlibCardSaid : Prop := Claim7.holds Tryd.pinned (.plain (OpenSpec.ofChange inflateZlibSpec)) inflateZlibCard

/-- THE TIED CARD OF 'pressmarklaw4.InflateBack'. -/
def inflateBackCard : Claim7 := { stood := { row := inflateBackRow, standIns := [], harness := (true, "44db3cdc8cd79ef64984a4765bf5c0a78437459ca2246065ca4e90059e1df2c3"), looks := false }, kinds := [], alts := [], laidByText := true, laidKinds := [.data], laidTests := true, laidLooks := .later }
def InflateBackCardSaid : Prop := Claim7.holds Tryd.pinned (.plain (OpenSpec.ofChange inflateBackSpec)) inflateBackCard

/-- THE TIED CARD OF 'pressmarklaw4.InflateCuts'. -/
def inflateCutsCard : Claim7 := { stood := { row := inflateCutsRow, standIns := [], harness := (true, "44db3cdc8cd79ef64984a4765bf5c0a78437459ca2246065ca4e90059e1df2c3"), looks := false }, kinds := [], alts := [], laidByText := true, laidKinds := [.data], laidTests := true, laidLooks := .later }
def InflateCutsCardSaid : Prop := Claim7.holds Tryd.pinned (.plain (OpenSpec.ofChange inflateCutsSpec)) inflateCutsCard

/-- THE SECOND FORM's CARD OF 'pressmarklaw4.InflateZlib'. -/
def inflateZlibUptoCard : Claim7 := { stood := { row := inflateZlibUptoRow, standIns := [], harness := (true, "44db3cdc8cd79ef64984a4765bf5c0a78437459ca2246065ca4e90059e1df2c3"), looks := false }, kinds := [], alts := [], laidByText := true, laidKinds := [.data], laidTests := true, laidLooks := .later }
def InflateZlibUptoCardSaid : Prop := Claim7.holds Tryd.pinned (.plain (OpenSpec.upto inflateZlibSpec)) inflateZlibUptoCard

/-- THE SECOND FORM's CARD OF 'pressmarklaw4.InflateBack'. -/
def inflateBackUptoCard : Claim7 := { stood := { row := inflateBackUptoRow, standIns := [], harness := (true, "44db3cdc8cd79ef64984a4765bf5c0a78437459ca2246065ca4e90059e1df2c3"), looks := false }, kinds := [], alts := [], laidByText := true, laidKinds := [.data], laidTests := true, laidLooks := .later }
def InflateBackUptoCardSaid : Prop := Claim7.holds Tryd.pinned (.plain (OpenSpec.upto inflateBackSpec)) inflateBackUptoCard

/-- THE SECOND FORM's CARD OF 'pressmarklaw4.InflateCuts'. -/
def inflateCutsUptoCard : Claim7 := { stood := { row := inflateCutsUptoRow, standIns := [], harness := (true, "44db3cdc8cd79ef64984a4765bf5c0a78437459ca2246065ca4e90059e1df2c3"), looks := false }, kinds := [], alts := [], laidByText := true, laidKinds := [.data], laidTests := true, laidLooks := .later }
def InflateCutsUptoCardSaid : Prop := Claim7.holds Tryd.pinned (.plain (OpenSpec.upto inflateCutsSpec)) inflateCutsUptoCard
end Rows
end Go.Proofs.YtebbakfjjjamkaaDoor
