/-
  DERIVED. GIVEN WITH THE SEED: THE CARDS: each row of YtgglgpgieeibnaaDoorRows.lean that lists a variable, with what it lists TIED to the program's text (the seventh form; the later family's looks); each row that meets fmt, with fmt's text TOLD by the authors' own Lean function (tested against real Go, not proved from fmt's source: count such statements apart). THE CARD IS WHAT COUNTS. Prove the row's statement (the work); the ties are given (YtgglgpgieeibnaaDoorTie.lean); close each card by the builder's one call (the guide's Derived/Test/ToyasCard.lean, 'card_holds'). Laid BY PROGRAM, IN A SANDBOX (cutbox-door.mjs). By AI agents, Wed Nov 11 2026. No macro, syntax, notation, axiom, sorry.
-/
import Derived.Test.YtgglgpgieeibnaaDoorRows
import GoSem.ClaimSeven
namespace Go.Proofs.YtgglgpgieeibnaaDoor
namespace Rows

/-- THE TIED CARD OF 'pressmarklaw4.InflateKnown'. -/
def inflateKnownCard : Claim7 := { stood := { row := inflateKnownRow, standIns := [], harness := (true, "e30c704e48c6121e3b538d8dc40abeb7b3028ae1e2dbbd592f7bfa1b52713bfe"), looks := false }, kinds := [], alts := [], laidByText := true, laidKinds := [.data], laidTests := true, laidLooks := .later }
def InflateKnownCardSaid : Prop := Claim7.holds Tryd.pinned (.plain (OpenSpec.ofChange inflateKnownSpec)) inflateKnownCard

/-- THE TIED CARD OF 'pressmarklaw4.InflateBits'. -/
def inflateBitsCard : Claim7 := { stood := { row := inflateBitsRow, standIns := [], harness := (true, "e30c704e48c6121e3b538d8dc40abeb7b3028ae1e2dbbd592f7bfa1b52713bfe"), looks := false }, kinds := [], alts := [], laidByText := true, laidKinds := [.data], laidTests := true, laidLooks := .later }
def InflateBitsCardSaid : Prop := Claim7.holds Tryd.pinned (.plain (OpenSpec.ofChange inflateBitsSpec)) inflateBitsCard

/-- THE TIED CARD OF 'pressmarklaw4.InflateBlocks'. -/
def inflateBlocksCard : Claim7 := { stood := { row := inflateBlocksRow, standIns := [], harness := (true, "e30c704e48c6121e3b538d8dc40abeb7b3028ae1e2dbbd592f7bfa1b52713bfe"), looks := false }, kinds := [], alts := [], laidByText := true, laidKinds := [.data], laidTests := true, laidLooks := .later }
def InflateBlocksCardSaid : Prop := Claim7.holds Tryd.pinned (.plain (OpenSpec.ofChange inflateBlocksSpec)) inflateBlocksCard

/-- THE TIED CARD OF 'pressmarklaw4.InflateZlib'. -/
def inflateZlibCard : Claim7 := { stood := { row := inflateZlibRow, standIns := [], harness := (true, "e30c704e48c6121e3b538d8dc40abeb7b3028ae1e2dbbd592f7bfa1b52713bfe"), looks := false }, kinds := [], alts := [], laidByText := true, laidKinds := [.data], laidTests := true, laidLooks := .later }
def InflateZlibCardSaid : Prop := Claim7.holds Tryd.pinned (.plain (OpenSpec.ofChange inflateZlibSpec)) inflateZlibCard

/-- THE TIED CARD OF 'pressmarklaw4.InflateBack'. -/
def inflateBackCard : Claim7 := { stood := { row := inflateBackRow, standIns := [], harness := (true, "e30c704e48c6121e3b538d8dc40abeb7b3028ae1e2dbbd592f7bfa1b52713bfe"), looks := false }, kinds := [], alts := [], laidByText := true, laidKinds := [.data], laidTests := true, laidLooks := .later }
def InflateBackCardSaid : Prop := Claim7.holds Tryd.pinned (.plain (OpenSpec.ofChange inflateBackSpec)) inflateBackCard

/-- THE TIED CARD OF 'pressmarklaw4.InflateCuts'. -/
def inflateCutsCard : Claim7 := { stood := { row := inflateCutsRow, standIns := [], harness := (true, "e30c704e48c6121e3b538d8dc40abeb7b3028ae1e2dbbd592f7bfa1b52713bfe"), looks := false }, kinds := [], alts := [], laidByText := true, laidKinds := [.data], laidTests := true, laidLooks := .later }
def InflateCutsCardSaid : Prop := Claim7.holds Tryd.pinned (.plain (OpenSpec.ofChange inflateCutsSpec)) inflateCutsCard

/-- THE TIED CARD OF 'pressmarklaw4.InflateJoins'. -/
def inflateJoinsCard : Claim7 := { stood := { row := inflateJoinsRow, standIns := [], harness := (true, "e30c704e48c6121e3b538d8dc40abeb7b3028ae1e2dbbd592f7bfa1b52713bfe"), looks := false }, kinds := [], alts := [], laidByText := true, laidKinds := [.data], laidTests := true, laidLooks := .later }
def InflateJoinsCardSaid : Prop := Claim7.holds Tryd.pinned (.plain (OpenSpec.ofChange inflateJoinsSpec)) inflateJoinsCard

/-- THE SECOND FORM's CARD OF 'pressmarklaw4.InflateKnown'. -/
def inflateKnownUptoCard : Claim7 := { stood := { row := inflateKnownUptoRow, standIns := [], harness := (true, "e30c704e48c6121e3b538d8dc40abeb7b3028ae1e2dbbd592f7bfa1b52713bfe"), looks := false }, kinds := [], alts := [], laidByText := true, laidKinds := [.data], laidTests := true, laidLooks := .later }
def InflateKnownUptoCardSaid : Prop := Claim7.holds Tryd.pinned (.plain (OpenSpec.upto inflateKnownSpec)) inflateKnownUptoCard

/-- THE SECOND FORM's CARD OF 'pressmarklaw4.InflateBits'. -/
def inflateBitsUptoCard : Claim7 := { stood := { row := inflateBitsUptoRow, standIns := [], harness := (true, "e30c704e48c6121e3b538d8dc40abeb7b3028ae1e2dbbd592f7bfa1b52713bfe"), looks := false }, kinds := [], alts := [], laidByText := true, laidKinds := [.data], laidTests := true, laidLooks := .later }
def InflateBitsUptoCardSaid : Prop := Claim7.holds Tryd.pinned (.plain (OpenSpec.upto inflateBitsSpec)) inflateBitsUptoCard

/-- THE SECOND FORM's CARD OF 'pressmarklaw4.InflateBlocks'. -/
def inflateBlocksUptoCard : Claim7 := { stood := { row := inflateBlocksUptoRow, standIns := [], harness := (true, "e30c704e48c6121e3b538d8dc40abeb7b3028ae1e2dbbd592f7bfa1b52713bfe"), looks := false }, kinds := [], alts := [], laidByText := true, laidKinds := [.data], laidTests := true, laidLooks := .later }
def InflateBlocksUptoCardSaid : Prop := Claim7.holds Tryd.pinned (.plain (OpenSpec.upto inflateBlocksSpec)) inflateBlocksUptoCard

/-- THE SECOND FORM's CARD OF 'pressmarklaw4.InflateZlib'. -/
def inflateZlibUptoCard : Claim7 := { stood := { row := inflateZlibUptoRow, standIns := [], harness := (true, "e30c704e48c6121e3b538d8dc40abeb7b3028ae1e2dbbd592f7bfa1b52713bfe"), looks := false }, kinds := [], alts := [], laidByText := true, laidKinds := [.data], laidTests := true, laidLooks := .later }
def InflateZlibUptoCardSaid : Prop := Claim7.holds Tryd.pinned (.plain (OpenSpec.upto inflateZlibSpec)) inflateZlibUptoCard

/-- THE SECOND FORM's CARD OF 'pressmarklaw4.InflateBack'. -/
def inflateBackUptoCard : Claim7 := { stood := { row := inflateBackUptoRow, standIns := [], harness := (true, "e30c704e48c6121e3b538d8dc40abeb7b3028ae1e2dbbd592f7bfa1b52713bfe"), looks := false }, kinds := [], alts := [], laidByText := true, laidKinds := [.data], laidTests := true, laidLooks := .later }
def InflateBackUptoCardSaid : Prop := Claim7.holds Tryd.pinned (.plain (OpenSpec.upto inflateBackSpec)) inflateBackUptoCard

/-- THE SECOND FORM's CARD OF 'pressmarklaw4.InflateCuts'. -/
def inflateCutsUptoCard : Claim7 := { stood := { row := inflateCutsUptoRow, standIns := [], harness := (true, "e30c704e48c6121e3b538d8dc40abeb7b3028ae1e2dbbd592f7bfa1b52713bfe"), looks := false }, kinds := [], alts := [], laidByText := true, laidKinds := [.data], laidTests := true, laidLooks := .later }
def InflateCutsUptoCardSaid : Prop := Claim7.holds Tryd.pinned (.plain (OpenSpec.upto inflateCutsSpec)) inflateCutsUptoCard

/-- THE SECOND FORM's CARD OF 'pressmarklaw4.InflateJoins'. -/
def inflateJoinsUptoCard : Claim7 := { stood := { row := inflateJoinsUptoRow, standIns := [], harness := (true, "e30c704e48c6121e3b538d8dc40abeb7b3028ae1e2dbbd592f7bfa1b52713bfe"), looks := false }, kinds := [], alts := [], laidByText := true, laidKinds := [.data], laidTests := true, laidLooks := .later }
def InflateJoinsUptoCardSaid : Prop := Claim7.holds Tryd.pinned (.plain (OpenSpec.upto inflateJoinsSpec)) inflateJoinsUptoCard
end Rows
end Go.Proofs.YtgglgpgieeibnaaDoor
