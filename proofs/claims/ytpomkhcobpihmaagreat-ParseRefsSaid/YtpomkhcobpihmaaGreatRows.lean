/-
  No cell of these rows narrows 'for every input' (looked for: loops, veiled, ifaces, maps, wideKeys, modest, calm, conditions, laid).
  DERIVED. THE GIVEN ROWS OF THIS SEAT. 5 by the template 'for every input the law returns true; each argument reads behind the call as it read before'; 0 by the template 'total and deterministic' (their statements: YtpomkhcobpihmaaGreatTotals.lean).
  GIVEN WITH THE SEED: the statements are not yours to turn. If you find one false, say at which input.
  Laid BY PROGRAM, IN A SANDBOX (cutbox-rows.mjs): the forced cells as the released guide's own fill.sh prints them over the translation 18820c0bcdbbd6d6… (all of the seat's roots in one cut). By AI agents, Wed Nov 11 2026. No macro, syntax, notation, axiom, sorry.
-/
import Derived.Test.YtpomkhcobpihmaaGreatChecked
import GoSem.Claim
import GoSem.ClaimJoined
import GoSem.ClaimMapViews
import Derived.JoinedTies
import Derived.KernelRfl
namespace Go.Proofs.YtpomkhcobpihmaaGreat
/- THE CELL 'sum', in the pinned program and in every row, IS THE sha256 OF THE DUMP (.gsa) THAT YtpomkhcobpihmaaGreatProg.lean LOADS. Nothing in Lean hashes anything: it is a label: what it is worth is what the hold of that sum in a sandbox is worth. -/
noncomputable def Tryz.pinned : Pinned := { name := "ytpomkhcobpihmaagreat", sum := "18820c0bcdbbd6d67d1ba545802836bf112044c1cca796da43b6b2cd7dbe8a20", checked := Tryz.checked }
namespace Rows
def none {H : Type} : Left H := { results := [], args := [] }

/-- 'pressmarklaw12.ParseKnown': WHATEVER THE INPUT: true; the input reads as it did. -/
def parseKnownSpec : ChangeSpec := { name := "parseKnown", fn := fun _ => fun
  | [] => { results := [.lit (.bool true)], args := [] }
  | _ => none }
def parseKnownRow : OpenClaim := { program := "ytpomkhcobpihmaagreat", sum := "18820c0bcdbbd6d67d1ba545802836bf112044c1cca796da43b6b2cd7dbe8a20", func := "pressmark/pressmarklaw12.ParseKnown", spec := "parseKnown", unfollowed := true, recurses := true, apart := false }
def ParseKnownSaid : Prop := parseKnownRow.holds Tryz.pinned (OpenSpec.ofChange parseKnownSpec)

/-- ITS FALSE NEIGHBOUR: 'it returns false'. Refute it at one input. -/
def parseKnownWrong : ChangeSpec := { name := "parseKnown", fn := fun _ => fun
  | [] => { results := [.lit (.bool false)], args := [] }
  | _ => none }
def ParseKnownWrongFalsely : Prop := parseKnownRow.holds Tryz.pinned (OpenSpec.ofChange parseKnownWrong)

/-- 'pressmarklaw12.ParseItems': WHATEVER THE INPUT: true; the input reads as it did. -/
def parseItemsSpec : ChangeSpec := { name := "parseItems", fn := fun _ => fun
  | [d1, d2] => { results := [.lit (.bool true)], args := [d1, d2] }
  | _ => none }
def parseItemsRow : OpenClaim := { program := "ytpomkhcobpihmaagreat", sum := "18820c0bcdbbd6d67d1ba545802836bf112044c1cca796da43b6b2cd7dbe8a20", func := "pressmark/pressmarklaw12.ParseItems", spec := "parseItems", unfollowed := true, recurses := true, apart := false }
def ParseItemsSaid : Prop := parseItemsRow.holds Tryz.pinned (OpenSpec.ofChange parseItemsSpec)

/-- ITS FALSE NEIGHBOUR: 'it returns false'. Refute it at one input. -/
def parseItemsWrong : ChangeSpec := { name := "parseItems", fn := fun _ => fun
  | [d1, d2] => { results := [.lit (.bool false)], args := [d1, d2] }
  | _ => none }
def ParseItemsWrongFalsely : Prop := parseItemsRow.holds Tryz.pinned (OpenSpec.ofChange parseItemsWrong)

/-- 'pressmarklaw12.ParseData': WHATEVER THE INPUT: true; the input reads as it did. -/
def parseDataSpec : ChangeSpec := { name := "parseData", fn := fun _ => fun
  | [d1, d2, d3] => { results := [.lit (.bool true)], args := [d1, d2, d3] }
  | _ => none }
def parseDataRow : OpenClaim := { program := "ytpomkhcobpihmaagreat", sum := "18820c0bcdbbd6d67d1ba545802836bf112044c1cca796da43b6b2cd7dbe8a20", func := "pressmark/pressmarklaw12.ParseData", spec := "parseData", unfollowed := true, recurses := true, apart := false }
def ParseDataSaid : Prop := parseDataRow.holds Tryz.pinned (OpenSpec.ofChange parseDataSpec)

/-- ITS FALSE NEIGHBOUR: 'it returns false'. Refute it at one input. -/
def parseDataWrong : ChangeSpec := { name := "parseData", fn := fun _ => fun
  | [d1, d2, d3] => { results := [.lit (.bool false)], args := [d1, d2, d3] }
  | _ => none }
def ParseDataWrongFalsely : Prop := parseDataRow.holds Tryz.pinned (OpenSpec.ofChange parseDataWrong)

/-- 'pressmarklaw12.ParseRefs': WHATEVER THE INPUT: true; the input reads as it did. -/
def parseRefsSpec : ChangeSpec := { name := "parseRefs", fn := fun _ => fun
  | [d1, d2] => { results := [.lit (.bool true)], args := [d1, d2] }
  | _ => none }
def parseRefsRow : OpenClaim := { program := "ytpomkhcobpihmaagreat", sum := "18820c0bcdbbd6d67d1ba545802836bf112044c1cca796da43b6b2cd7dbe8a20", func := "pressmark/pressmarklaw12.ParseRefs", spec := "parseRefs", unfollowed := true, recurses := true, apart := false }
def ParseRefsSaid : Prop := parseRefsRow.holds Tryz.pinned (OpenSpec.ofChange parseRefsSpec)

/-- ITS FALSE NEIGHBOUR: 'it returns false'. Refute it at one input. -/
def parseRefsWrong : ChangeSpec := { name := "parseRefs", fn := fun _ => fun
  | [d1, d2] => { results := [.lit (.bool false)], args := [d1, d2] }
  | _ => none }
def ParseRefsWrongFalsely : Prop := parseRefsRow.holds Tryz.pinned (OpenSpec.ofChange parseRefsWrong)

/-- 'pressmarklaw12.ParseShifts': WHATEVER THE INPUT: true; the input reads as it did. -/
def parseShiftsSpec : ChangeSpec := { name := "parseShifts", fn := fun _ => fun
  | [d1, d2, d3] => { results := [.lit (.bool true)], args := [d1, d2, d3] }
  | _ => none }
def parseShiftsRow : OpenClaim := { program := "ytpomkhcobpihmaagreat", sum := "18820c0bcdbbd6d67d1ba545802836bf112044c1cca796da43b6b2cd7dbe8a20", func := "pressmark/pressmarklaw12.ParseShifts", spec := "parseShifts", unfollowed := true, recurses := true, apart := false }
def ParseShiftsSaid : Prop := parseShiftsRow.holds Tryz.pinned (OpenSpec.ofChange parseShiftsSpec)

/-- ITS FALSE NEIGHBOUR: 'it returns false'. Refute it at one input. -/
def parseShiftsWrong : ChangeSpec := { name := "parseShifts", fn := fun _ => fun
  | [d1, d2, d3] => { results := [.lit (.bool false)], args := [d1, d2, d3] }
  | _ => none }
def ParseShiftsWrongFalsely : Prop := parseShiftsRow.holds Tryz.pinned (OpenSpec.ofChange parseShiftsWrong)

/- THE SECOND FORM. 'bulk': how many values and letters a reading holds, each counted each time it is reached (what is shared counts as often as it is met; a slice's spare places count too). A statement '..UptoSaid' is the law's where the arguments, and the package variables that the reading takes, are together of bulk at most 1048576: NARROWER than '..Said'. Prove '..Said' where nothing that the law and all that it calls make is longer than what came in: it says more and counts as full. Else prove '..UptoSaid'. A law counts once. -/
mutual
def uptoBulk {H : Type} : DataW H → Nat
  | .lit (.string bytes) => bytes.length + 1
  | .lit _ => 1
  | .nil => 1
  | .ptr d => uptoBulk d + 1
  | .slice elems spare => uptoBulkAll elems + uptoBulkAll spare + 1
  | .agg parts => uptoBulkAll parts + 1
  | .iface _ d => uptoBulk d + 1
  | .map entries => uptoBulkEntries entries + 1
  | .held _ => 1
def uptoBulkAll {H : Type} : List (DataW H) → Nat
  | [] => 0
  | d :: r => uptoBulk d + uptoBulkAll r
def uptoBulkEntries {H : Type} : List (Lit × DataW H) → Nat
  | [] => 0
  | x :: r => uptoBulkEntry x + uptoBulkEntries r
def uptoBulkEntry {H : Type} : Lit × DataW H → Nat
  | (.string bytes, d) => bytes.length + uptoBulk d + 1
  | (_, d) => uptoBulk d + 1
 end
def uptoSmall : (H : Type) → List (DataW H) → Bool := fun _ ds => decide (uptoBulkAll ds ≤ 1048576)
def OpenSpec.upto (s : _root_.Go.ChangeSpec) : _root_.Go.OpenSpec := { _root_.Go.OpenSpec.ofChange s with cond := some uptoSmall }

/-- 'pressmarklaw12.ParseKnown', WHERE WHAT IT READS IS OF BULK AT MOST 1048576: true; the input reads as it did. -/
def parseKnownUptoRow : OpenClaim := { program := "ytpomkhcobpihmaagreat", sum := "18820c0bcdbbd6d67d1ba545802836bf112044c1cca796da43b6b2cd7dbe8a20", func := "pressmark/pressmarklaw12.ParseKnown", spec := "parseKnown", unfollowed := true, recurses := true, apart := false, narrowed := true }
def ParseKnownUptoSaid : Prop := parseKnownUptoRow.holds Tryz.pinned (OpenSpec.upto parseKnownSpec)

/-- 'pressmarklaw12.ParseItems', WHERE WHAT IT READS IS OF BULK AT MOST 1048576: true; the input reads as it did. -/
def parseItemsUptoRow : OpenClaim := { program := "ytpomkhcobpihmaagreat", sum := "18820c0bcdbbd6d67d1ba545802836bf112044c1cca796da43b6b2cd7dbe8a20", func := "pressmark/pressmarklaw12.ParseItems", spec := "parseItems", unfollowed := true, recurses := true, apart := false, narrowed := true }
def ParseItemsUptoSaid : Prop := parseItemsUptoRow.holds Tryz.pinned (OpenSpec.upto parseItemsSpec)

/-- 'pressmarklaw12.ParseData', WHERE WHAT IT READS IS OF BULK AT MOST 1048576: true; the input reads as it did. -/
def parseDataUptoRow : OpenClaim := { program := "ytpomkhcobpihmaagreat", sum := "18820c0bcdbbd6d67d1ba545802836bf112044c1cca796da43b6b2cd7dbe8a20", func := "pressmark/pressmarklaw12.ParseData", spec := "parseData", unfollowed := true, recurses := true, apart := false, narrowed := true }
def ParseDataUptoSaid : Prop := parseDataUptoRow.holds Tryz.pinned (OpenSpec.upto parseDataSpec)

/-- 'pressmarklaw12.ParseRefs', WHERE WHAT IT READS IS OF BULK AT MOST 1048576: true; the input reads as it did. -/
def parseRefsUptoRow : OpenClaim := { program := "ytpomkhcobpihmaagreat", sum := "18820c0bcdbbd6d67d1ba545802836bf112044c1cca796da43b6b2cd7dbe8a20", func := "pressmark/pressmarklaw12.ParseRefs", spec := "parseRefs", unfollowed := true, recurses := true, apart := false, narrowed := true }
def ParseRefsUptoSaid : Prop := parseRefsUptoRow.holds Tryz.pinned (OpenSpec.upto parseRefsSpec)

/-- 'pressmarklaw12.ParseShifts', WHERE WHAT IT READS IS OF BULK AT MOST 1048576: true; the input reads as it did. -/
def parseShiftsUptoRow : OpenClaim := { program := "ytpomkhcobpihmaagreat", sum := "18820c0bcdbbd6d67d1ba545802836bf112044c1cca796da43b6b2cd7dbe8a20", func := "pressmark/pressmarklaw12.ParseShifts", spec := "parseShifts", unfollowed := true, recurses := true, apart := false, narrowed := true }
def ParseShiftsUptoSaid : Prop := parseShiftsUptoRow.holds Tryz.pinned (OpenSpec.upto parseShiftsSpec)

end Rows
end Go.Proofs.YtpomkhcobpihmaaGreat
