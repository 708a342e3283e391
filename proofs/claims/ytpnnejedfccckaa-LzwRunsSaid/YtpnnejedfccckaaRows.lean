/-
  No cell of these rows narrows 'for every input' (looked for: loops, veiled, ifaces, maps, wideKeys, modest, calm, conditions, laid).
  DERIVED. THE GIVEN ROWS OF THIS SEAT. 5 by the template 'for every input the law returns true; each argument reads behind the call as it read before'; 0 by the template 'total and deterministic' (their statements: YtpnnejedfccckaaTotals.lean).
  GIVEN WITH THE SEED: the statements are not yours to turn. If you find one false, say at which input.
  Laid BY PROGRAM, IN A SANDBOX (cutbox-rows.mjs): the forced cells as the released guide's own fill.sh prints them over the translation f4b07c214c486f45… (all of the seat's roots in one cut). By AI agents, Wed Nov 11 2026. No macro, syntax, notation, axiom, sorry.
-/
import Derived.Test.YtpnnejedfccckaaChecked
import GoSem.Claim
import GoSem.ClaimJoined
import GoSem.ClaimMapViews
import Derived.JoinedTies
import Derived.KernelRfl
namespace Go.Proofs.Ytpnnejedfccckaa
/- THE CELL 'sum', in the pinned program and in every row, IS THE sha256 OF THE DUMP (.gsa) THAT YtpnnejedfccckaaProg.lean LOADS. Nothing in Lean hashes anything: it is a label: what it is worth is what the hold of that sum in a sandbox is worth. -/
noncomputable def Try.pinned : Pinned := { name := "ytpnnejedfccckaa", sum := "f4b07c214c486f4594229144f27353541832413718f88fa6ddee0d1f75f551a9", checked := Try.checked }
namespace Rows
def none {H : Type} : Left H := { results := [], args := [] }

/-- 'pressmarklaw8.LzwKnown': WHATEVER THE INPUT: true; the input reads as it did. -/
def lzwKnownSpec : ChangeSpec := { name := "lzwKnown", fn := fun _ => fun
  | [] => { results := [.lit (.bool true)], args := [] }
  | _ => none }
def lzwKnownRow : OpenClaim := { program := "ytpnnejedfccckaa", sum := "f4b07c214c486f4594229144f27353541832413718f88fa6ddee0d1f75f551a9", func := "pressmark/pressmarklaw8.LzwKnown", spec := "lzwKnown", plainKeys := false, apart := false }
def LzwKnownSaid : Prop := lzwKnownRow.holds Try.pinned (OpenSpec.ofChange lzwKnownSpec)

/-- ITS FALSE NEIGHBOUR: 'it returns false'. Refute it at one input. -/
def lzwKnownWrong : ChangeSpec := { name := "lzwKnown", fn := fun _ => fun
  | [] => { results := [.lit (.bool false)], args := [] }
  | _ => none }
def LzwKnownWrongFalsely : Prop := lzwKnownRow.holds Try.pinned (OpenSpec.ofChange lzwKnownWrong)

/-- 'pressmarklaw8.LzwBoth': WHATEVER THE INPUT: true; the input reads as it did. -/
def lzwBothSpec : ChangeSpec := { name := "lzwBoth", fn := fun _ => fun
  | [d1, d2] => { results := [.lit (.bool true)], args := [d1, d2] }
  | _ => none }
def lzwBothRow : OpenClaim := { program := "ytpnnejedfccckaa", sum := "f4b07c214c486f4594229144f27353541832413718f88fa6ddee0d1f75f551a9", func := "pressmark/pressmarklaw8.LzwBoth", spec := "lzwBoth", plainKeys := false, apart := false }
def LzwBothSaid : Prop := lzwBothRow.holds Try.pinned (OpenSpec.ofChange lzwBothSpec)

/-- ITS FALSE NEIGHBOUR: 'it returns false'. Refute it at one input. -/
def lzwBothWrong : ChangeSpec := { name := "lzwBoth", fn := fun _ => fun
  | [d1, d2] => { results := [.lit (.bool false)], args := [d1, d2] }
  | _ => none }
def LzwBothWrongFalsely : Prop := lzwBothRow.holds Try.pinned (OpenSpec.ofChange lzwBothWrong)

/-- 'pressmarklaw8.LzwBack': WHATEVER THE INPUT: true; the input reads as it did. -/
def lzwBackSpec : ChangeSpec := { name := "lzwBack", fn := fun _ => fun
  | [d1, d2] => { results := [.lit (.bool true)], args := [d1, d2] }
  | _ => none }
def lzwBackRow : OpenClaim := { program := "ytpnnejedfccckaa", sum := "f4b07c214c486f4594229144f27353541832413718f88fa6ddee0d1f75f551a9", func := "pressmark/pressmarklaw8.LzwBack", spec := "lzwBack", plainKeys := false, apart := false }
def LzwBackSaid : Prop := lzwBackRow.holds Try.pinned (OpenSpec.ofChange lzwBackSpec)

/-- ITS FALSE NEIGHBOUR: 'it returns false'. Refute it at one input. -/
def lzwBackWrong : ChangeSpec := { name := "lzwBack", fn := fun _ => fun
  | [d1, d2] => { results := [.lit (.bool false)], args := [d1, d2] }
  | _ => none }
def LzwBackWrongFalsely : Prop := lzwBackRow.holds Try.pinned (OpenSpec.ofChange lzwBackWrong)

/-- 'pressmarklaw8.LzwGreat': WHATEVER THE INPUT: true; the input reads as it did. -/
def lzwGreatSpec : ChangeSpec := { name := "lzwGreat", fn := fun _ => fun
  | [d1, d2] => { results := [.lit (.bool true)], args := [d1, d2] }
  | _ => none }
def lzwGreatRow : OpenClaim := { program := "ytpnnejedfccckaa", sum := "f4b07c214c486f4594229144f27353541832413718f88fa6ddee0d1f75f551a9", func := "pressmark/pressmarklaw8.LzwGreat", spec := "lzwGreat", plainKeys := false, apart := false }
def LzwGreatSaid : Prop := lzwGreatRow.holds Try.pinned (OpenSpec.ofChange lzwGreatSpec)

/-- ITS FALSE NEIGHBOUR: 'it returns false'. Refute it at one input. -/
def lzwGreatWrong : ChangeSpec := { name := "lzwGreat", fn := fun _ => fun
  | [d1, d2] => { results := [.lit (.bool false)], args := [d1, d2] }
  | _ => none }
def LzwGreatWrongFalsely : Prop := lzwGreatRow.holds Try.pinned (OpenSpec.ofChange lzwGreatWrong)

/-- 'pressmarklaw8.LzwRuns': WHATEVER THE INPUT: true; the input reads as it did. -/
def lzwRunsSpec : ChangeSpec := { name := "lzwRuns", fn := fun _ => fun
  | [d1, d2] => { results := [.lit (.bool true)], args := [d1, d2] }
  | _ => none }
def lzwRunsRow : OpenClaim := { program := "ytpnnejedfccckaa", sum := "f4b07c214c486f4594229144f27353541832413718f88fa6ddee0d1f75f551a9", func := "pressmark/pressmarklaw8.LzwRuns", spec := "lzwRuns", plainKeys := false, apart := false }
def LzwRunsSaid : Prop := lzwRunsRow.holds Try.pinned (OpenSpec.ofChange lzwRunsSpec)

/-- ITS FALSE NEIGHBOUR: 'it returns false'. Refute it at one input. -/
def lzwRunsWrong : ChangeSpec := { name := "lzwRuns", fn := fun _ => fun
  | [d1, d2] => { results := [.lit (.bool false)], args := [d1, d2] }
  | _ => none }
def LzwRunsWrongFalsely : Prop := lzwRunsRow.holds Try.pinned (OpenSpec.ofChange lzwRunsWrong)

/- THE SECOND FORM. 'bulk': how many values and letters a reading holds, each counted each time it is reached (what is shared counts as often as it is met; a slice's spare places count too). A statement '..UptoSaid' is the law's where the arguments, and the package variables that the reading takes, are together of bulk at most 1048576: NARROWER than '..Said'. Prove '..Said' where nothing that the law and all that it calls make is longer than what came in: it says more and counts as full. Else prove '..UptoSaid'. A law counts once. -/
mutual
def uptoBulk {H : Type} : DataW H → Nat
  | .lit (.string bytes) => bytes.length + 1
  | .lit _ => 1
  | .nil => 1
  | .ptr d => uptoBulk d + 1
  | .slice elems spare => uptoBulkAll elems + uptoBulkAll spare + 1
  | .agg parts => uptoBulkAll parts + 1
  | .iface _ d => uptoBulk d + 1
  | .map entries => uptoBulkEntries entries + 1
  | .held _ => 1
def uptoBulkAll {H : Type} : List (DataW H) → Nat
  | [] => 0
  | d :: r => uptoBulk d + uptoBulkAll r
def uptoBulkEntries {H : Type} : List (Lit × DataW H) → Nat
  | [] => 0
  | x :: r => uptoBulkEntry x + uptoBulkEntries r
def uptoBulkEntry {H : Type} : Lit × DataW H → Nat
  | (.string bytes, d) => bytes.length + uptoBulk d + 1
  | (_, d) => uptoBulk d + 1
 end
def uptoSmall : (H : Type) → List (DataW H) → Bool := fun _ ds => decide (uptoBulkAll ds ≤ 1048576)
def OpenSpec.upto (s : _root_.Go.ChangeSpec) : _root_.Go.OpenSpec := { _root_.Go.OpenSpec.ofChange s with cond := some uptoSmall }

/-- 'pressmarklaw8.LzwKnown', WHERE WHAT IT READS IS OF BULK AT MOST 1048576: true; the input reads as it did. -/
def lzwKnownUptoRow : OpenClaim := { program := "ytpnnejedfccckaa", sum := "f4b07c214c486f4594229144f27353541832413718f88fa6ddee0d1f75f551a9", func := "pressmark/pressmarklaw8.LzwKnown", spec := "lzwKnown", plainKeys := false, apart := false, narrowed := true }
def LzwKnownUptoSaid : Prop := lzwKnownUptoRow.holds Try.pinned (OpenSpec.upto lzwKnownSpec)

/-- 'pressmarklaw8.LzwBoth', WHERE WHAT IT READS IS OF BULK AT MOST 1048576: true; the input reads as it did. -/
def lzwBothUptoRow : OpenClaim := { program := "ytpnnejedfccckaa", sum := "f4b07c214c486f4594229144f27353541832413718f88fa6ddee0d1f75f551a9", func := "pressmark/pressmarklaw8.LzwBoth", spec := "lzwBoth", plainKeys := false, apart := false, narrowed := true }
def LzwBothUptoSaid : Prop := lzwBothUptoRow.holds Try.pinned (OpenSpec.upto lzwBothSpec)

/-- 'pressmarklaw8.LzwBack', WHERE WHAT IT READS IS OF BULK AT MOST 1048576: true; the input reads as it did. -/
def lzwBackUptoRow : OpenClaim := { program := "ytpnnejedfccckaa", sum := "f4b07c214c486f4594229144f27353541832413718f88fa6ddee0d1f75f551a9", func := "pressmark/pressmarklaw8.LzwBack", spec := "lzwBack", plainKeys := false, apart := false, narrowed := true }
def LzwBackUptoSaid : Prop := lzwBackUptoRow.holds Try.pinned (OpenSpec.upto lzwBackSpec)

/-- 'pressmarklaw8.LzwGreat', WHERE WHAT IT READS IS OF BULK AT MOST 1048576: true; the input reads as it did. -/
def lzwGreatUptoRow : OpenClaim := { program := "ytpnnejedfccckaa", sum := "f4b07c214c486f4594229144f27353541832413718f88fa6ddee0d1f75f551a9", func := "pressmark/pressmarklaw8.LzwGreat", spec := "lzwGreat", plainKeys := false, apart := false, narrowed := true }
def LzwGreatUptoSaid : Prop := lzwGreatUptoRow.holds Try.pinned (OpenSpec.upto lzwGreatSpec)

/-- 'pressmarklaw8.LzwRuns', WHERE WHAT IT READS IS OF BULK AT MOST 1048576: true; the input reads as it did. -/
def lzwRunsUptoRow : OpenClaim := { program := "ytpnnejedfccckaa", sum := "f4b07c214c486f4594229144f27353541832413718f88fa6ddee0d1f75f551a9", func := "pressmark/pressmarklaw8.LzwRuns", spec := "lzwRuns", plainKeys := false, apart := false, narrowed := true }
def LzwRunsUptoSaid : Prop := lzwRunsUptoRow.holds Try.pinned (OpenSpec.upto lzwRunsSpec)

end Rows
end Go.Proofs.Ytpnnejedfccckaa
