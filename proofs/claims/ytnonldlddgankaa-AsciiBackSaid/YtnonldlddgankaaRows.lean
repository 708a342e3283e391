/-
  No cell of these rows narrows 'for every input' (looked for: loops, veiled, ifaces, maps, wideKeys, modest, calm, conditions, laid).
  DERIVED. THE GIVEN ROWS OF THIS SEAT. 5 by the template 'for every input the law returns true; each argument reads behind the call as it read before'; 0 by the template 'total and deterministic' (their statements: YtnonldlddgankaaTotals.lean).
  GIVEN WITH THE SEED: the statements are not yours to turn. If you find one false, say at which input.
  Laid BY PROGRAM, IN A SANDBOX (cutbox-rows.mjs): the forced cells as the released guide's own fill.sh prints them over the translation d5eb0f428940ae76… (all of the seat's roots in one cut). By AI agents, Wed Nov 11 2026. No macro, syntax, notation, axiom, sorry.
-/
import Derived.Test.YtnonldlddgankaaChecked
import GoSem.Claim
import GoSem.ClaimJoined
import GoSem.ClaimMapViews
import Derived.JoinedTies
import Derived.KernelRfl
namespace Go.Proofs.Ytnonldlddgankaa
/- THE CELL 'sum', in the pinned program and in every row, IS THE sha256 OF THE DUMP (.gsa) THAT YtnonldlddgankaaProg.lean LOADS. Nothing in Lean hashes anything: it is a label: what it is worth is what the hold of that sum in a sandbox is worth. -/
noncomputable def Try.pinned : Pinned := { name := "ytnonldlddgankaa", sum := "d5eb0f428940ae76340f172c6ed1c68575dd5b038f9582d970d911daa5aeb40d", checked := Try.checked }
namespace Rows
def none {H : Type} : Left H := { results := [], args := [] }

/-- 'pressmarklaw6.AsciiKnown': WHATEVER THE INPUT: true; the input reads as it did. -/
def asciiKnownSpec : ChangeSpec := { name := "asciiKnown", fn := fun _ => fun
  | [] => { results := [.lit (.bool true)], args := [] }
  | _ => none }
def asciiKnownRow : OpenClaim := { program := "ytnonldlddgankaa", sum := "d5eb0f428940ae76340f172c6ed1c68575dd5b038f9582d970d911daa5aeb40d", func := "pressmark/pressmarklaw6.AsciiKnown", spec := "asciiKnown", apart := false }
def AsciiKnownSaid : Prop := asciiKnownRow.holds Try.pinned (OpenSpec.ofChange asciiKnownSpec)

/-- ITS FALSE NEIGHBOUR: 'it returns false'. Refute it at one input. -/
def asciiKnownWrong : ChangeSpec := { name := "asciiKnown", fn := fun _ => fun
  | [] => { results := [.lit (.bool false)], args := [] }
  | _ => none }
def AsciiKnownWrongFalsely : Prop := asciiKnownRow.holds Try.pinned (OpenSpec.ofChange asciiKnownWrong)

/-- 'pressmarklaw6.AsciiReads': WHATEVER THE INPUT: true; the input reads as it did. -/
def asciiReadsSpec : ChangeSpec := { name := "asciiReads", fn := fun _ => fun
  | [d1, d2] => { results := [.lit (.bool true)], args := [d1, d2] }
  | _ => none }
def asciiReadsRow : OpenClaim := { program := "ytnonldlddgankaa", sum := "d5eb0f428940ae76340f172c6ed1c68575dd5b038f9582d970d911daa5aeb40d", func := "pressmark/pressmarklaw6.AsciiReads", spec := "asciiReads", apart := false }
def AsciiReadsSaid : Prop := asciiReadsRow.holds Try.pinned (OpenSpec.ofChange asciiReadsSpec)

/-- ITS FALSE NEIGHBOUR: 'it returns false'. Refute it at one input. -/
def asciiReadsWrong : ChangeSpec := { name := "asciiReads", fn := fun _ => fun
  | [d1, d2] => { results := [.lit (.bool false)], args := [d1, d2] }
  | _ => none }
def AsciiReadsWrongFalsely : Prop := asciiReadsRow.holds Try.pinned (OpenSpec.ofChange asciiReadsWrong)

/-- 'pressmarklaw6.AsciiWrites': WHATEVER THE INPUT: true; the input reads as it did. -/
def asciiWritesSpec : ChangeSpec := { name := "asciiWrites", fn := fun _ => fun
  | [d1, d2] => { results := [.lit (.bool true)], args := [d1, d2] }
  | _ => none }
def asciiWritesRow : OpenClaim := { program := "ytnonldlddgankaa", sum := "d5eb0f428940ae76340f172c6ed1c68575dd5b038f9582d970d911daa5aeb40d", func := "pressmark/pressmarklaw6.AsciiWrites", spec := "asciiWrites", apart := false }
def AsciiWritesSaid : Prop := asciiWritesRow.holds Try.pinned (OpenSpec.ofChange asciiWritesSpec)

/-- ITS FALSE NEIGHBOUR: 'it returns false'. Refute it at one input. -/
def asciiWritesWrong : ChangeSpec := { name := "asciiWrites", fn := fun _ => fun
  | [d1, d2] => { results := [.lit (.bool false)], args := [d1, d2] }
  | _ => none }
def AsciiWritesWrongFalsely : Prop := asciiWritesRow.holds Try.pinned (OpenSpec.ofChange asciiWritesWrong)

/-- 'pressmarklaw6.AsciiBack': WHATEVER THE INPUT: true; the input reads as it did. -/
def asciiBackSpec : ChangeSpec := { name := "asciiBack", fn := fun _ => fun
  | [d1, d2, d3] => { results := [.lit (.bool true)], args := [d1, d2, d3] }
  | _ => none }
def asciiBackRow : OpenClaim := { program := "ytnonldlddgankaa", sum := "d5eb0f428940ae76340f172c6ed1c68575dd5b038f9582d970d911daa5aeb40d", func := "pressmark/pressmarklaw6.AsciiBack", spec := "asciiBack", apart := false }
def AsciiBackSaid : Prop := asciiBackRow.holds Try.pinned (OpenSpec.ofChange asciiBackSpec)

/-- ITS FALSE NEIGHBOUR: 'it returns false'. Refute it at one input. -/
def asciiBackWrong : ChangeSpec := { name := "asciiBack", fn := fun _ => fun
  | [d1, d2, d3] => { results := [.lit (.bool false)], args := [d1, d2, d3] }
  | _ => none }
def AsciiBackWrongFalsely : Prop := asciiBackRow.holds Try.pinned (OpenSpec.ofChange asciiBackWrong)

/-- 'pressmarklaw6.AsciiSigns': WHATEVER THE INPUT: true; the input reads as it did. -/
def asciiSignsSpec : ChangeSpec := { name := "asciiSigns", fn := fun _ => fun
  | [d] => { results := [.lit (.bool true)], args := [d] }
  | _ => none }
def asciiSignsRow : OpenClaim := { program := "ytnonldlddgankaa", sum := "d5eb0f428940ae76340f172c6ed1c68575dd5b038f9582d970d911daa5aeb40d", func := "pressmark/pressmarklaw6.AsciiSigns", spec := "asciiSigns", apart := false }
def AsciiSignsSaid : Prop := asciiSignsRow.holds Try.pinned (OpenSpec.ofChange asciiSignsSpec)

/-- ITS FALSE NEIGHBOUR: 'it returns false'. Refute it at one input. -/
def asciiSignsWrong : ChangeSpec := { name := "asciiSigns", fn := fun _ => fun
  | [d] => { results := [.lit (.bool false)], args := [d] }
  | _ => none }
def AsciiSignsWrongFalsely : Prop := asciiSignsRow.holds Try.pinned (OpenSpec.ofChange asciiSignsWrong)

/- THE SECOND FORM. 'bulk': how many values and letters a reading holds, each counted each time it is reached (what is shared counts as often as it is met; a slice's spare places count too). A statement '..UptoSaid' is the law's where the arguments, and the package variables that the reading takes, are together of bulk at most 1048576: NARROWER than '..Said'. Prove '..Said' where nothing that the law and all that it calls make is longer than what came in: it says more and counts as full. Else prove '..UptoSaid'. A law counts once. -/
mutual
def uptoBulk {H : Type} : DataW H → Nat
  | .lit (.string bytes) => bytes.length + 1
  | .lit _ => 1
  | .nil => 1
  | .ptr d => uptoBulk d + 1
  | .slice elems spare => uptoBulkAll elems + uptoBulkAll spare + 1
  | .agg parts => uptoBulkAll parts + 1
  | .iface _ d => uptoBulk d + 1
  | .map entries => uptoBulkEntries entries + 1
  | .held _ => 1
def uptoBulkAll {H : Type} : List (DataW H) → Nat
  | [] => 0
  | d :: r => uptoBulk d + uptoBulkAll r
def uptoBulkEntries {H : Type} : List (Lit × DataW H) → Nat
  | [] => 0
  | x :: r => uptoBulkEntry x + uptoBulkEntries r
def uptoBulkEntry {H : Type} : Lit × DataW H → Nat
  | (.string bytes, d) => bytes.length + uptoBulk d + 1
  | (_, d) => uptoBulk d + 1
 end
def uptoSmall : (H : Type) → List (DataW H) → Bool := fun _ ds => decide (uptoBulkAll ds ≤ 1048576)
def OpenSpec.upto (s : _root_.Go.ChangeSpec) : _root_.Go.OpenSpec := { _root_.Go.OpenSpec.ofChange s with cond := some uptoSmall }

/-- 'pressmarklaw6.AsciiKnown', WHERE WHAT IT READS IS OF BULK AT MOST 1048576: true; the input reads as it did. -/
def asciiKnownUptoRow : OpenClaim := { program := "ytnonldlddgankaa", sum := "d5eb0f428940ae76340f172c6ed1c68575dd5b038f9582d970d911daa5aeb40d", func := "pressmark/pressmarklaw6.AsciiKnown", spec := "asciiKnown", apart := false, narrowed := true }
def AsciiKnownUptoSaid : Prop := asciiKnownUptoRow.holds Try.pinned (OpenSpec.upto asciiKnownSpec)

/-- 'pressmarklaw6.AsciiReads', WHERE WHAT IT READS IS OF BULK AT MOST 1048576: true; the input reads as it did. -/
def asciiReadsUptoRow : OpenClaim := { program := "ytnonldlddgankaa", sum := "d5eb0f428940ae76340f172c6ed1c68575dd5b038f9582d970d911daa5aeb40d", func := "pressmark/pressmarklaw6.AsciiReads", spec := "asciiReads", apart := false, narrowed := true }
def AsciiReadsUptoSaid : Prop := asciiReadsUptoRow.holds Try.pinned (OpenSpec.upto asciiReadsSpec)

/-- 'pressmarklaw6.AsciiWrites', WHERE WHAT IT READS IS OF BULK AT MOST 1048576: true; the input reads as it did. -/
def asciiWritesUptoRow : OpenClaim := { program := "ytnonldlddgankaa", sum := "d5eb0f428940ae76340f172c6ed1c68575dd5b038f9582d970d911daa5aeb40d", func := "pressmark/pressmarklaw6.AsciiWrites", spec := "asciiWrites", apart := false, narrowed := true }
def AsciiWritesUptoSaid : Prop := asciiWritesUptoRow.holds Try.pinned (OpenSpec.upto asciiWritesSpec)

/-- 'pressmarklaw6.AsciiBack', WHERE WHAT IT READS IS OF BULK AT MOST 1048576: true; the input reads as it did. -/
def asciiBackUptoRow : OpenClaim := { program := "ytnonldlddgankaa", sum := "d5eb0f428940ae76340f172c6ed1c68575dd5b038f9582d970d911daa5aeb40d", func := "pressmark/pressmarklaw6.AsciiBack", spec := "asciiBack", apart := false, narrowed := true }
def AsciiBackUptoSaid : Prop := asciiBackUptoRow.holds Try.pinned (OpenSpec.upto asciiBackSpec)

/-- 'pressmarklaw6.AsciiSigns', WHERE WHAT IT READS IS OF BULK AT MOST 1048576: true; the input reads as it did. -/
def asciiSignsUptoRow : OpenClaim := { program := "ytnonldlddgankaa", sum := "d5eb0f428940ae76340f172c6ed1c68575dd5b038f9582d970d911daa5aeb40d", func := "pressmark/pressmarklaw6.AsciiSigns", spec := "asciiSigns", apart := false, narrowed := true }
def AsciiSignsUptoSaid : Prop := asciiSignsUptoRow.holds Try.pinned (OpenSpec.upto asciiSignsSpec)

end Rows
end Go.Proofs.Ytnonldlddgankaa
