/-
  NARROWER THAN 'FOR EVERY INPUT', by the rows' own cells (each row's printed sentence says how): CosMay: loops · CosEdits: loops · CosSame: loops · CosOrder: loops.
  DERIVED. THE GIVEN ROWS OF THIS SEAT. 5 by the template 'for every input the law returns true; each argument reads behind the call as it read before'; 0 by the template 'total and deterministic' (their statements: YtdkmomdioiipjaaTotals.lean).
  GIVEN WITH THE SEED: the statements are not yours to turn. If you find one false, say at which input.
  Laid BY PROGRAM, IN A SANDBOX (cutbox-rows.mjs): the forced cells as the released guide's own fill.sh prints them over the translation 749e807b95a82f5f… (all of the seat's roots in one cut). By AI agents, Wed Nov 11 2026. No macro, syntax, notation, axiom, sorry.
-/
import Derived.Test.YtdkmomdioiipjaaChecked
import GoSem.Claim
import GoSem.ClaimJoined
import GoSem.ClaimMapViews
import Derived.JoinedTies
import Derived.KernelRfl
namespace Go.Proofs.Ytdkmomdioiipjaa
/- THE CELL 'sum', in the pinned program and in every row, IS THE sha256 OF THE DUMP (.gsa) THAT YtdkmomdioiipjaaProg.lean LOADS. Nothing in Lean hashes anything: it is a label: what it is worth is what the hold of that sum in a sandbox is worth. -/
noncomputable def Try.pinned : Pinned := { name := "ytdkmomdioiipjaa", sum := "749e807b95a82f5f6e6881f2f20e0b5d96c9ebc716f54b93a395d3fde30dbbaa", checked := Try.checked }
namespace Rows
def none {H : Type} : Left H := { results := [], args := [] }

/-- 'pressmarklaw10.CosKnown': WHATEVER THE INPUT: true; the input reads as it did. -/
def cosKnownSpec : ChangeSpec := { name := "cosKnown", fn := fun _ => fun
  | [] => { results := [.lit (.bool true)], args := [] }
  | _ => none }
def cosKnownRow : OpenClaim := { program := "ytdkmomdioiipjaa", sum := "749e807b95a82f5f6e6881f2f20e0b5d96c9ebc716f54b93a395d3fde30dbbaa", func := "pressmark/pressmarklaw10.CosKnown", spec := "cosKnown", inPlace := ["internal/bytealg.IndexByteString"], unfollowed := true, recurses := true, apart := false }
def CosKnownSaid : Prop := cosKnownRow.holds Try.pinned (OpenSpec.ofChange cosKnownSpec)

/-- ITS FALSE NEIGHBOUR: 'it returns false'. Refute it at one input. -/
def cosKnownWrong : ChangeSpec := { name := "cosKnown", fn := fun _ => fun
  | [] => { results := [.lit (.bool false)], args := [] }
  | _ => none }
def CosKnownWrongFalsely : Prop := cosKnownRow.holds Try.pinned (OpenSpec.ofChange cosKnownWrong)

/-- 'pressmarklaw10.CosMay': WHATEVER THE INPUT: true; the input reads as it did. -/
def cosMaySpec : ChangeSpec := { name := "cosMay", fn := fun _ => fun
  | [d] => { results := [.lit (.bool true)], args := [d] }
  | _ => none }
def cosMayRow : OpenClaim := { program := "ytdkmomdioiipjaa", sum := "749e807b95a82f5f6e6881f2f20e0b5d96c9ebc716f54b93a395d3fde30dbbaa", func := "pressmark/pressmarklaw10.CosMay", spec := "cosMay", inPlace := ["internal/bytealg.IndexByteString"], unfollowed := true, recurses := true, loops := true, apart := false }
def CosMaySaid : Prop := cosMayRow.holds Try.pinned (OpenSpec.ofChange cosMaySpec)

/-- ITS FALSE NEIGHBOUR: 'it returns false'. Refute it at one input. -/
def cosMayWrong : ChangeSpec := { name := "cosMay", fn := fun _ => fun
  | [d] => { results := [.lit (.bool false)], args := [d] }
  | _ => none }
def CosMayWrongFalsely : Prop := cosMayRow.holds Try.pinned (OpenSpec.ofChange cosMayWrong)

/-- 'pressmarklaw10.CosEdits': WHATEVER THE INPUT: true; the input reads as it did. -/
def cosEditsSpec : ChangeSpec := { name := "cosEdits", fn := fun _ => fun
  | [d1, d2, d3] => { results := [.lit (.bool true)], args := [d1, d2, d3] }
  | _ => none }
def cosEditsRow : OpenClaim := { program := "ytdkmomdioiipjaa", sum := "749e807b95a82f5f6e6881f2f20e0b5d96c9ebc716f54b93a395d3fde30dbbaa", func := "pressmark/pressmarklaw10.CosEdits", spec := "cosEdits", unfollowed := true, recurses := true, loops := true, apart := false }
def CosEditsSaid : Prop := cosEditsRow.holds Try.pinned (OpenSpec.ofChange cosEditsSpec)

/-- ITS FALSE NEIGHBOUR: 'it returns false'. Refute it at one input. -/
def cosEditsWrong : ChangeSpec := { name := "cosEdits", fn := fun _ => fun
  | [d1, d2, d3] => { results := [.lit (.bool false)], args := [d1, d2, d3] }
  | _ => none }
def CosEditsWrongFalsely : Prop := cosEditsRow.holds Try.pinned (OpenSpec.ofChange cosEditsWrong)

/-- 'pressmarklaw10.CosSame': WHATEVER THE INPUT: true; the input reads as it did. -/
def cosSameSpec : ChangeSpec := { name := "cosSame", fn := fun _ => fun
  | [d1, d2] => { results := [.lit (.bool true)], args := [d1, d2] }
  | _ => none }
def cosSameRow : OpenClaim := { program := "ytdkmomdioiipjaa", sum := "749e807b95a82f5f6e6881f2f20e0b5d96c9ebc716f54b93a395d3fde30dbbaa", func := "pressmark/pressmarklaw10.CosSame", spec := "cosSame", unfollowed := true, recurses := true, loops := true, apart := false }
def CosSameSaid : Prop := cosSameRow.holds Try.pinned (OpenSpec.ofChange cosSameSpec)

/-- ITS FALSE NEIGHBOUR: 'it returns false'. Refute it at one input. -/
def cosSameWrong : ChangeSpec := { name := "cosSame", fn := fun _ => fun
  | [d1, d2] => { results := [.lit (.bool false)], args := [d1, d2] }
  | _ => none }
def CosSameWrongFalsely : Prop := cosSameRow.holds Try.pinned (OpenSpec.ofChange cosSameWrong)

/-- 'pressmarklaw10.CosOrder': WHATEVER THE INPUT: true; the input reads as it did. -/
def cosOrderSpec : ChangeSpec := { name := "cosOrder", fn := fun _ => fun
  | [d1, d2] => { results := [.lit (.bool true)], args := [d1, d2] }
  | _ => none }
def cosOrderRow : OpenClaim := { program := "ytdkmomdioiipjaa", sum := "749e807b95a82f5f6e6881f2f20e0b5d96c9ebc716f54b93a395d3fde30dbbaa", func := "pressmark/pressmarklaw10.CosOrder", spec := "cosOrder", unfollowed := true, recurses := true, loops := true, apart := false }
def CosOrderSaid : Prop := cosOrderRow.holds Try.pinned (OpenSpec.ofChange cosOrderSpec)

/-- ITS FALSE NEIGHBOUR: 'it returns false'. Refute it at one input. -/
def cosOrderWrong : ChangeSpec := { name := "cosOrder", fn := fun _ => fun
  | [d1, d2] => { results := [.lit (.bool false)], args := [d1, d2] }
  | _ => none }
def CosOrderWrongFalsely : Prop := cosOrderRow.holds Try.pinned (OpenSpec.ofChange cosOrderWrong)

/- THE SECOND FORM. 'bulk': how many values and letters a reading holds, each counted each time it is reached (what is shared counts as often as it is met; a slice's spare places count too). A statement '..UptoSaid' is the law's where the arguments, and the package variables that the reading takes, are together of bulk at most 1048576: NARROWER than '..Said'. Prove '..Said' where nothing that the law and all that it calls make is longer than what came in: it says more and counts as full. Else prove '..UptoSaid'. A law counts once. -/
mutual
def uptoBulk {H : Type} : DataW H → Nat
  | .lit (.string bytes) => bytes.length + 1
  | .lit _ => 1
  | .nil => 1
  | .ptr d => uptoBulk d + 1
  | .slice elems spare => uptoBulkAll elems + uptoBulkAll spare + 1
  | .agg parts => uptoBulkAll parts + 1
  | .iface _ d => uptoBulk d + 1
  | .map entries => uptoBulkEntries entries + 1
  | .held _ => 1
def uptoBulkAll {H : Type} : List (DataW H) → Nat
  | [] => 0
  | d :: r => uptoBulk d + uptoBulkAll r
def uptoBulkEntries {H : Type} : List (Lit × DataW H) → Nat
  | [] => 0
  | x :: r => uptoBulkEntry x + uptoBulkEntries r
def uptoBulkEntry {H : Type} : Lit × DataW H → Nat
  | (.string bytes, d) => bytes.length + uptoBulk d + 1
  | (_, d) => uptoBulk d + 1
 end
def uptoSmall : (H : Type) → List (DataW H) → Bool := fun _ ds => decide (uptoBulkAll ds ≤ 1048576)
def OpenSpec.upto (s : _root_.Go.ChangeSpec) : _root_.Go.OpenSpec := { _root_.Go.OpenSpec.ofChange s with cond := some uptoSmall }

/-- 'pressmarklaw10.CosKnown', WHERE WHAT IT READS IS OF BULK AT MOST 1048576: true; the input reads as it did. -/
def cosKnownUptoRow : OpenClaim := { program := "ytdkmomdioiipjaa", sum := "749e807b95a82f5f6e6881f2f20e0b5d96c9ebc716f54b93a395d3fde30dbbaa", func := "pressmark/pressmarklaw10.CosKnown", spec := "cosKnown", inPlace := ["internal/bytealg.IndexByteString"], unfollowed := true, recurses := true, apart := false, narrowed := true }
def CosKnownUptoSaid : Prop := cosKnownUptoRow.holds Try.pinned (OpenSpec.upto cosKnownSpec)

/-- 'pressmarklaw10.CosMay', WHERE WHAT IT READS IS OF BULK AT MOST 1048576: true; the input reads as it did. -/
def cosMayUptoRow : OpenClaim := { program := "ytdkmomdioiipjaa", sum := "749e807b95a82f5f6e6881f2f20e0b5d96c9ebc716f54b93a395d3fde30dbbaa", func := "pressmark/pressmarklaw10.CosMay", spec := "cosMay", inPlace := ["internal/bytealg.IndexByteString"], unfollowed := true, recurses := true, loops := true, apart := false, narrowed := true }
def CosMayUptoSaid : Prop := cosMayUptoRow.holds Try.pinned (OpenSpec.upto cosMaySpec)

/-- 'pressmarklaw10.CosEdits', WHERE WHAT IT READS IS OF BULK AT MOST 1048576: true; the input reads as it did. -/
def cosEditsUptoRow : OpenClaim := { program := "ytdkmomdioiipjaa", sum := "749e807b95a82f5f6e6881f2f20e0b5d96c9ebc716f54b93a395d3fde30dbbaa", func := "pressmark/pressmarklaw10.CosEdits", spec := "cosEdits", unfollowed := true, recurses := true, loops := true, apart := false, narrowed := true }
def CosEditsUptoSaid : Prop := cosEditsUptoRow.holds Try.pinned (OpenSpec.upto cosEditsSpec)

/-- 'pressmarklaw10.CosSame', WHERE WHAT IT READS IS OF BULK AT MOST 1048576: true; the input reads as it did. -/
def cosSameUptoRow : OpenClaim := { program := "ytdkmomdioiipjaa", sum := "749e807b95a82f5f6e6881f2f20e0b5d96c9ebc716f54b93a395d3fde30dbbaa", func := "pressmark/pressmarklaw10.CosSame", spec := "cosSame", unfollowed := true, recurses := true, loops := true, apart := false, narrowed := true }
def CosSameUptoSaid : Prop := cosSameUptoRow.holds Try.pinned (OpenSpec.upto cosSameSpec)

/-- 'pressmarklaw10.CosOrder', WHERE WHAT IT READS IS OF BULK AT MOST 1048576: true; the input reads as it did. -/
def cosOrderUptoRow : OpenClaim := { program := "ytdkmomdioiipjaa", sum := "749e807b95a82f5f6e6881f2f20e0b5d96c9ebc716f54b93a395d3fde30dbbaa", func := "pressmark/pressmarklaw10.CosOrder", spec := "cosOrder", unfollowed := true, recurses := true, loops := true, apart := false, narrowed := true }
def CosOrderUptoSaid : Prop := cosOrderUptoRow.holds Try.pinned (OpenSpec.upto cosOrderSpec)

end Rows
end Go.Proofs.Ytdkmomdioiipjaa
