/-
  No cell of these rows narrows 'for every input' (looked for: loops, veiled, ifaces, maps, wideKeys, modest, calm, conditions, laid).
  DERIVED. THE GIVEN ROWS OF THIS SEAT. 6 by the template 'for every input the law returns true; each argument reads behind the call as it read before'; 0 by the template 'total and deterministic' (their statements: YtendcmdpmohacaaTotals.lean).
  GIVEN WITH THE SEED: the statements are not yours to turn. If you find one false, say at which input.
  Laid BY PROGRAM, IN A SANDBOX (cutbox-rows.mjs): the forced cells as the released guide's own fill.sh prints them over the translation a6cc77f838929ab2… (all of the seat's roots in one cut). By AI agents, Wed Nov 11 2026. No macro, syntax, notation, axiom, sorry.
-/
import Derived.Test.YtendcmdpmohacaaChecked
import GoSem.Claim
import GoSem.ClaimJoined
import GoSem.ClaimMapViews
import Derived.JoinedTies
import Derived.KernelRfl
namespace Go.Proofs.Ytendcmdpmohacaa
/- THE CELL 'sum', in the pinned program and in every row, IS THE sha256 OF THE DUMP (.gsa) THAT YtendcmdpmohacaaProg.lean LOADS. Nothing in Lean hashes anything: it is a label: what it is worth is what the hold of that sum in a sandbox is worth. -/
noncomputable def Try.pinned : Pinned := { name := "ytendcmdpmohacaa", sum := "a6cc77f838929ab2076bda382f8a30a4848ebe8dfb031ebaf56987333e7c39e2", checked := Try.checked }
namespace Rows
def none {H : Type} : Left H := { results := [], args := [] }

/-- 'kinoralaw08.QuantSteps': WHATEVER THE INPUT: true; the input reads as it did. -/
def quantStepsSpec : ChangeSpec := { name := "quantSteps", fn := fun _ => fun
  | [d1, d2, d3] => { results := [.lit (.bool true)], args := [d1, d2, d3] }
  | _ => none }
def quantStepsRow : OpenClaim := { program := "ytendcmdpmohacaa", sum := "a6cc77f838929ab2076bda382f8a30a4848ebe8dfb031ebaf56987333e7c39e2", func := "kinora/kinoralaw08.QuantSteps", spec := "quantSteps", unfollowed := true, recurses := true, apart := false }
def QuantStepsSaid : Prop := quantStepsRow.holds Try.pinned (OpenSpec.ofChange quantStepsSpec)

/-- ITS FALSE NEIGHBOUR: 'it returns false'. Refute it at one input. -/
def quantStepsWrong : ChangeSpec := { name := "quantSteps", fn := fun _ => fun
  | [d1, d2, d3] => { results := [.lit (.bool false)], args := [d1, d2, d3] }
  | _ => none }
def QuantStepsWrongFalsely : Prop := quantStepsRow.holds Try.pinned (OpenSpec.ofChange quantStepsWrong)

/-- 'kinoralaw08.QuantBlocks': WHATEVER THE INPUT: true; the input reads as it did. -/
def quantBlocksSpec : ChangeSpec := { name := "quantBlocks", fn := fun _ => fun
  | [d1, d2] => { results := [.lit (.bool true)], args := [d1, d2] }
  | _ => none }
def quantBlocksRow : OpenClaim := { program := "ytendcmdpmohacaa", sum := "a6cc77f838929ab2076bda382f8a30a4848ebe8dfb031ebaf56987333e7c39e2", func := "kinora/kinoralaw08.QuantBlocks", spec := "quantBlocks", unfollowed := true, recurses := true, apart := false }
def QuantBlocksSaid : Prop := quantBlocksRow.holds Try.pinned (OpenSpec.ofChange quantBlocksSpec)

/-- ITS FALSE NEIGHBOUR: 'it returns false'. Refute it at one input. -/
def quantBlocksWrong : ChangeSpec := { name := "quantBlocks", fn := fun _ => fun
  | [d1, d2] => { results := [.lit (.bool false)], args := [d1, d2] }
  | _ => none }
def QuantBlocksWrongFalsely : Prop := quantBlocksRow.holds Try.pinned (OpenSpec.ofChange quantBlocksWrong)

/-- 'kinoralaw08.QuantWrites': WHATEVER THE INPUT: true; the input reads as it did. -/
def quantWritesSpec : ChangeSpec := { name := "quantWrites", fn := fun _ => fun
  | [d1, d2] => { results := [.lit (.bool true)], args := [d1, d2] }
  | _ => none }
def quantWritesRow : OpenClaim := { program := "ytendcmdpmohacaa", sum := "a6cc77f838929ab2076bda382f8a30a4848ebe8dfb031ebaf56987333e7c39e2", func := "kinora/kinoralaw08.QuantWrites", spec := "quantWrites", unfollowed := true, recurses := true, apart := false }
def QuantWritesSaid : Prop := quantWritesRow.holds Try.pinned (OpenSpec.ofChange quantWritesSpec)

/-- ITS FALSE NEIGHBOUR: 'it returns false'. Refute it at one input. -/
def quantWritesWrong : ChangeSpec := { name := "quantWrites", fn := fun _ => fun
  | [d1, d2] => { results := [.lit (.bool false)], args := [d1, d2] }
  | _ => none }
def QuantWritesWrongFalsely : Prop := quantWritesRow.holds Try.pinned (OpenSpec.ofChange quantWritesWrong)

/-- 'kinoralaw08.QuantReads': WHATEVER THE INPUT: true; the input reads as it did. -/
def quantReadsSpec : ChangeSpec := { name := "quantReads", fn := fun _ => fun
  | [d1, d2, d3] => { results := [.lit (.bool true)], args := [d1, d2, d3] }
  | _ => none }
def quantReadsRow : OpenClaim := { program := "ytendcmdpmohacaa", sum := "a6cc77f838929ab2076bda382f8a30a4848ebe8dfb031ebaf56987333e7c39e2", func := "kinora/kinoralaw08.QuantReads", spec := "quantReads", unfollowed := true, recurses := true, apart := false }
def QuantReadsSaid : Prop := quantReadsRow.holds Try.pinned (OpenSpec.ofChange quantReadsSpec)

/-- ITS FALSE NEIGHBOUR: 'it returns false'. Refute it at one input. -/
def quantReadsWrong : ChangeSpec := { name := "quantReads", fn := fun _ => fun
  | [d1, d2, d3] => { results := [.lit (.bool false)], args := [d1, d2, d3] }
  | _ => none }
def QuantReadsWrongFalsely : Prop := quantReadsRow.holds Try.pinned (OpenSpec.ofChange quantReadsWrong)

/-- 'kinoralaw08.QuantBack': WHATEVER THE INPUT: true; the input reads as it did. -/
def quantBackSpec : ChangeSpec := { name := "quantBack", fn := fun _ => fun
  | [d1, d2] => { results := [.lit (.bool true)], args := [d1, d2] }
  | _ => none }
def quantBackRow : OpenClaim := { program := "ytendcmdpmohacaa", sum := "a6cc77f838929ab2076bda382f8a30a4848ebe8dfb031ebaf56987333e7c39e2", func := "kinora/kinoralaw08.QuantBack", spec := "quantBack", unfollowed := true, recurses := true, apart := false }
def QuantBackSaid : Prop := quantBackRow.holds Try.pinned (OpenSpec.ofChange quantBackSpec)

/-- ITS FALSE NEIGHBOUR: 'it returns false'. Refute it at one input. -/
def quantBackWrong : ChangeSpec := { name := "quantBack", fn := fun _ => fun
  | [d1, d2] => { results := [.lit (.bool false)], args := [d1, d2] }
  | _ => none }
def QuantBackWrongFalsely : Prop := quantBackRow.holds Try.pinned (OpenSpec.ofChange quantBackWrong)

/-- 'kinoralaw08.QuantNil': WHATEVER THE INPUT: true; the input reads as it did. -/
def quantNilSpec : ChangeSpec := { name := "quantNil", fn := fun _ => fun
  | [d1, d2] => { results := [.lit (.bool true)], args := [d1, d2] }
  | _ => none }
def quantNilRow : OpenClaim := { program := "ytendcmdpmohacaa", sum := "a6cc77f838929ab2076bda382f8a30a4848ebe8dfb031ebaf56987333e7c39e2", func := "kinora/kinoralaw08.QuantNil", spec := "quantNil", unfollowed := true, recurses := true, apart := false }
def QuantNilSaid : Prop := quantNilRow.holds Try.pinned (OpenSpec.ofChange quantNilSpec)

/-- ITS FALSE NEIGHBOUR: 'it returns false'. Refute it at one input. -/
def quantNilWrong : ChangeSpec := { name := "quantNil", fn := fun _ => fun
  | [d1, d2] => { results := [.lit (.bool false)], args := [d1, d2] }
  | _ => none }
def QuantNilWrongFalsely : Prop := quantNilRow.holds Try.pinned (OpenSpec.ofChange quantNilWrong)

/- THE SECOND FORM. 'bulk': how many values and letters a reading holds, each counted each time it is reached (what is shared counts as often as it is met; a slice's spare places count too). A statement '..UptoSaid' is the law's where the arguments, and the package variables that the reading takes, are together of bulk at most 1048576: NARROWER than '..Said'. Prove '..Said' where nothing that the law and all that it calls make is longer than what came in: it says more and counts as full. Else prove '..UptoSaid'. A law counts once. -/
mutual
def uptoBulk {H : Type} : DataW H → Nat
  | .lit (.string bytes) => bytes.length + 1
  | .lit _ => 1
  | .nil => 1
  | .ptr d => uptoBulk d + 1
  | .slice elems spare => uptoBulkAll elems + uptoBulkAll spare + 1
  | .agg parts => uptoBulkAll parts + 1
  | .iface _ d => uptoBulk d + 1
  | .map entries => uptoBulkEntries entries + 1
  | .held _ => 1
def uptoBulkAll {H : Type} : List (DataW H) → Nat
  | [] => 0
  | d :: r => uptoBulk d + uptoBulkAll r
def uptoBulkEntries {H : Type} : List (Lit × DataW H) → Nat
  | [] => 0
  | x :: r => uptoBulkEntry x + uptoBulkEntries r
def uptoBulkEntry {H : Type} : Lit × DataW H → Nat
  | (.string bytes, d) => bytes.length + uptoBulk d + 1
  | (_, d) => uptoBulk d + 1
 end
def uptoSmall : (H : Type) → List (DataW H) → Bool := fun _ ds => decide (uptoBulkAll ds ≤ 1048576)
def OpenSpec.upto (s : _root_.Go.ChangeSpec) : _root_.Go.OpenSpec := { _root_.Go.OpenSpec.ofChange s with cond := some uptoSmall }

/-- 'kinoralaw08.QuantSteps', WHERE WHAT IT READS IS OF BULK AT MOST 1048576: true; the input reads as it did. -/
def quantStepsUptoRow : OpenClaim := { program := "ytendcmdpmohacaa", sum := "a6cc77f838929ab2076bda382f8a30a4848ebe8dfb031ebaf56987333e7c39e2", func := "kinora/kinoralaw08.QuantSteps", spec := "quantSteps", unfollowed := true, recurses := true, apart := false, narrowed := true }
def QuantStepsUptoSaid : Prop := quantStepsUptoRow.holds Try.pinned (OpenSpec.upto quantStepsSpec)

/-- 'kinoralaw08.QuantBlocks', WHERE WHAT IT READS IS OF BULK AT MOST 1048576: true; the input reads as it did. -/
def quantBlocksUptoRow : OpenClaim := { program := "ytendcmdpmohacaa", sum := "a6cc77f838929ab2076bda382f8a30a4848ebe8dfb031ebaf56987333e7c39e2", func := "kinora/kinoralaw08.QuantBlocks", spec := "quantBlocks", unfollowed := true, recurses := true, apart := false, narrowed := true }
def QuantBlocksUptoSaid : Prop := quantBlocksUptoRow.holds Try.pinned (OpenSpec.upto quantBlocksSpec)

/-- 'kinoralaw08.QuantWrites', WHERE WHAT IT READS IS OF BULK AT MOST 1048576: true; the input reads as it did. -/
def quantWritesUptoRow : OpenClaim := { program := "ytendcmdpmohacaa", sum := "a6cc77f838929ab2076bda382f8a30a4848ebe8dfb031ebaf56987333e7c39e2", func := "kinora/kinoralaw08.QuantWrites", spec := "quantWrites", unfollowed := true, recurses := true, apart := false, narrowed := true }
def QuantWritesUptoSaid : Prop := quantWritesUptoRow.holds Try.pinned (OpenSpec.upto quantWritesSpec)

/-- 'kinoralaw08.QuantReads', WHERE WHAT IT READS IS OF BULK AT MOST 1048576: true; the input reads as it did. -/
def quantReadsUptoRow : OpenClaim := { program := "ytendcmdpmohacaa", sum := "a6cc77f838929ab2076bda382f8a30a4848ebe8dfb031ebaf56987333e7c39e2", func := "kinora/kinoralaw08.QuantReads", spec := "quantReads", unfollowed := true, recurses := true, apart := false, narrowed := true }
def QuantReadsUptoSaid : Prop := quantReadsUptoRow.holds Try.pinned (OpenSpec.upto quantReadsSpec)

/-- 'kinoralaw08.QuantBack', WHERE WHAT IT READS IS OF BULK AT MOST 1048576: true; the input reads as it did. -/
def quantBackUptoRow : OpenClaim := { program := "ytendcmdpmohacaa", sum := "a6cc77f838929ab2076bda382f8a30a4848ebe8dfb031ebaf56987333e7c39e2", func := "kinora/kinoralaw08.QuantBack", spec := "quantBack", unfollowed := true, recurses := true, apart := false, narrowed := true }
def QuantBackUptoSaid : Prop := quantBackUptoRow.holds Try.pinned (OpenSpec.upto quantBackSpec)

/-- 'kinoralaw08.QuantNil', WHERE WHAT IT READS IS OF BULK AT MOST 1048576: true; the input reads as it did. -/
def quantNilUptoRow : OpenClaim := { program := "ytendcmdpmohacaa", sum := "a6cc77f838929ab2076bda382f8a30a4848ebe8dfb031ebaf56987333e7c39e2", func := "kinora/kinoralaw08.QuantNil", spec := "quantNil", unfollowed := true, recurses := true, apart := false, narrowed := true }
def QuantNilUptoSaid : Prop := quantNilUptoRow.holds Try.pinned (OpenSpec.upto quantNilSpec)

end Rows
end Go.Proofs.Ytendcmdpmohacaa
