/-
  No cell of these rows narrows 'for every input' (looked for: loops, veiled, ifaces, maps, wideKeys, modest, calm, conditions, laid).
  DERIVED. THE GIVEN ROWS OF THIS SEAT. 6 by the template 'for every input the law returns true; each argument reads behind the call as it read before'; 0 by the template 'total and deterministic' (their statements: YtpdmjgcheigooaaTotals.lean).
  GIVEN WITH THE SEED: the statements are not yours to turn. If you find one false, say at which input.
  Laid BY PROGRAM, IN A SANDBOX (cutbox-rows.mjs): the forced cells as the released guide's own fill.sh prints them over the translation 438b900ec9b40563… (all of the seat's roots in one cut). By AI agents, Wed Nov 11 2026. No macro, syntax, notation, axiom, sorry.
-/
import Derived.Test.YtpdmjgcheigooaaChecked
import GoSem.Claim
import GoSem.ClaimJoined
import GoSem.ClaimMapViews
import Derived.JoinedTies
import Derived.KernelRfl
namespace Go.Proofs.Ytpdmjgcheigooaa
/- THE CELL 'sum', in the pinned program and in every row, IS THE sha256 OF THE DUMP (.gsa) THAT YtpdmjgcheigooaaProg.lean LOADS. Nothing in Lean hashes anything: it is a label: what it is worth is what the hold of that sum in a sandbox is worth. -/
noncomputable def Try.pinned : Pinned := { name := "ytpdmjgcheigooaa", sum := "438b900ec9b40563fdb8ff8959ac8da8bfb2426694d96c5ea4bdfee77a9f7539", checked := Try.checked }
namespace Rows
def none {H : Type} : Left H := { results := [], args := [] }

/-- 'kinoralaw02.GolombTells': WHATEVER THE INPUT: true; the input reads as it did. -/
def golombTellsSpec : ChangeSpec := { name := "golombTells", fn := fun _ => fun
  | [d1, d2] => { results := [.lit (.bool true)], args := [d1, d2] }
  | _ => none }
def golombTellsRow : OpenClaim := { program := "ytpdmjgcheigooaa", sum := "438b900ec9b40563fdb8ff8959ac8da8bfb2426694d96c5ea4bdfee77a9f7539", func := "kinora/kinoralaw02.GolombTells", spec := "golombTells", apart := false }
def GolombTellsSaid : Prop := golombTellsRow.holds Try.pinned (OpenSpec.ofChange golombTellsSpec)

/-- ITS FALSE NEIGHBOUR: 'it returns false'. Refute it at one input. -/
def golombTellsWrong : ChangeSpec := { name := "golombTells", fn := fun _ => fun
  | [d1, d2] => { results := [.lit (.bool false)], args := [d1, d2] }
  | _ => none }
def GolombTellsWrongFalsely : Prop := golombTellsRow.holds Try.pinned (OpenSpec.ofChange golombTellsWrong)

/-- 'kinoralaw02.GolombWrites': WHATEVER THE INPUT: true; the input reads as it did. -/
def golombWritesSpec : ChangeSpec := { name := "golombWrites", fn := fun _ => fun
  | [d1, d2] => { results := [.lit (.bool true)], args := [d1, d2] }
  | _ => none }
def golombWritesRow : OpenClaim := { program := "ytpdmjgcheigooaa", sum := "438b900ec9b40563fdb8ff8959ac8da8bfb2426694d96c5ea4bdfee77a9f7539", func := "kinora/kinoralaw02.GolombWrites", spec := "golombWrites", apart := false }
def GolombWritesSaid : Prop := golombWritesRow.holds Try.pinned (OpenSpec.ofChange golombWritesSpec)

/-- ITS FALSE NEIGHBOUR: 'it returns false'. Refute it at one input. -/
def golombWritesWrong : ChangeSpec := { name := "golombWrites", fn := fun _ => fun
  | [d1, d2] => { results := [.lit (.bool false)], args := [d1, d2] }
  | _ => none }
def GolombWritesWrongFalsely : Prop := golombWritesRow.holds Try.pinned (OpenSpec.ofChange golombWritesWrong)

/-- 'kinoralaw02.GolombReads': WHATEVER THE INPUT: true; the input reads as it did. -/
def golombReadsSpec : ChangeSpec := { name := "golombReads", fn := fun _ => fun
  | [d1, d2] => { results := [.lit (.bool true)], args := [d1, d2] }
  | _ => none }
def golombReadsRow : OpenClaim := { program := "ytpdmjgcheigooaa", sum := "438b900ec9b40563fdb8ff8959ac8da8bfb2426694d96c5ea4bdfee77a9f7539", func := "kinora/kinoralaw02.GolombReads", spec := "golombReads", apart := false }
def GolombReadsSaid : Prop := golombReadsRow.holds Try.pinned (OpenSpec.ofChange golombReadsSpec)

/-- ITS FALSE NEIGHBOUR: 'it returns false'. Refute it at one input. -/
def golombReadsWrong : ChangeSpec := { name := "golombReads", fn := fun _ => fun
  | [d1, d2] => { results := [.lit (.bool false)], args := [d1, d2] }
  | _ => none }
def GolombReadsWrongFalsely : Prop := golombReadsRow.holds Try.pinned (OpenSpec.ofChange golombReadsWrong)

/-- 'kinoralaw02.GolombBack': WHATEVER THE INPUT: true; the input reads as it did. -/
def golombBackSpec : ChangeSpec := { name := "golombBack", fn := fun _ => fun
  | [d1, d2] => { results := [.lit (.bool true)], args := [d1, d2] }
  | _ => none }
def golombBackRow : OpenClaim := { program := "ytpdmjgcheigooaa", sum := "438b900ec9b40563fdb8ff8959ac8da8bfb2426694d96c5ea4bdfee77a9f7539", func := "kinora/kinoralaw02.GolombBack", spec := "golombBack", apart := false }
def GolombBackSaid : Prop := golombBackRow.holds Try.pinned (OpenSpec.ofChange golombBackSpec)

/-- ITS FALSE NEIGHBOUR: 'it returns false'. Refute it at one input. -/
def golombBackWrong : ChangeSpec := { name := "golombBack", fn := fun _ => fun
  | [d1, d2] => { results := [.lit (.bool false)], args := [d1, d2] }
  | _ => none }
def GolombBackWrongFalsely : Prop := golombBackRow.holds Try.pinned (OpenSpec.ofChange golombBackWrong)

/-- 'kinoralaw02.GolombPrefix': WHATEVER THE INPUT: true; the input reads as it did. -/
def golombPrefixSpec : ChangeSpec := { name := "golombPrefix", fn := fun _ => fun
  | [d1, d2] => { results := [.lit (.bool true)], args := [d1, d2] }
  | _ => none }
def golombPrefixRow : OpenClaim := { program := "ytpdmjgcheigooaa", sum := "438b900ec9b40563fdb8ff8959ac8da8bfb2426694d96c5ea4bdfee77a9f7539", func := "kinora/kinoralaw02.GolombPrefix", spec := "golombPrefix", apart := false }
def GolombPrefixSaid : Prop := golombPrefixRow.holds Try.pinned (OpenSpec.ofChange golombPrefixSpec)

/-- ITS FALSE NEIGHBOUR: 'it returns false'. Refute it at one input. -/
def golombPrefixWrong : ChangeSpec := { name := "golombPrefix", fn := fun _ => fun
  | [d1, d2] => { results := [.lit (.bool false)], args := [d1, d2] }
  | _ => none }
def GolombPrefixWrongFalsely : Prop := golombPrefixRow.holds Try.pinned (OpenSpec.ofChange golombPrefixWrong)

/-- 'kinoralaw02.GolombNil': WHATEVER THE INPUT: true; the input reads as it did. -/
def golombNilSpec : ChangeSpec := { name := "golombNil", fn := fun _ => fun
  | [d1, d2] => { results := [.lit (.bool true)], args := [d1, d2] }
  | _ => none }
def golombNilRow : OpenClaim := { program := "ytpdmjgcheigooaa", sum := "438b900ec9b40563fdb8ff8959ac8da8bfb2426694d96c5ea4bdfee77a9f7539", func := "kinora/kinoralaw02.GolombNil", spec := "golombNil", apart := false }
def GolombNilSaid : Prop := golombNilRow.holds Try.pinned (OpenSpec.ofChange golombNilSpec)

/-- ITS FALSE NEIGHBOUR: 'it returns false'. Refute it at one input. -/
def golombNilWrong : ChangeSpec := { name := "golombNil", fn := fun _ => fun
  | [d1, d2] => { results := [.lit (.bool false)], args := [d1, d2] }
  | _ => none }
def GolombNilWrongFalsely : Prop := golombNilRow.holds Try.pinned (OpenSpec.ofChange golombNilWrong)

/- THE SECOND FORM. 'bulk': how many values and letters a reading holds, each counted each time it is reached (what is shared counts as often as it is met; a slice's spare places count too). A statement '..UptoSaid' is the law's where the arguments, and the package variables that the reading takes, are together of bulk at most 1048576: NARROWER than '..Said'. Prove '..Said' where nothing that the law and all that it calls make is longer than what came in: it says more and counts as full. Else prove '..UptoSaid'. A law counts once. -/
mutual
def uptoBulk {H : Type} : DataW H → Nat
  | .lit (.string bytes) => bytes.length + 1
  | .lit _ => 1
  | .nil => 1
  | .ptr d => uptoBulk d + 1
  | .slice elems spare => uptoBulkAll elems + uptoBulkAll spare + 1
  | .agg parts => uptoBulkAll parts + 1
  | .iface _ d => uptoBulk d + 1
  | .map entries => uptoBulkEntries entries + 1
  | .held _ => 1
def uptoBulkAll {H : Type} : List (DataW H) → Nat
  | [] => 0
  | d :: r => uptoBulk d + uptoBulkAll r
def uptoBulkEntries {H : Type} : List (Lit × DataW H) → Nat
  | [] => 0
  | x :: r => uptoBulkEntry x + uptoBulkEntries r
def uptoBulkEntry {H : Type} : Lit × DataW H → Nat
  | (.string bytes, d) => bytes.length + uptoBulk d + 1
  | (_, d) => uptoBulk d + 1
 end
def uptoSmall : (H : Type) → List (DataW H) → Bool := fun _ ds => decide (uptoBulkAll ds ≤ 1048576)
def OpenSpec.upto (s : _root_.Go.ChangeSpec) : _root_.Go.OpenSpec := { _root_.Go.OpenSpec.ofChange s with cond := some uptoSmall }

/-- 'kinoralaw02.GolombTells', WHERE WHAT IT READS IS OF BULK AT MOST 1048576: true; the input reads as it did. -/
def golombTellsUptoRow : OpenClaim := { program := "ytpdmjgcheigooaa", sum := "438b900ec9b40563fdb8ff8959ac8da8bfb2426694d96c5ea4bdfee77a9f7539", func := "kinora/kinoralaw02.GolombTells", spec := "golombTells", apart := false, narrowed := true }
def GolombTellsUptoSaid : Prop := golombTellsUptoRow.holds Try.pinned (OpenSpec.upto golombTellsSpec)

/-- 'kinoralaw02.GolombWrites', WHERE WHAT IT READS IS OF BULK AT MOST 1048576: true; the input reads as it did. -/
def golombWritesUptoRow : OpenClaim := { program := "ytpdmjgcheigooaa", sum := "438b900ec9b40563fdb8ff8959ac8da8bfb2426694d96c5ea4bdfee77a9f7539", func := "kinora/kinoralaw02.GolombWrites", spec := "golombWrites", apart := false, narrowed := true }
def GolombWritesUptoSaid : Prop := golombWritesUptoRow.holds Try.pinned (OpenSpec.upto golombWritesSpec)

/-- 'kinoralaw02.GolombReads', WHERE WHAT IT READS IS OF BULK AT MOST 1048576: true; the input reads as it did. -/
def golombReadsUptoRow : OpenClaim := { program := "ytpdmjgcheigooaa", sum := "438b900ec9b40563fdb8ff8959ac8da8bfb2426694d96c5ea4bdfee77a9f7539", func := "kinora/kinoralaw02.GolombReads", spec := "golombReads", apart := false, narrowed := true }
def GolombReadsUptoSaid : Prop := golombReadsUptoRow.holds Try.pinned (OpenSpec.upto golombReadsSpec)

/-- 'kinoralaw02.GolombBack', WHERE WHAT IT READS IS OF BULK AT MOST 1048576: true; the input reads as it did. -/
def golombBackUptoRow : OpenClaim := { program := "ytpdmjgcheigooaa", sum := "438b900ec9b40563fdb8ff8959ac8da8bfb2426694d96c5ea4bdfee77a9f7539", func := "kinora/kinoralaw02.GolombBack", spec := "golombBack", apart := false, narrowed := true }
def GolombBackUptoSaid : Prop := golombBackUptoRow.holds Try.pinned (OpenSpec.upto golombBackSpec)

/-- 'kinoralaw02.GolombPrefix', WHERE WHAT IT READS IS OF BULK AT MOST 1048576: true; the input reads as it did. -/
def golombPrefixUptoRow : OpenClaim := { program := "ytpdmjgcheigooaa", sum := "438b900ec9b40563fdb8ff8959ac8da8bfb2426694d96c5ea4bdfee77a9f7539", func := "kinora/kinoralaw02.GolombPrefix", spec := "golombPrefix", apart := false, narrowed := true }
def GolombPrefixUptoSaid : Prop := golombPrefixUptoRow.holds Try.pinned (OpenSpec.upto golombPrefixSpec)

/-- 'kinoralaw02.GolombNil', WHERE WHAT IT READS IS OF BULK AT MOST 1048576: true; the input reads as it did. -/
def golombNilUptoRow : OpenClaim := { program := "ytpdmjgcheigooaa", sum := "438b900ec9b40563fdb8ff8959ac8da8bfb2426694d96c5ea4bdfee77a9f7539", func := "kinora/kinoralaw02.GolombNil", spec := "golombNil", apart := false, narrowed := true }
def GolombNilUptoSaid : Prop := golombNilUptoRow.holds Try.pinned (OpenSpec.upto golombNilSpec)

end Rows
end Go.Proofs.Ytpdmjgcheigooaa
