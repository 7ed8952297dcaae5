/-
  No cell of these rows narrows 'for every input' (looked for: loops, veiled, ifaces, maps, wideKeys, modest, calm, conditions, laid).
  DERIVED. THE GIVEN ROWS OF THIS SEAT. 7 by the template 'for every input the law returns true; each argument reads behind the call as it read before'; 0 by the template 'total and deterministic' (their statements: YtlcjlgdcleenlaaTotals.lean).
  GIVEN WITH THE SEED: the statements are not yours to turn. If you find one false, say at which input.
  Laid BY PROGRAM, IN A SANDBOX (cutbox-rows.mjs): the forced cells as the released guide's own fill.sh prints them over the translation 3377e4855b7d10a2… (all of the seat's roots in one cut). By AI agents, Wed Nov 11 2026. No macro, syntax, notation, axiom, sorry.
-/
import Derived.Test.YtlcjlgdcleenlaaChecked
import GoSem.Claim
import GoSem.ClaimJoined
import GoSem.ClaimMapViews
import Derived.JoinedTies
import Derived.KernelRfl
namespace Go.Proofs.Ytlcjlgdcleenlaa
/- THE CELL 'sum', in the pinned program and in every row, IS THE sha256 OF THE DUMP (.gsa) THAT YtlcjlgdcleenlaaProg.lean LOADS. Nothing in Lean hashes anything: it is a label: what it is worth is what the hold of that sum in a sandbox is worth. -/
noncomputable def Try.pinned : Pinned := { name := "ytlcjlgdcleenlaa", sum := "3377e4855b7d10a2fe26125533712edd3f2131348ef98511e2268c884fe7b4d3", checked := Try.checked }
namespace Rows
def none {H : Type} : Left H := { results := [], args := [] }

/-- 'kinoralaw06.PlaneMakes': WHATEVER THE INPUT: true; the input reads as it did. -/
def planeMakesSpec : ChangeSpec := { name := "planeMakes", fn := fun _ => fun
  | [d1, d2, d3] => { results := [.lit (.bool true)], args := [d1, d2, d3] }
  | _ => none }
def planeMakesRow : OpenClaim := { program := "ytlcjlgdcleenlaa", sum := "3377e4855b7d10a2fe26125533712edd3f2131348ef98511e2268c884fe7b4d3", func := "kinora/kinoralaw06.PlaneMakes", spec := "planeMakes", apart := false }
def PlaneMakesSaid : Prop := planeMakesRow.holds Try.pinned (OpenSpec.ofChange planeMakesSpec)

/-- ITS FALSE NEIGHBOUR: 'it returns false'. Refute it at one input. -/
def planeMakesWrong : ChangeSpec := { name := "planeMakes", fn := fun _ => fun
  | [d1, d2, d3] => { results := [.lit (.bool false)], args := [d1, d2, d3] }
  | _ => none }
def PlaneMakesWrongFalsely : Prop := planeMakesRow.holds Try.pinned (OpenSpec.ofChange planeMakesWrong)

/-- 'kinoralaw06.PlaneLays': WHATEVER THE INPUT: true; the input reads as it did. -/
def planeLaysSpec : ChangeSpec := { name := "planeLays", fn := fun _ => fun
  | [d1, d2, d3] => { results := [.lit (.bool true)], args := [d1, d2, d3] }
  | _ => none }
def planeLaysRow : OpenClaim := { program := "ytlcjlgdcleenlaa", sum := "3377e4855b7d10a2fe26125533712edd3f2131348ef98511e2268c884fe7b4d3", func := "kinora/kinoralaw06.PlaneLays", spec := "planeLays", apart := false }
def PlaneLaysSaid : Prop := planeLaysRow.holds Try.pinned (OpenSpec.ofChange planeLaysSpec)

/-- ITS FALSE NEIGHBOUR: 'it returns false'. Refute it at one input. -/
def planeLaysWrong : ChangeSpec := { name := "planeLays", fn := fun _ => fun
  | [d1, d2, d3] => { results := [.lit (.bool false)], args := [d1, d2, d3] }
  | _ => none }
def PlaneLaysWrongFalsely : Prop := planeLaysRow.holds Try.pinned (OpenSpec.ofChange planeLaysWrong)

/-- 'kinoralaw06.PlaneHalves': WHATEVER THE INPUT: true; the input reads as it did. -/
def planeHalvesSpec : ChangeSpec := { name := "planeHalves", fn := fun _ => fun
  | [d1, d2, d3] => { results := [.lit (.bool true)], args := [d1, d2, d3] }
  | _ => none }
def planeHalvesRow : OpenClaim := { program := "ytlcjlgdcleenlaa", sum := "3377e4855b7d10a2fe26125533712edd3f2131348ef98511e2268c884fe7b4d3", func := "kinora/kinoralaw06.PlaneHalves", spec := "planeHalves", apart := false }
def PlaneHalvesSaid : Prop := planeHalvesRow.holds Try.pinned (OpenSpec.ofChange planeHalvesSpec)

/-- ITS FALSE NEIGHBOUR: 'it returns false'. Refute it at one input. -/
def planeHalvesWrong : ChangeSpec := { name := "planeHalves", fn := fun _ => fun
  | [d1, d2, d3] => { results := [.lit (.bool false)], args := [d1, d2, d3] }
  | _ => none }
def PlaneHalvesWrongFalsely : Prop := planeHalvesRow.holds Try.pinned (OpenSpec.ofChange planeHalvesWrong)

/-- 'kinoralaw06.PlaneThere': WHATEVER THE INPUT: true; the input reads as it did. -/
def planeThereSpec : ChangeSpec := { name := "planeThere", fn := fun _ => fun
  | [d1, d2, d3] => { results := [.lit (.bool true)], args := [d1, d2, d3] }
  | _ => none }
def planeThereRow : OpenClaim := { program := "ytlcjlgdcleenlaa", sum := "3377e4855b7d10a2fe26125533712edd3f2131348ef98511e2268c884fe7b4d3", func := "kinora/kinoralaw06.PlaneThere", spec := "planeThere", apart := false }
def PlaneThereSaid : Prop := planeThereRow.holds Try.pinned (OpenSpec.ofChange planeThereSpec)

/-- ITS FALSE NEIGHBOUR: 'it returns false'. Refute it at one input. -/
def planeThereWrong : ChangeSpec := { name := "planeThere", fn := fun _ => fun
  | [d1, d2, d3] => { results := [.lit (.bool false)], args := [d1, d2, d3] }
  | _ => none }
def PlaneThereWrongFalsely : Prop := planeThereRow.holds Try.pinned (OpenSpec.ofChange planeThereWrong)

/-- 'kinoralaw06.PlaneApart': WHATEVER THE INPUT: true; the input reads as it did. -/
def planeApartSpec : ChangeSpec := { name := "planeApart", fn := fun _ => fun
  | [d1, d2, d3] => { results := [.lit (.bool true)], args := [d1, d2, d3] }
  | _ => none }
def planeApartRow : OpenClaim := { program := "ytlcjlgdcleenlaa", sum := "3377e4855b7d10a2fe26125533712edd3f2131348ef98511e2268c884fe7b4d3", func := "kinora/kinoralaw06.PlaneApart", spec := "planeApart", apart := false }
def PlaneApartSaid : Prop := planeApartRow.holds Try.pinned (OpenSpec.ofChange planeApartSpec)

/-- ITS FALSE NEIGHBOUR: 'it returns false'. Refute it at one input. -/
def planeApartWrong : ChangeSpec := { name := "planeApart", fn := fun _ => fun
  | [d1, d2, d3] => { results := [.lit (.bool false)], args := [d1, d2, d3] }
  | _ => none }
def PlaneApartWrongFalsely : Prop := planeApartRow.holds Try.pinned (OpenSpec.ofChange planeApartWrong)

/-- 'kinoralaw06.PlaneCopies': WHATEVER THE INPUT: true; the input reads as it did. -/
def planeCopiesSpec : ChangeSpec := { name := "planeCopies", fn := fun _ => fun
  | [d1, d2] => { results := [.lit (.bool true)], args := [d1, d2] }
  | _ => none }
def planeCopiesRow : OpenClaim := { program := "ytlcjlgdcleenlaa", sum := "3377e4855b7d10a2fe26125533712edd3f2131348ef98511e2268c884fe7b4d3", func := "kinora/kinoralaw06.PlaneCopies", spec := "planeCopies", apart := false }
def PlaneCopiesSaid : Prop := planeCopiesRow.holds Try.pinned (OpenSpec.ofChange planeCopiesSpec)

/-- ITS FALSE NEIGHBOUR: 'it returns false'. Refute it at one input. -/
def planeCopiesWrong : ChangeSpec := { name := "planeCopies", fn := fun _ => fun
  | [d1, d2] => { results := [.lit (.bool false)], args := [d1, d2] }
  | _ => none }
def PlaneCopiesWrongFalsely : Prop := planeCopiesRow.holds Try.pinned (OpenSpec.ofChange planeCopiesWrong)

/-- 'kinoralaw06.PlaneEdges': WHATEVER THE INPUT: true; the input reads as it did. -/
def planeEdgesSpec : ChangeSpec := { name := "planeEdges", fn := fun _ => fun
  | [d1, d2, d3] => { results := [.lit (.bool true)], args := [d1, d2, d3] }
  | _ => none }
def planeEdgesRow : OpenClaim := { program := "ytlcjlgdcleenlaa", sum := "3377e4855b7d10a2fe26125533712edd3f2131348ef98511e2268c884fe7b4d3", func := "kinora/kinoralaw06.PlaneEdges", spec := "planeEdges", apart := false }
def PlaneEdgesSaid : Prop := planeEdgesRow.holds Try.pinned (OpenSpec.ofChange planeEdgesSpec)

/-- ITS FALSE NEIGHBOUR: 'it returns false'. Refute it at one input. -/
def planeEdgesWrong : ChangeSpec := { name := "planeEdges", fn := fun _ => fun
  | [d1, d2, d3] => { results := [.lit (.bool false)], args := [d1, d2, d3] }
  | _ => none }
def PlaneEdgesWrongFalsely : Prop := planeEdgesRow.holds Try.pinned (OpenSpec.ofChange planeEdgesWrong)

/- THE SECOND FORM. 'bulk': how many values and letters a reading holds, each counted each time it is reached (what is shared counts as often as it is met; a slice's spare places count too). A statement '..UptoSaid' is the law's where the arguments, and the package variables that the reading takes, are together of bulk at most 1048576: NARROWER than '..Said'. Prove '..Said' where nothing that the law and all that it calls make is longer than what came in: it says more and counts as full. Else prove '..UptoSaid'. A law counts once. -/
mutual
def uptoBulk {H : Type} : DataW H → Nat
  | .lit (.string bytes) => bytes.length + 1
  | .lit _ => 1
  | .nil => 1
  | .ptr d => uptoBulk d + 1
  | .slice elems spare => uptoBulkAll elems + uptoBulkAll spare + 1
  | .agg parts => uptoBulkAll parts + 1
  | .iface _ d => uptoBulk d + 1
  | .map entries => uptoBulkEntries entries + 1
  | .held _ => 1
def uptoBulkAll {H : Type} : List (DataW H) → Nat
  | [] => 0
  | d :: r => uptoBulk d + uptoBulkAll r
def uptoBulkEntries {H : Type} : List (Lit × DataW H) → Nat
  | [] => 0
  | x :: r => uptoBulkEntry x + uptoBulkEntries r
def uptoBulkEntry {H : Type} : Lit × DataW H → Nat
  | (.string bytes, d) => bytes.length + uptoBulk d + 1
  | (_, d) => uptoBulk d + 1
 end
def uptoSmall : (H : Type) → List (DataW H) → Bool := fun _ ds => decide (uptoBulkAll ds ≤ 1048576)
def OpenSpec.upto (s : _root_.Go.ChangeSpec) : _root_.Go.OpenSpec := { _root_.Go.OpenSpec.ofChange s with cond := some uptoSmall }

/-- 'kinoralaw06.PlaneMakes', WHERE WHAT IT READS IS OF BULK AT MOST 1048576: true; the input reads as it did. -/
def planeMakesUptoRow : OpenClaim := { program := "ytlcjlgdcleenlaa", sum := "3377e4855b7d10a2fe26125533712edd3f2131348ef98511e2268c884fe7b4d3", func := "kinora/kinoralaw06.PlaneMakes", spec := "planeMakes", apart := false, narrowed := true }
def PlaneMakesUptoSaid : Prop := planeMakesUptoRow.holds Try.pinned (OpenSpec.upto planeMakesSpec)

/-- 'kinoralaw06.PlaneLays', WHERE WHAT IT READS IS OF BULK AT MOST 1048576: true; the input reads as it did. -/
def planeLaysUptoRow : OpenClaim := { program := "ytlcjlgdcleenlaa", sum := "3377e4855b7d10a2fe26125533712edd3f2131348ef98511e2268c884fe7b4d3", func := "kinora/kinoralaw06.PlaneLays", spec := "planeLays", apart := false, narrowed := true }
def PlaneLaysUptoSaid : Prop := planeLaysUptoRow.holds Try.pinned (OpenSpec.upto planeLaysSpec)

/-- 'kinoralaw06.PlaneHalves', WHERE WHAT IT READS IS OF BULK AT MOST 1048576: true; the input reads as it did. -/
def planeHalvesUptoRow : OpenClaim := { program := "ytlcjlgdcleenlaa", sum := "3377e4855b7d10a2fe26125533712edd3f2131348ef98511e2268c884fe7b4d3", func := "kinora/kinoralaw06.PlaneHalves", spec := "planeHalves", apart := false, narrowed := true }
def PlaneHalvesUptoSaid : Prop := planeHalvesUptoRow.holds Try.pinned (OpenSpec.upto planeHalvesSpec)

/-- 'kinoralaw06.PlaneThere', WHERE WHAT IT READS IS OF BULK AT MOST 1048576: true; the input reads as it did. -/
def planeThereUptoRow : OpenClaim := { program := "ytlcjlgdcleenlaa", sum := "3377e4855b7d10a2fe26125533712edd3f2131348ef98511e2268c884fe7b4d3", func := "kinora/kinoralaw06.PlaneThere", spec := "planeThere", apart := false, narrowed := true }
def PlaneThereUptoSaid : Prop := planeThereUptoRow.holds Try.pinned (OpenSpec.upto planeThereSpec)

/-- 'kinoralaw06.PlaneApart', WHERE WHAT IT READS IS OF BULK AT MOST 1048576: true; the input reads as it did. -/
def planeApartUptoRow : OpenClaim := { program := "ytlcjlgdcleenlaa", sum := "3377e4855b7d10a2fe26125533712edd3f2131348ef98511e2268c884fe7b4d3", func := "kinora/kinoralaw06.PlaneApart", spec := "planeApart", apart := false, narrowed := true }
def PlaneApartUptoSaid : Prop := planeApartUptoRow.holds Try.pinned (OpenSpec.upto planeApartSpec)

/-- 'kinoralaw06.PlaneCopies', WHERE WHAT IT READS IS OF BULK AT MOST 1048576: true; the input reads as it did. -/
def planeCopiesUptoRow : OpenClaim := { program := "ytlcjlgdcleenlaa", sum := "3377e4855b7d10a2fe26125533712edd3f2131348ef98511e2268c884fe7b4d3", func := "kinora/kinoralaw06.PlaneCopies", spec := "planeCopies", apart := false, narrowed := true }
def PlaneCopiesUptoSaid : Prop := planeCopiesUptoRow.holds Try.pinned (OpenSpec.upto planeCopiesSpec)

/-- 'kinoralaw06.PlaneEdges', WHERE WHAT IT READS IS OF BULK AT MOST 1048576: true; the input reads as it did. -/
def planeEdgesUptoRow : OpenClaim := { program := "ytlcjlgdcleenlaa", sum := "3377e4855b7d10a2fe26125533712edd3f2131348ef98511e2268c884fe7b4d3", func := "kinora/kinoralaw06.PlaneEdges", spec := "planeEdges", apart := false, narrowed := true }
def PlaneEdgesUptoSaid : Prop := planeEdgesUptoRow.holds Try.pinned (OpenSpec.upto planeEdgesSpec)

end Rows
end Go.Proofs.Ytlcjlgdcleenlaa
