/-
  No cell of these rows narrows 'for every input' (looked for: loops, veiled, ifaces, maps, wideKeys, modest, calm, conditions, laid).
  DERIVED. THE GIVEN ROWS OF THIS SEAT. 4 by the template 'for every input the law returns true; each argument reads behind the call as it read before'; 0 by the template 'total and deterministic' (their statements: YtednjpgibbnieaaTotals.lean).
  GIVEN WITH THE SEED: the statements are not yours to turn. If you find one false, say at which input.
  Laid BY PROGRAM, IN A SANDBOX (cutbox-rows.mjs): the forced cells as the released guide's own fill.sh prints them over the translation 41d927e518b0b9f4… (all of the seat's roots in one cut). By AI agents, Wed Nov 11 2026. No macro, syntax, notation, axiom, sorry.
-/
import Derived.Test.YtednjpgibbnieaaChecked
import GoSem.Claim
import GoSem.ClaimJoined
import GoSem.ClaimMapViews
import Derived.JoinedTies
import Derived.KernelRfl
namespace Go.Proofs.Ytednjpgibbnieaa
/- THE CELL 'sum', in the pinned program and in every row, IS THE sha256 OF THE DUMP (.gsa) THAT YtednjpgibbnieaaProg.lean LOADS. Nothing in Lean hashes anything: it is a label: what it is worth is what the hold of that sum in a sandbox is worth. -/
noncomputable def Try.pinned : Pinned := { name := "ytednjpgibbnieaa", sum := "41d927e518b0b9f47ffa5a98d0404371d439d76827b83aea9ba50f2bb400e0ec", checked := Try.checked }
namespace Rows
def none {H : Type} : Left H := { results := [], args := [] }

/-- 'kinoralaw07.LiftTells': WHATEVER THE INPUT: true; the input reads as it did. -/
def liftTellsSpec : ChangeSpec := { name := "liftTells", fn := fun _ => fun
  | [d] => { results := [.lit (.bool true)], args := [d] }
  | _ => none }
def liftTellsRow : OpenClaim := { program := "ytednjpgibbnieaa", sum := "41d927e518b0b9f47ffa5a98d0404371d439d76827b83aea9ba50f2bb400e0ec", func := "kinora/kinoralaw07.LiftTells", spec := "liftTells", unfollowed := true, recurses := true, apart := false }
def LiftTellsSaid : Prop := liftTellsRow.holds Try.pinned (OpenSpec.ofChange liftTellsSpec)

/-- ITS FALSE NEIGHBOUR: 'it returns false'. Refute it at one input. -/
def liftTellsWrong : ChangeSpec := { name := "liftTells", fn := fun _ => fun
  | [d] => { results := [.lit (.bool false)], args := [d] }
  | _ => none }
def LiftTellsWrongFalsely : Prop := liftTellsRow.holds Try.pinned (OpenSpec.ofChange liftTellsWrong)

/-- 'kinoralaw07.LiftOrders': WHATEVER THE INPUT: true; the input reads as it did. -/
def liftOrdersSpec : ChangeSpec := { name := "liftOrders", fn := fun _ => fun
  | [d1, d2] => { results := [.lit (.bool true)], args := [d1, d2] }
  | _ => none }
def liftOrdersRow : OpenClaim := { program := "ytednjpgibbnieaa", sum := "41d927e518b0b9f47ffa5a98d0404371d439d76827b83aea9ba50f2bb400e0ec", func := "kinora/kinoralaw07.LiftOrders", spec := "liftOrders", unfollowed := true, recurses := true, apart := false }
def LiftOrdersSaid : Prop := liftOrdersRow.holds Try.pinned (OpenSpec.ofChange liftOrdersSpec)

/-- ITS FALSE NEIGHBOUR: 'it returns false'. Refute it at one input. -/
def liftOrdersWrong : ChangeSpec := { name := "liftOrders", fn := fun _ => fun
  | [d1, d2] => { results := [.lit (.bool false)], args := [d1, d2] }
  | _ => none }
def LiftOrdersWrongFalsely : Prop := liftOrdersRow.holds Try.pinned (OpenSpec.ofChange liftOrdersWrong)

/-- 'kinoralaw07.LiftFlat': WHATEVER THE INPUT: true; the input reads as it did. -/
def liftFlatSpec : ChangeSpec := { name := "liftFlat", fn := fun _ => fun
  | [d1, d2] => { results := [.lit (.bool true)], args := [d1, d2] }
  | _ => none }
def liftFlatRow : OpenClaim := { program := "ytednjpgibbnieaa", sum := "41d927e518b0b9f47ffa5a98d0404371d439d76827b83aea9ba50f2bb400e0ec", func := "kinora/kinoralaw07.LiftFlat", spec := "liftFlat", unfollowed := true, recurses := true, apart := false }
def LiftFlatSaid : Prop := liftFlatRow.holds Try.pinned (OpenSpec.ofChange liftFlatSpec)

/-- ITS FALSE NEIGHBOUR: 'it returns false'. Refute it at one input. -/
def liftFlatWrong : ChangeSpec := { name := "liftFlat", fn := fun _ => fun
  | [d1, d2] => { results := [.lit (.bool false)], args := [d1, d2] }
  | _ => none }
def LiftFlatWrongFalsely : Prop := liftFlatRow.holds Try.pinned (OpenSpec.ofChange liftFlatWrong)

/-- 'kinoralaw07.LiftBounds': WHATEVER THE INPUT: true; the input reads as it did. -/
def liftBoundsSpec : ChangeSpec := { name := "liftBounds", fn := fun _ => fun
  | [d] => { results := [.lit (.bool true)], args := [d] }
  | _ => none }
def liftBoundsRow : OpenClaim := { program := "ytednjpgibbnieaa", sum := "41d927e518b0b9f47ffa5a98d0404371d439d76827b83aea9ba50f2bb400e0ec", func := "kinora/kinoralaw07.LiftBounds", spec := "liftBounds", unfollowed := true, recurses := true, apart := false }
def LiftBoundsSaid : Prop := liftBoundsRow.holds Try.pinned (OpenSpec.ofChange liftBoundsSpec)

/-- ITS FALSE NEIGHBOUR: 'it returns false'. Refute it at one input. -/
def liftBoundsWrong : ChangeSpec := { name := "liftBounds", fn := fun _ => fun
  | [d] => { results := [.lit (.bool false)], args := [d] }
  | _ => none }
def LiftBoundsWrongFalsely : Prop := liftBoundsRow.holds Try.pinned (OpenSpec.ofChange liftBoundsWrong)

/- THE SECOND FORM. 'bulk': how many values and letters a reading holds, each counted each time it is reached (what is shared counts as often as it is met; a slice's spare places count too). A statement '..UptoSaid' is the law's where the arguments, and the package variables that the reading takes, are together of bulk at most 1048576: NARROWER than '..Said'. Prove '..Said' where nothing that the law and all that it calls make is longer than what came in: it says more and counts as full. Else prove '..UptoSaid'. A law counts once. -/
mutual
def uptoBulk {H : Type} : DataW H → Nat
  | .lit (.string bytes) => bytes.length + 1
  | .lit _ => 1
  | .nil => 1
  | .ptr d => uptoBulk d + 1
  | .slice elems spare => uptoBulkAll elems + uptoBulkAll spare + 1
  | .agg parts => uptoBulkAll parts + 1
  | .iface _ d => uptoBulk d + 1
  | .map entries => uptoBulkEntries entries + 1
  | .held _ => 1
def uptoBulkAll {H : Type} : List (DataW H) → Nat
  | [] => 0
  | d :: r => uptoBulk d + uptoBulkAll r
def uptoBulkEntries {H : Type} : List (Lit × DataW H) → Nat
  | [] => 0
  | x :: r => uptoBulkEntry x + uptoBulkEntries r
def uptoBulkEntry {H : Type} : Lit × DataW H → Nat
  | (.string bytes, d) => bytes.length + uptoBulk d + 1
  | (_, d) => uptoBulk d + 1
 end
def uptoSmall : (H : Type) → List (DataW H) → Bool := fun _ ds => decide (uptoBulkAll ds ≤ 1048576)
def OpenSpec.upto (s : _root_.Go.ChangeSpec) : _root_.Go.OpenSpec := { _root_.Go.OpenSpec.ofChange s with cond := some uptoSmall }

/-- 'kinoralaw07.LiftTells', WHERE WHAT IT READS IS OF BULK AT MOST 1048576: true; the input reads as it did. -/
def liftTellsUptoRow : OpenClaim := { program := "ytednjpgibbnieaa", sum := "41d927e518b0b9f47ffa5a98d0404371d439d76827b83aea9ba50f2bb400e0ec", func := "kinora/kinoralaw07.LiftTells", spec := "liftTells", unfollowed := true, recurses := true, apart := false, narrowed := true }
def LiftTellsUptoSaid : Prop := liftTellsUptoRow.holds Try.pinned (OpenSpec.upto liftTellsSpec)

/-- 'kinoralaw07.LiftOrders', WHERE WHAT IT READS IS OF BULK AT MOST 1048576: true; the input reads as it did. -/
def liftOrdersUptoRow : OpenClaim := { program := "ytednjpgibbnieaa", sum := "41d927e518b0b9f47ffa5a98d0404371d439d76827b83aea9ba50f2bb400e0ec", func := "kinora/kinoralaw07.LiftOrders", spec := "liftOrders", unfollowed := true, recurses := true, apart := false, narrowed := true }
def LiftOrdersUptoSaid : Prop := liftOrdersUptoRow.holds Try.pinned (OpenSpec.upto liftOrdersSpec)

/-- 'kinoralaw07.LiftFlat', WHERE WHAT IT READS IS OF BULK AT MOST 1048576: true; the input reads as it did. -/
def liftFlatUptoRow : OpenClaim := { program := "ytednjpgibbnieaa", sum := "41d927e518b0b9f47ffa5a98d0404371d439d76827b83aea9ba50f2bb400e0ec", func := "kinora/kinoralaw07.LiftFlat", spec := "liftFlat", unfollowed := true, recurses := true, apart := false, narrowed := true }
def LiftFlatUptoSaid : Prop := liftFlatUptoRow.holds Try.pinned (OpenSpec.upto liftFlatSpec)

/-- 'kinoralaw07.LiftBounds', WHERE WHAT IT READS IS OF BULK AT MOST 1048576: true; the input reads as it did. -/
def liftBoundsUptoRow : OpenClaim := { program := "ytednjpgibbnieaa", sum := "41d927e518b0b9f47ffa5a98d0404371d439d76827b83aea9ba50f2bb400e0ec", func := "kinora/kinoralaw07.LiftBounds", spec := "liftBounds", unfollowed := true, recurses := true, apart := false, narrowed := true }
def LiftBoundsUptoSaid : Prop := liftBoundsUptoRow.holds Try.pinned (OpenSpec.upto liftBoundsSpec)

end Rows
end Go.Proofs.Ytednjpgibbnieaa
