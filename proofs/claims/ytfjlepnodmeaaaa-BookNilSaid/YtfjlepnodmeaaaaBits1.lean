/-
  Contracts of the small functions of package bits (isWidth, toWhole, ones); conditions: the numbers lie in the ranges that are named.
-/
import Derived.Test.YtfjlepnodmeaaaaRows
import Derived.WalkKit
import Derived.Handy
import Derived.Lib.Hide
namespace Go.Proofs.Ytfjlepnodmeaaaa
open Go.RowKit

theorem ones_num (k : Nat) (h : k ≤ 63) : IntKind.u64.wrap (IntKind.u64.wrap (2 ^ k) - 1) = ((2 ^ k - 1 : Nat) : Int) := by
  have h1 : 2 ^ k ≤ 2 ^ 63 := Nat.pow_le_pow_right (by omega) h
  have h2 : 1 ≤ 2 ^ k := Nat.one_le_two_pow
  have e : ((2 : Int) ^ k) = ((2 ^ k : Nat) : Int) := by simp
  rw [e, IntKind.wrap_u64, IntKind.wrap_u64]
  omega

end Go.Proofs.Ytfjlepnodmeaaaa
