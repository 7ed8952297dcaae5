/-
  What the laws of layer 4 ask of the coder: contracts of its exported functions, over predicates of its own; a script of chances and bits as cells; the chance of a raw number. No condition.
-/
import Derived.Test.YtfjlepnodmeaaaaMine
import Derived.Test.YtfjlepnodmeaaaaCodPlain
import Derived.Test.YtfjlepnodmeaaaaSrc
import Derived.Test.YtfjlepnodmeaaaaRef1a
namespace Go.Proofs.Ytfjlepnodmeaaaa
open Go.RowKit Go.ChangeShapes Go.WideShapes Go.ChangeAt Go.Deep

abbrev pt (p : Nat) : Value := .pointer (some ⟨p, 0, none⟩)

/-- The encoder's contracts. En w p D e: at p there is an encoder with the code e; the blocks D bear it. -/
structure EncSpec where
  En : World → Nat → List Nat → Enc → Prop
  lt : ∀ {w p D e}, En w p D e → ∀ k ∈ p :: D, k < w.heap.size
  fr : ∀ {w w' p D e S}, En w p D e → Fr S w w' → (∀ k ∈ p :: D, k ∉ S) → En w' p D e
  new : ∀ w, Calls Try.prog 11 #[] w fun r w' => ∃ p D, r = .returned (pt p) ∧ En w' p D encNew ∧ Fr [] w w' ∧ ∀ k ∈ p :: D, w.heap.size ≤ k
  bad : ∀ w p D e (c : Nat) (bit : Int), En w p D e → c < 65536 → -9223372036854775808 ≤ bit → bit ≤ 9223372036854775807 → ¬ (rightC c ∧ (bit = 0 ∨ bit = 1)) →
    Calls Try.prog 57 #[pt p, .int .u16 (c : Int), .int .i64 bit] w fun r w' => r = .returned (.int .i64 1) ∧ Fr [] w w'
  put : ∀ w p D e (c : Nat) (bit : Bool), En w p D e → e.Ok → rightC c → e.n ≤ 100000 →
    Calls Try.prog 57 #[pt p, .int .u16 (c : Int), .int .i64 (bit.toNat : Int)] w fun r w' => r = .returned (.int .i64 0) ∧ ∃ D', En w' p D' (encPut e c bit) ∧ Fr (p :: D) w w' ∧ ∀ k ∈ D', k ∈ D ∨ w.heap.size ≤ k
  bytes : ∀ w p D e, En w p D e → e.Ok → e.n ≤ 100000 →
    Calls Try.prog 16 #[pt p] w fun r w' => ∃ u, r = .returned u ∧ Src w' u ((bytesOf e.n e.v).map B8) ∧ Fr [] w w' ∧ (∀ k, u.ownBlock = some k → k ∈ D ∨ w.heap.size ≤ k)
  putNil : ∀ w (c : Nat) (bit : Int), c < 65536 → Calls Try.prog 57 #[.pointer none, .int .u16 (c : Int), .int .i64 bit] w fun r w' => r = .returned (.int .i64 1) ∧ Fr [] w w'
  bytesNil : ∀ w, Calls Try.prog 16 #[.pointer none] w fun r w' => r = .returned (.slice none 0 0) ∧ Fr [] w w'

/-- The decoder's. De w p D bs d: at p there is a decoder of the bytes bs, at d; the blocks D bear the bytes. -/
structure DecSpec where
  De : World → Nat → List Nat → List UInt8 → Dec → Prop
  lt : ∀ {w p D bs d}, De w p D bs d → ∀ k ∈ p :: D, k < w.heap.size
  fr : ∀ {w w' p D bs d S}, De w p D bs d → Fr S w w' → (∀ k ∈ p :: D, k ∉ S) → De w' p D bs d
  short : ∀ w A (n c : Nat), n < 4 → Calls Try.prog 18 #[.slice A n c] w fun r w' => r = .returned (.tuple #[.pointer none, .int .i64 41]) ∧ Fr [] w w'
  opens : ∀ w A c bs, Src w (.slice A bs.length c) (bs.map B8) → 4 ≤ bs.length → bs.length ≤ 100000 →
    Calls Try.prog 18 #[.slice A bs.length c] w fun r w' => ∃ p D, r = .returned (.tuple #[pt p, .int .i64 0]) ∧ De w' p D bs (decOpen bs) ∧ Fr [] w w' ∧ w.heap.size ≤ p ∧ (∀ k ∈ D, k ≠ p) ∧ ∀ k ∈ D, w.heap.size ≤ k ∨ ∃ ad, A = some ad ∧ ad.block = k
  arg : ∀ w p D bs d (c : Nat), De w p D bs d → c < 65536 → ¬ rightC c → Calls Try.prog 61 #[pt p, .int .u16 (c : Int)] w fun r w' => r = .returned (.tuple #[.int .i64 0, .int .i64 1]) ∧ Fr [] w w'
  get : ∀ w p D bs d (c : Nat), De w p D bs d → rightC c → d.rest < 4294967296 → 16777216 ≤ d.r → d.r ≤ 4294967295 → d.i ≤ bs.length → bs.length ≤ 100000 →
    Calls Try.prog 61 #[pt p, .int .u16 (c : Int)] w fun r w' =>
      (∃ bit d', decGet bs d c = some (bit, d') ∧ r = .returned (.tuple #[.int .i64 (bit.toNat : Int), .int .i64 0]) ∧ De w' p D bs d' ∧ Fr [p] w w') ∨
      (decGet bs d c = none ∧ r = .returned (.tuple #[.int .i64 0, .int .i64 41]) ∧ Fr [] w w')
  ends : ∀ w p D bs d, De w p D bs d → Calls Try.prog 24 #[pt p] w fun r w' => r = .returned (.int .i64 (if d.i = bs.length ∧ d.rest = 0 then 0 else 41)) ∧ ∃ m, w' = w.drewN m
  getNil : ∀ w (c : Nat), c < 65536 → Calls Try.prog 61 #[.pointer none, .int .u16 (c : Int)] w fun r w' => r = .returned (.tuple #[.int .i64 0, .int .i64 1]) ∧ Fr [] w w'
  endNil : ∀ w, Calls Try.prog 24 #[.pointer none] w fun r w' => r = .returned (.int .i64 1) ∧ Fr [] w w'

/-- The chance's. -/
def NextSpec : Prop := ∀ w (c : Nat) (bit : Int), c < 65536 → -9223372036854775808 ≤ bit → bit ≤ 9223372036854775807 →
  Calls Try.prog 58 #[.int .u16 (c : Int), .int .i64 bit] w fun r w' => r = .returned (.int .u16 (nextC c (bit != 0) : Int)) ∧ Fr [] w w'

/-- A raw number as a chance. -/
def rawC (c : Int) : Nat := (c % 65536).toNat
theorem rawC_lt (c : Int) : rawC c < 65536 := by unfold rawC; omega
theorem and_raw (c : Int) : bits .and .i64 c 65535 = (rawC c : Int) := by
  show IntKind.i64.wrap ((BitVec.ofInt 64 c &&& BitVec.ofInt 64 65535).toNat : Int) = _
  rw [BitVec.toNat_and, BitVec.toNat_ofInt, show (BitVec.ofInt 64 65535).toNat = 2 ^ 16 - 1 by decide, Nat.and_two_pow_sub_one_eq_mod]
  have h : (c % ((2 ^ 64 : Nat) : Int)).toNat % 2 ^ 16 = rawC c := by unfold rawC; omega
  rw [h, IntWalk.i64_in _ (by have := rawC_lt c; omega)]

/-- The script's acts as cells: chance and bit of each. -/
def Acts2 (w : World) (A : Option Addr) (len : Nat) (acts : List (Int × Int)) : Prop :=
  acts.length = len ∧ ∀ (i : Nat) (c b : Int), acts[i]? = some (c, b) → -9223372036854775808 ≤ b ∧ b ≤ 9223372036854775807 ∧ ∃ g o, A = some ⟨g, o, none⟩ ∧
    w.cell? ⟨g, o + i * 2, none⟩ = some (.int .i64 c) ∧ w.cell? ⟨g, o + i * 2 + 1, none⟩ = some (.int .i64 b)

theorem Acts2.fr {w w' : World} {A : Option Addr} {len : Nat} {acts : List (Int × Int)} (h : Acts2 w A len acts) (hf : Fr [] w w') : Acts2 w' A len acts := by
  refine ⟨h.1, fun i c b hi => ?_⟩
  obtain ⟨l1, l2, g, o, rfl, h1, h2⟩ := h.2 i c b hi
  have f : ∀ (j : Nat) (u : Value), w.cell? ⟨g, j, none⟩ = some u → w'.cell? ⟨g, j, none⟩ = some u := fun j u hu => (hf.cell (World.block_lt_of_cell? w _ hu) (by simp)).trans hu
  exact ⟨l1, l2, g, o, rfl, f _ _ h1, f _ _ h2⟩

section
variable {H : Type} {enc : TypeId × Value → H} {w : World} {base : Nat} {spare : Nat → Bool} {held : Bool}
end

/-! The live question. -/
def e1 : Enc := encPut encNew 1024 true
def e2 : Enc := encPut e1 1024 false
def liveBytes : List UInt8 := [127, 255, 252, 0]
theorem live_bytes : bytesOf e2.n e2.v = liveBytes := by decide +kernel
theorem live_ok : encNew.Ok ∧ e1.Ok ∧ e2.Ok := by
  have h1 := encPut_ok encNew_ok (c := 1024) (by decide) true
  exact ⟨encNew_ok, h1, encPut_ok h1 (by decide) false⟩
def d1 : Dec := ⟨4, 0, 2147484671⟩
def d2 : Dec := ⟨4, 0, 1073741824⟩
theorem live_get1 : decGet liveBytes (decOpen liveBytes) 1024 = some (true, d1) := by decide +kernel
theorem live_get2 : decGet liveBytes d1 1024 = some (false, d2) := by decide +kernel

end Go.Proofs.Ytfjlepnodmeaaaa
