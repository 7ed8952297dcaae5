/-
  What the laws of layer 5 ask of the book: contracts of its exported functions, over a predicate of its own. No condition.
-/
import Derived.Test.YtfjlepnodmeaaaaBookMore
import Derived.Test.YtfjlepnodmeaaaaDLive
namespace Go.Proofs.Ytfjlepnodmeaaaa
open Go.RowKit

def InI (x : Int) : Prop := -9223372036854775808 ≤ x ∧ x ≤ 9223372036854775807

/-- What putting an act answers, and does. -/
def PutPost (Bo : World → Nat → Chs → Prop) (En : World → Nat → List Nat → Enc → Prop) (w : World) (b : Nat) (B : Chs) (p : Nat) (D : List Nat) (e : Enc) (k t n v : Int) (r : Ending) (w' : World) : Prop :=
  match actEvs k t n v with
  | none => r = .returned (.int .i64 1) ∧ Fr [] w w'
  | some l => r = .returned (.int .i64 0) ∧ ∃ D', Bo w' b (learned t.toNat B l) ∧ En w' p D' (puts e (track t.toNat B l)) ∧ Fr (b :: p :: D) w w' ∧ ∀ k ∈ D', k ∈ D ∨ w.heap.size ≤ k

/-- What getting one answers, and does. -/
def GetPost (Bo : World → Nat → Chs → Prop) (De : World → Nat → List Nat → List UInt8 → Dec → Prop) (w : World) (b y : Nat) (K : List Nat) (bs : List UInt8) (g : Got) (r : Ending) (w' : World) : Prop :=
  match g with
  | .bad e => r = .returned (.tuple #[.int .i64 0, .int .i64 e]) ∧ Fr [b, y] w w' ∧ (e = 1 → Fr [] w w')
  | .ok v B d => r = .returned (.tuple #[.int .i64 v, .int .i64 0]) ∧ Bo w' b B ∧ De w' y K bs d ∧ Fr [b, y] w w'

/-- Have two books the same chances? -/
def sameB (B C : Chs) : Bool := (List.range 592).all fun j => B j == C j
theorem sameB_refl (B : Chs) : sameB B B = true := by simp [sameB]
theorem sameB_false {B C : Chs} {j : Nat} (hj : j < 592) (h : B j ≠ C j) : sameB B C = false := by
  cases hs : sameB B C with
  | false => rfl
  | true =>
    unfold sameB at hs
    rw [List.all_eq_true] at hs
    have := hs j (by simpa using hj)
    simp at this
    exact absurd this h

/-- The book's contracts. Bo w b B: at b there is a book with the chances B. -/
structure BookSpec (X : EncSpec) (Y : DecSpec) where
  Bo : World → Nat → Chs → Prop
  lt : ∀ {w b B}, Bo w b B → b < w.heap.size
  fr : ∀ {w w' b B S}, Bo w b B → Fr S w w' → b ∉ S → Bo w' b B
  new : ∀ w, Calls Try.prog 9 #[] w fun r w' => ∃ b, r = .returned (pt b) ∧ Bo w' b newBook ∧ Fr [] w w' ∧ w.heap.size ≤ b
  put : ∀ w b B p D e (t v : Int), Bo w b B → X.En w p D e → b ∉ p :: D → FineB B → e.Ok → e.n ≤ 50000 → InI t → InI v →
    Calls Try.prog 25 #[pt b, pt p, .int .i64 t, .int .i64 v] w (PutPost Bo X.En w b B p D e 1 t 0 v)
  putS : ∀ w b B p D e (t v : Int), Bo w b B → X.En w p D e → b ∉ p :: D → FineB B → e.Ok → e.n ≤ 50000 → InI t → InI v →
    Calls Try.prog 26 #[pt b, pt p, .int .i64 t, .int .i64 v] w (PutPost Bo X.En w b B p D e 2 t 0 v)
  putO : ∀ w b B p D e (t n v : Int), Bo w b B → X.En w p D e → b ∉ p :: D → FineB B → e.Ok → e.n ≤ 50000 → InI t → InI n → InI v →
    Calls Try.prog 27 #[pt b, pt p, .int .i64 t, .int .i64 n, .int .i64 v] w (PutPost Bo X.En w b B p D e 3 t n v)
  get : ∀ w b B y K bs d (t : Int), Bo w b B → Y.De w y K bs d → b ∉ y :: K → FineB B → d.rest < 4294967296 → 16777216 ≤ d.r → d.r ≤ 4294967295 → d.i ≤ bs.length → bs.length ≤ 100000 → InI t →
    Calls Try.prog 34 #[pt b, pt y, .int .i64 t] w (GetPost Bo Y.De w b y K bs (getAct bs 1 t 0 B d))
  getS : ∀ w b B y K bs d (t : Int), Bo w b B → Y.De w y K bs d → b ∉ y :: K → FineB B → d.rest < 4294967296 → 16777216 ≤ d.r → d.r ≤ 4294967295 → d.i ≤ bs.length → bs.length ≤ 100000 → InI t →
    Calls Try.prog 31 #[pt b, pt y, .int .i64 t] w (GetPost Bo Y.De w b y K bs (getAct bs 2 t 0 B d))
  getO : ∀ w b B y K bs d (t n : Int), Bo w b B → Y.De w y K bs d → b ∉ y :: K → FineB B → d.rest < 4294967296 → 16777216 ≤ d.r → d.r ≤ 4294967295 → d.i ≤ bs.length → bs.length ≤ 100000 → InI t → InI n →
    Calls Try.prog 32 #[pt b, pt y, .int .i64 t, .int .i64 n] w (GetPost Bo Y.De w b y K bs (getAct bs 3 t n B d))
  same : ∀ w b B c C, Bo w b B → Bo w c C → Calls Try.prog 23 #[pt b, pt c] w fun r w' => r = .returned (.bool (sameB B C)) ∧ Fr [] w w'
  copy : ∀ w b B, Bo w b B → Calls Try.prog 22 #[pt b] w fun r w' => ∃ c, r = .returned (pt c) ∧ Bo w' c B ∧ Fr [] w w' ∧ w.heap.size ≤ c
  putNilB : ∀ w p D e (t v : Int), X.En w p D e → InI t → InI v → Calls Try.prog 25 #[.pointer none, pt p, .int .i64 t, .int .i64 v] w fun r w' => r = .returned (.int .i64 1) ∧ Fr [] w w'
  putNilX : ∀ w b B (t v : Int), Bo w b B → InI t → InI v → Calls Try.prog 25 #[pt b, .pointer none, .int .i64 t, .int .i64 v] w fun r w' => r = .returned (.int .i64 1) ∧ Fr [] w w'
  putSNilB : ∀ w p D e (t v : Int), X.En w p D e → InI t → InI v → Calls Try.prog 26 #[.pointer none, pt p, .int .i64 t, .int .i64 v] w fun r w' => r = .returned (.int .i64 1) ∧ Fr [] w w'
  putSNilX : ∀ w b B (t v : Int), Bo w b B → InI t → InI v → Calls Try.prog 26 #[pt b, .pointer none, .int .i64 t, .int .i64 v] w fun r w' => r = .returned (.int .i64 1) ∧ Fr [] w w'
  putONilB : ∀ w p D e (t n v : Int), X.En w p D e → InI t → InI n → InI v → Calls Try.prog 27 #[.pointer none, pt p, .int .i64 t, .int .i64 n, .int .i64 v] w fun r w' => r = .returned (.int .i64 1) ∧ Fr [] w w'
  putONilX : ∀ w b B (t n v : Int), Bo w b B → InI t → InI n → InI v → Calls Try.prog 27 #[pt b, .pointer none, .int .i64 t, .int .i64 n, .int .i64 v] w fun r w' => r = .returned (.int .i64 1) ∧ Fr [] w w'
  getNilB : ∀ w (t : Int), InI t → Calls Try.prog 34 #[.pointer none, .pointer none, .int .i64 t] w fun r w' => r = .returned (.tuple #[.int .i64 0, .int .i64 1]) ∧ Fr [] w w'
  getNilX : ∀ w b B (t : Int), Bo w b B → InI t → Calls Try.prog 34 #[pt b, .pointer none, .int .i64 t] w fun r w' => r = .returned (.tuple #[.int .i64 0, .int .i64 1]) ∧ Fr [] w w'
  getSNilB : ∀ w (t : Int), InI t → Calls Try.prog 31 #[.pointer none, .pointer none, .int .i64 t] w fun r w' => r = .returned (.tuple #[.int .i64 0, .int .i64 1]) ∧ Fr [] w w'
  getSNilX : ∀ w b B (t : Int), Bo w b B → InI t → Calls Try.prog 31 #[pt b, .pointer none, .int .i64 t] w fun r w' => r = .returned (.tuple #[.int .i64 0, .int .i64 1]) ∧ Fr [] w w'
  getONilB : ∀ w (t n : Int), InI t → InI n → Calls Try.prog 32 #[.pointer none, .pointer none, .int .i64 t, .int .i64 n] w fun r w' => r = .returned (.tuple #[.int .i64 0, .int .i64 1]) ∧ Fr [] w w'
  getONilX : ∀ w b B (t n : Int), Bo w b B → InI t → InI n → Calls Try.prog 32 #[pt b, .pointer none, .int .i64 t, .int .i64 n] w fun r w' => r = .returned (.tuple #[.int .i64 0, .int .i64 1]) ∧ Fr [] w w'
  sameNN : ∀ w, Calls Try.prog 23 #[.pointer none, .pointer none] w fun r w' => r = .returned (.bool true) ∧ Fr [] w w'
  sameNB : ∀ w b B, Bo w b B → Calls Try.prog 23 #[.pointer none, pt b] w fun r w' => r = .returned (.bool false) ∧ Fr [] w w'
  copyNil : ∀ w, Calls Try.prog 22 #[.pointer none] w fun r w' => r = .returned (.pointer none) ∧ Fr [] w w'

/-- A script's act: kind, topic, ways, number. -/
abbrev Act5 := Int × Int × Int × Int
def InA (a : Act5) : Prop := InI a.1 ∧ InI a.2.1 ∧ InI a.2.2.1 ∧ InI a.2.2.2
def vAct (a : Act5) : Value := .agg #[.int .i64 a.1, .int .i64 a.2.1, .int .i64 a.2.2.1, .int .i64 a.2.2.2]
def evsOf (a : Act5) : Option (List Ev) := actEvs a.1 a.2.1 a.2.2.1 a.2.2.2
def topicOf (a : Act5) : Nat := a.2.1.toNat
def gotOf (bs : List UInt8) (a : Act5) (B : Chs) (d : Dec) : Got := getAct bs a.1 a.2.1 a.2.2.1 B d
theorem actEvs_n1 (t n v : Int) : actEvs 1 t n v = actEvs 1 t 0 v := rfl
theorem actEvs_n2 (t n v : Int) : actEvs 2 t n v = actEvs 2 t 0 v := rfl
theorem actEvs_k3 {k : Int} (h1 : k ≠ 1) (h2 : k ≠ 2) (t n v : Int) : actEvs k t n v = actEvs 3 t n v := by
  unfold actEvs
  rw [if_neg h1, if_neg h2]
  rfl
theorem getAct_n1 (bs : List UInt8) (t n : Int) (B : Chs) (d : Dec) : getAct bs 1 t n B d = getAct bs 1 t 0 B d := rfl
theorem getAct_n2 (bs : List UInt8) (t n : Int) (B : Chs) (d : Dec) : getAct bs 2 t n B d = getAct bs 2 t 0 B d := rfl
theorem getAct_k3 {k : Int} (h1 : k ≠ 1) (h2 : k ≠ 2) (bs : List UInt8) (t n : Int) (B : Chs) (d : Dec) : getAct bs k t n B d = getAct bs 3 t n B d := by
  unfold getAct
  rw [if_neg h1, if_neg h2]
  rfl

/-- The book, the chances of a new one after what was put, and back: the live question's numbers. -/
def liveEvs1 : List Ev := sgnEvs (-70)
def liveEvs2 : List Ev := oneEvs 5 4
end Go.Proofs.Ytfjlepnodmeaaaa
