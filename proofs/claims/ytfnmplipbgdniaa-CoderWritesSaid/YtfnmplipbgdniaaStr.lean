/-
  string(b) of bytes that are known: the string of these bytes.
-/
import Derived.Test.YtfnmplipbgdniaaMem
import Derived.Test.YtfnmplipbgdniaaRows
namespace Go.Proofs.Ytfnmplipbgdniaa
open Go.RowKit

/-- The string of bytes. -/
def strOf (xs : List UInt8) : ByteArray := ⟨xs.toArray⟩

theorem strOf_inj {a b : List UInt8} (h : strOf a = strOf b) : a = b := by
  have := congrArg (fun s : ByteArray => s.data.toList) h
  simpa [strOf] using this

theorem fold_push (xs : List UInt8) : ∀ s : ByteArray, (xs.map fun x => (x.toNat : Int)).foldl (fun r n => r.push (UInt8.ofNat n.toNat)) s = ⟨s.data ++ xs.toArray⟩ := by
  induction xs with
  | nil => intro s; simp
  | cons x xs ih =>
    intro s
    rw [List.map_cons, List.foldl_cons, ih]
    have : UInt8.ofNat ((x.toNat : Int)).toNat = x := by simp
    rw [this]
    congr 1
    apply Array.ext'
    simp [ByteArray.push]

theorem run_string {w : World} {v : Value} {xs : List UInt8} (hs : Src w v (xs.map B8)) : (convert 36 9 v).run Try.prog w = .ok (.string (strOf xs)) w := by
  rcases hs with ⟨rfl, h0⟩ | ⟨ad, c, rfl, _, hc⟩
  · rw [List.map_eq_nil_iff.1 h0]
    rw [run_convert_bytes_string w _ _ 5 none 0 0 Try.underlying36 Try.underlying5 Try.underlying9]
    rfl
  · rw [run_convert_bytes_string w _ _ 5 (some ad) _ c Try.underlying36 Try.underlying5 Try.underlying9]
    have h1 := run_loadCells_list (P := Try.prog) w ad (xs.map B8) hc
    have e : (xs.map B8) = (xs.map fun x => (x.toNat : Int)).map (Value.int .u8) := by simp [B8]
    rw [e] at h1
    rw [run_bytesToString w ad _ c (xs.map fun x => (x.toNat : Int)) (by rw [e]; exact h1), fold_push]
    simp [strOf, ByteArray.empty, ByteArray.emptyWithCapacity]
    rfl

/-- The conversion, kept closed: it is met by what is known of its argument alone. -/
def cv (v : Value) : Sem Value := convert 36 9 v
theorem cv_rule (v : Value) : convert 36 9 v = cv v := rfl
theorem run_cv {w : World} {v : Value} {xs : List UInt8} (hs : Src w v (xs.map B8)) : (cv v).run Try.prog w = .ok (.string (strOf xs)) w := run_string hs
end Go.Proofs.Ytfnmplipbgdniaa
