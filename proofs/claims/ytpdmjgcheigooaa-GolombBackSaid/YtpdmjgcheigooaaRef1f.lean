/-
  Contracts of the document's reader: Get; conditions: the lengths are bounded as named.
-/
import Derived.Test.YtpdmjgcheigooaaRef1e
namespace Go.Proofs.Ytpdmjgcheigooaa
open Go.RowKit

theorem Src.take {w : World} {A : Option Addr} {n c k : Nat} {xs : List Value} (h : Src w (.slice A n c) xs) (hk : k ≤ n) : Src w (.slice A k c) (xs.take k) := by
  rcases h with ⟨h1, rfl⟩ | ⟨ad, c', h1, hle, hc⟩
  · injection h1 with e1 e2 e3
    subst e1 e2 e3
    obtain rfl : k = 0 := by omega
    exact .inl ⟨rfl, rfl⟩
  · injection h1 with e1 e2 e3
    subst e1 e2 e3
    refine .inr ⟨ad, c, by simp; omega, by simp; omega, fun j u hu => hc j u ?_⟩
    rw [List.getElem?_take] at hu
    split at hu
    · exact hu
    · cases hu

theorem still_quiet {P : Program} {f : FuncId} {args : Array Value} {w : World} {a m : Nat} {v : Value} (ham : a ≤ m)
    (h : Calls P f args (w.drewN m) fun e w' => e = .returned v ∧ w' = w.drewN m) : Calls P f args (w.drewN m) fun e w' => e = .returned v ∧ ∃ k, w' = w.drewN (a + k) :=
  h.mono fun _ _ x => ⟨x.1, m - a, by rw [x.2]; congr 1; omega⟩

theorem Rr.fin {w : World} {q i n : Nat} {v : Value} {l : List Bool} (hB : Blk w q 58 #[v, .int .i64 (i : Int)]) (hO : Own w 5 v ((bitsU l).map B8)) (hne : v.ownBlock ≠ some q) (hb : i + n ≤ l.length) (k : Nat) :
    Rr ((w.setCell ⟨q, 1, none⟩ (.int .i64 ((i : Int) + (n : Int)))).drewN k) q v l (i + n) := by
  have h5 := (Rr.moved hB hO hne (i + n) hb).fr (S := []) ((Fr.refl [] _).drewN k) (by simp) (by simp)
  have e5 : ((i + n : Nat) : Int) = (i : Int) + (n : Int) := by omega
  rw [e5] at h5
  exact h5

end Go.Proofs.Ytpdmjgcheigooaa
