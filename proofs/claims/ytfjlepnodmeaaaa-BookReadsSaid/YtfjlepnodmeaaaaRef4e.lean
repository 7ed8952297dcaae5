/-
  The document's decoder: its frame, and Get whole; conditions: the range and the place are bounded as named.
-/
import Derived.Test.YtfjlepnodmeaaaaRef4d
import Derived.Test.YtfjlepnodmeaaaaCodSpec
namespace Go.Proofs.Ytfjlepnodmeaaaa
open Go.RowKit

theorem Rd.fr {w w' : World} {p : Nat} {A : Option Addr} {c : Nat} {bs : List UInt8} {d : Dec} {S : List Nat} (h : Rd w p A c bs d) (hf : Fr S w w') (h1 : p ∉ S) (h2 : ∀ ad, A = some ad → ad.block ∉ S) : Rd w' p A c bs d := by
  refine ⟨h.1.fr hf h1, h.2.1.fr hf (fun k hk => ?_), h.2.2⟩
  cases A with
  | none => simp [Value.ownBlock] at hk
  | some ad =>
    have : k = ad.block := by simpa [Value.ownBlock] using hk.symm
    rw [this]
    exact h2 ad rfl

theorem rget_total (p : Nat) (A : Option Addr) (cc : Nat) (bs : List UInt8) (d : Dec) (c : Nat) (w : World) (h : Rd w p A cc bs d) (hc : rightC c) (hr1 : 16777216 ≤ d.r) (hr2 : d.r ≤ 4294967295) (hi : d.i ≤ 1000000) :
    Calls Try.prog 63 #[pt p, .int .i64 (c : Int)] w fun e w' =>
      (∃ bit d', decGet bs d c = some (bit, d') ∧ e = .returned (.tuple #[.int .i64 (bit.toNat : Int), .int .i64 0]) ∧ Rd w' p A cc bs d' ∧ Fr [p] w w') ∨
      (decGet bs d c = none ∧ e = .returned (.tuple #[.int .i64 0, .int .i64 41]) ∧ Fr [] w w') := by
  by_cases hr : d.rest < d.r
  · exact rget_any p A cc bs d c w h hc hr hr1 hr2 hi
  · refine (rget_great p A cc bs d c w h hc (by omega)).mono ?_
    rintro e w' ⟨he, m, hw⟩
    exact .inr ⟨by unfold decGet; rw [if_neg hr], he, by rw [hw]; exact (Fr.refl _ _).drewN m⟩

/-- What getting keeps. -/
theorem got_keeps {bs : List UInt8} {d d' : Dec} {c : Nat} {b : Bool} (hg : decGet bs d c = some (b, d')) (hc : rightC c) (h1 : 16777216 ≤ d.r) (h2 : d.r ≤ 4294967295) (h3 : d.i ≤ bs.length) : 16777216 ≤ d'.r ∧ d'.r ≤ 4294967295 ∧ d'.i ≤ bs.length := by
  have b1 := bnd_lo h1 hc
  have b2 := bnd_hi h1 hc
  unfold decGet decScale decBit at hg
  by_cases hr : d.rest < bnd d.r c
  · simp only [if_pos hr] at hg
    split at hg
    · split at hg
      · split at hg
        · injection hg with hg; injection hg with _ hg; subst hg; simp only; omega
        · cases hg
      · injection hg with hg; injection hg with _ hg; subst hg; simp only; omega
    · cases hg
  · simp only [if_neg hr] at hg
    split at hg
    · split at hg
      · split at hg
        · injection hg with hg; injection hg with _ hg; subst hg; simp only; omega
        · cases hg
      · injection hg with hg; injection hg with _ hg; subst hg; simp only; omega
    · cases hg
end Go.Proofs.Ytfjlepnodmeaaaa
