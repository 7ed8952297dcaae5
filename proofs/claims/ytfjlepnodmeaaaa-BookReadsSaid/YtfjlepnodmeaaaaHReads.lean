/-
  The statement BookReads out of the contracts.
-/
import Derived.Test.YtfjlepnodmeaaaaBReads
import Derived.Test.YtfjlepnodmeaaaaRow
import Derived.Test.YtfjlepnodmeaaaaActs
namespace Go.Proofs.Ytfjlepnodmeaaaa
open Go.ChangeShapes Go.WideShapes Go.ChangeAt Go.RowKit

set_option maxRecDepth 100000 in
theorem reads5_lifted {X : EncSpec} {Y : DecSpec} (Z : BookSpec X Y) (os : Os) (started : os.Started) (H : Type) (enc : TypeId × Value → H) :
    ReturnsInHanded {} Try.checked os 4 .any (Rows.bookReadsSpec.pre6 enc Try.prog Try.f4 Rows.bookReadsRow.domain false) (Rows.bookReadsSpec.post enc Try.prog Try.f4 false true false false) := by
  refine law_lift (C := Try.checked) own_knob started (by kernel_rfl) Try.func4
    (ChangeSpec.witness6 (enc := enc) (C := Try.checked) false ⟨#[], #[.slice none 0 0, .slice none 0 0], []⟩ 8 (by kernel_rfl) (by kernel_rfl) (by kernel_rfl) (by kernel_rfl))
    laid_out rfl rfl Try.underlying4 (of_decide_eq_true (by kernel_rfl)) ?_
  intro W base args ds before hval0 hA0 hlt
  have hval : ∀ (j : Nat) t v, Try.f4.params[j]? = some t → args[j]? = some v → Value.okWide Try.prog W .any base t v := hval0
  have hA : DataW.TrodAll enc Try.prog W 0 (fun _ => true) true Try.f4.params.toList args.toList ds before := hA0
  rw [Try.params4] at hA hval
  obtain ⟨v0, v1, d0, d1, p0, p1, rfl, rfl, -, ⟨fuel0, h0⟩, ⟨fuel1, h1⟩⟩ := trodAll_two hA
  obtain ⟨A0, l0, c0, rfl⟩ := okWide_slice Try.underlying37 (hval 0 _ _ rfl rfl)
  obtain ⟨S0, n0, k0, bs0, e0, hb0, hn0, hs0⟩ := open_bytes (v := .slice A0 l0 c0) h0
  rw [e0]
  simp only [maxLen] at hn0
  obtain ⟨A1, l1, c1, rfl⟩ := okWide_slice Try.underlying22 (hval 1 _ _ rfl rfl)
  obtain ⟨S1, n1, k1, acts1, e1, ha1, hm1⟩ := open_acts5 (v := .slice A1 l1 c1) h1
  rw [e1]
  simp only [maxLen] at hm1
  refine ⟨rfl, ?_⟩
  by_cases h1 : 300 < n0
  · exact (reads5_long Z S0 n0 k0 S1 n1 k1 W h1 (by omega)).mono fun e W' ⟨he, hf⟩ => ⟨he, hf.below (by simp) (Nat.le_refl _)⟩
  · by_cases h2 : n0 < 4
    · exact (reads5_short Z S0 n0 k0 S1 n1 k1 W h2).mono fun e W' ⟨he, hf⟩ => ⟨he, hf.below (by simp) (Nat.le_refl _)⟩
    · exact (reads5_law Z S0 n0 k0 bs0 S1 n1 k1 acts1 W hs0 hb0 (by omega) (by omega) ha1 (by omega)).mono fun e W' ⟨he, hf⟩ => ⟨he, hf.below (by simp) (Nat.le_refl _)⟩

theorem reads5_holds_of {X : EncSpec} {Y : DecSpec} (Z : BookSpec X Y) : Rows.BookReadsSaid :=
  OpenClaim.holds_of_wide 4 Try.f4 rfl rfl rfl rfl rfl rfl rfl ⟨rfl, rfl, rfl, rfl, rfl⟩ rfl rfl rfl rfl rfl (by kernel_rfl) Try.func4 (by kernel_rfl)
    (of_decide_eq_true (by kernel_rfl)) (by unfold Func.isWrapper; first | (rw [if_pos (by decide +kernel)]; kernel_rfl) | (rw [if_neg (by decide +kernel)]; exact ⟨rfl, rfl⟩))
    (fun os started H enc _ => reads5_lifted Z os started H enc)
end Go.Proofs.Ytfjlepnodmeaaaa
