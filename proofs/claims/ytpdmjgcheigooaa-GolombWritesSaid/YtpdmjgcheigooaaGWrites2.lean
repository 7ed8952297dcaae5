/-
  The law GolombWrites answers true whatever its input, and leaves its arguments as they were; no condition.
-/
import Derived.Test.YtpdmjgcheigooaaGWrites1
namespace Go.Proofs.Ytpdmjgcheigooaa
open Go.ChangeShapes Go.WideShapes Go.ChangeAt Go.RowKit

set_option maxRecDepth 100000 in
theorem gwrites_lifted (os : Os) (started : os.Started) (H : Type) (enc : TypeId × Value → H) :
    ReturnsInHanded {} Try.checked os 4 .any (Rows.golombWritesSpec.pre6 enc Try.prog Try.f4 Rows.golombWritesRow.domain false) (Rows.golombWritesSpec.post enc Try.prog Try.f4 false true false false) := by
  refine law_lift (C := Try.checked) own_knob started (by kernel_rfl) Try.func4
    (ChangeSpec.witness6 (enc := enc) (C := Try.checked) false ⟨#[], #[.slice none 0 0, .slice none 0 0], []⟩ 8 (by kernel_rfl) (by kernel_rfl) (by kernel_rfl) (by kernel_rfl))
    laid_out rfl rfl Try.underlying4 (of_decide_eq_true (by kernel_rfl)) ?_
  intro W base args ds before hval0 hA0 hlt
  have hval : ∀ (j : Nat) t v, Try.f4.params[j]? = some t → args[j]? = some v → Value.okWide Try.prog W .any base t v := hval0
  have hA : DataW.TrodAll enc Try.prog W 0 (fun _ => true) true Try.f4.params.toList args.toList ds before := hA0
  rw [Try.params4] at hA hval
  obtain ⟨v0, v1, d0, d1, p0, p1, rfl, rfl, -, ⟨fuel0, h0⟩, ⟨fuel1, h1⟩⟩ := trodAll_two hA
  obtain ⟨A0, l0, c0, rfl⟩ := okWide_slice Try.underlying31 (hval 0 _ _ rfl rfl)
  obtain ⟨A1, l1, c1, rfl⟩ := okWide_slice Try.underlying32 (hval 1 _ _ rfl rfl)
  obtain ⟨A, n, ca, l, e, hln, hn, hs⟩ := open_u64s (v := .slice A0 l0 c0) h0
  obtain ⟨B, m, cb, s, e2, hsm, hm, hs2⟩ := open_i64s (v := .slice A1 l1 c1) h1
  rw [e, e2]
  simp only [maxLen] at hn hm
  exact ⟨rfl, (gwrites_any A B n ca m cb l s W hs hln hs2 hsm (by omega) (by omega)).mono fun e W' ⟨he, hf⟩ => ⟨he, hf.below (by simp) (Nat.le_refl _)⟩⟩

theorem gwrites_holds : Rows.GolombWritesSaid :=
  OpenClaim.holds_of_wide 4 Try.f4 rfl rfl rfl rfl rfl rfl rfl ⟨rfl, rfl, rfl, rfl, rfl⟩ rfl rfl rfl rfl rfl (by kernel_rfl) Try.func4 (by kernel_rfl)
    (of_decide_eq_true (by kernel_rfl)) (by unfold Func.isWrapper; first | (rw [if_pos (by decide +kernel)]; kernel_rfl) | (rw [if_neg (by decide +kernel)]; exact ⟨rfl, rfl⟩))
    (fun os started H enc _ => gwrites_lifted os started H enc)
#print axioms gwrites_holds
end Go.Proofs.Ytpdmjgcheigooaa
