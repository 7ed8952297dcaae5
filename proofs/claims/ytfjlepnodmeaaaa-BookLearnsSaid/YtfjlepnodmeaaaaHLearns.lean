/-
  The statement BookLearns out of the contracts.
-/
import Derived.Test.YtfjlepnodmeaaaaBLearns
import Derived.Test.YtfjlepnodmeaaaaRow
namespace Go.Proofs.Ytfjlepnodmeaaaa
open Go.ChangeShapes Go.WideShapes Go.ChangeAt Go.RowKit

set_option maxRecDepth 100000 in
theorem learns5_lifted {X : EncSpec} {Y : DecSpec} (Z : BookSpec X Y) (os : Os) (started : os.Started) (H : Type) (enc : TypeId × Value → H) :
    ReturnsInHanded {} Try.checked os 7 .any (Rows.bookLearnsSpec.pre6 enc Try.prog Try.f7 Rows.bookLearnsRow.domain false) (Rows.bookLearnsSpec.post enc Try.prog Try.f7 false true false false) := by
  refine law_lift (C := Try.checked) own_knob started (by kernel_rfl) Try.func7
    (ChangeSpec.witness6 (enc := enc) (C := Try.checked) false ⟨#[], #[.int .i64 0, .int .i64 0], []⟩ 8 (by kernel_rfl) (by kernel_rfl) (by kernel_rfl) (by kernel_rfl))
    laid_out rfl rfl Try.underlying4 (of_decide_eq_true (by kernel_rfl)) ?_
  intro W base args ds before hval0 hA0 hlt
  have hval : ∀ (j : Nat) t v, Try.f7.params[j]? = some t → args[j]? = some v → Value.okWide Try.prog W .any base t v := hval0
  have hA : DataW.TrodAll enc Try.prog W 0 (fun _ => true) true Try.f7.params.toList args.toList ds before := hA0
  rw [Try.params7] at hA hval
  obtain ⟨v0, v1, d0, d1, p0, p1, rfl, rfl, -, h0, h1⟩ := trodAll_two hA
  obtain ⟨z0, rfl, -, -, wz0⟩ := open_int Try.underlying3 (hval 0 _ _ rfl rfl) h0
  obtain ⟨z1, rfl, -, -, wz1⟩ := open_int Try.underlying3 (hval 1 _ _ rfl rfl) h1
  exact ⟨rfl, (learns5_law Z z0 z1 W).mono fun e W' ⟨he, hf⟩ => ⟨he, hf.below (by simp) (Nat.le_refl _)⟩⟩

theorem learns5_holds_of {X : EncSpec} {Y : DecSpec} (Z : BookSpec X Y) : Rows.BookLearnsSaid :=
  OpenClaim.holds_of_wide 7 Try.f7 rfl rfl rfl rfl rfl rfl rfl ⟨rfl, rfl, rfl, rfl, rfl⟩ rfl rfl rfl rfl rfl (by kernel_rfl) Try.func7 (by kernel_rfl)
    (of_decide_eq_true (by kernel_rfl)) (by unfold Func.isWrapper; first | (rw [if_pos (by decide +kernel)]; kernel_rfl) | (rw [if_neg (by decide +kernel)]; exact ⟨rfl, rfl⟩))
    (fun os started H enc _ => learns5_lifted Z os started H enc)
end Go.Proofs.Ytfjlepnodmeaaaa
