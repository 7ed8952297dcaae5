/-
  The statement CoderWrites out of the coder's contracts.
-/
import Derived.Test.YtfnmplipbgdniaaDWrites
import Derived.Test.YtfnmplipbgdniaaRow
namespace Go.Proofs.Ytfnmplipbgdniaa
open Go.ChangeShapes Go.WideShapes Go.ChangeAt Go.RowKit

set_option maxRecDepth 100000 in
theorem writes4_lifted (X : EncSpec) (Y : DecSpec) (N : NextSpec) (os : Os) (started : os.Started) (H : Type) (enc : TypeId × Value → H) :
    ReturnsInHanded {} Try.checked os 3 .any (Rows.coderWritesSpec.pre6 enc Try.prog Try.f3 Rows.coderWritesRow.domain false) (Rows.coderWritesSpec.post enc Try.prog Try.f3 false true false false) := by
  refine law_lift (C := Try.checked) own_knob started (by kernel_rfl) Try.func3
    (ChangeSpec.witness6 (enc := enc) (C := Try.checked) false ⟨#[], #[.slice none 0 0], []⟩ 8 (by kernel_rfl) (by kernel_rfl) (by kernel_rfl) (by kernel_rfl))
    laid_out rfl rfl Try.underlying4 (of_decide_eq_true (by kernel_rfl)) ?_
  intro W base args ds before hval0 hA0 hlt
  have hval : ∀ (j : Nat) t v, Try.f3.params[j]? = some t → args[j]? = some v → Value.okWide Try.prog W .any base t v := hval0
  have hA : DataW.TrodAll enc Try.prog W 0 (fun _ => true) true Try.f3.params.toList args.toList ds before := hA0
  rw [Try.params3] at hA hval
  obtain ⟨v0, d0, rfl, rfl, fuel, h0⟩ := trodAll_one hA
  obtain ⟨A0, l0, c0, rfl⟩ := okWide_slice Try.underlying22 (hval 0 _ _ rfl rfl)
  obtain ⟨A, len, cap, acts, e, hacts, hm⟩ := open_acts2 (v := .slice A0 l0 c0) h0
  rw [e]
  simp only [maxLen] at hm
  exact ⟨rfl, (writes4_law X Y N A len cap acts W hacts (by omega)).mono fun e W' ⟨he, hf⟩ => ⟨he, hf.below (by simp) (Nat.le_refl _)⟩⟩

theorem writes4_holds_of (X : EncSpec) (Y : DecSpec) (N : NextSpec) : Rows.CoderWritesSaid :=
  OpenClaim.holds_of_wide 3 Try.f3 rfl rfl rfl rfl rfl rfl rfl ⟨rfl, rfl, rfl, rfl, rfl⟩ rfl rfl rfl rfl rfl (by kernel_rfl) Try.func3 (by kernel_rfl)
    (of_decide_eq_true (by kernel_rfl)) (by unfold Func.isWrapper; first | (rw [if_pos (by decide +kernel)]; kernel_rfl) | (rw [if_neg (by decide +kernel)]; exact ⟨rfl, rfl⟩))
    (fun os started H enc _ => writes4_lifted X Y N os started H enc)

end Go.Proofs.Ytfnmplipbgdniaa
