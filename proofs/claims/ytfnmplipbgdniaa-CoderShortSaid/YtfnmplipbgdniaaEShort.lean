/-
  The statement CoderShort out of the coder's contracts.
-/
import Derived.Test.YtfnmplipbgdniaaDShort
import Derived.Test.YtfnmplipbgdniaaRow
namespace Go.Proofs.Ytfnmplipbgdniaa
open Go.ChangeShapes Go.WideShapes Go.ChangeAt Go.RowKit

set_option maxRecDepth 100000 in
theorem short4_lifted (X : EncSpec) (Y : DecSpec) (N : NextSpec) (os : Os) (started : os.Started) (H : Type) (enc : TypeId × Value → H) :
    ReturnsInHanded {} Try.checked os 8 .any (Rows.coderShortSpec.pre6 enc Try.prog Try.f8 Rows.coderShortRow.domain false) (Rows.coderShortSpec.post enc Try.prog Try.f8 false true false false) := by
  refine law_lift (C := Try.checked) own_knob started (by kernel_rfl) Try.func8
    (ChangeSpec.witness6 (enc := enc) (C := Try.checked) false ⟨#[], #[.int .i64 0, .slice none 0 0], []⟩ 8 (by kernel_rfl) (by kernel_rfl) (by kernel_rfl) (by kernel_rfl))
    laid_out rfl rfl Try.underlying4 (of_decide_eq_true (by kernel_rfl)) ?_
  intro W base args ds before hval0 hA0 hlt
  have hval : ∀ (j : Nat) t v, Try.f8.params[j]? = some t → args[j]? = some v → Value.okWide Try.prog W .any base t v := hval0
  have hA : DataW.TrodAll enc Try.prog W 0 (fun _ => true) true Try.f8.params.toList args.toList ds before := hA0
  rw [Try.params8] at hA hval
  obtain ⟨v0, v1, d0, d1, p0, p1, rfl, rfl, -, h0, ⟨fuel1, h1⟩⟩ := trodAll_two hA
  obtain ⟨a, rfl, -, -, wa⟩ := open_int Try.underlying3 (hval 0 _ _ rfl rfl) h0
  obtain ⟨A1, l1, c1, rfl⟩ := okWide_slice Try.underlying22 (hval 1 _ _ rfl rfl)
  obtain ⟨A, len, cap, acts, e, hacts, hm⟩ := open_acts2 (v := .slice A1 l1 c1) h1
  rw [e]
  simp only [maxLen] at hm
  refine ⟨rfl, ?_⟩
  by_cases h : a < 0 ∨ 4000 < a
  · exact (short_out X Y N a A len cap W h).mono fun e W' ⟨he, hf⟩ => ⟨he, hf.below (by simp) (Nat.le_refl _)⟩
  · obtain ⟨n, rfl⟩ : ∃ n : Nat, a = (n : Int) := ⟨a.toNat, by omega⟩
    exact (short_law X Y N n A len cap acts W (by omega) hacts (by omega)).mono fun e W' ⟨he, hf⟩ => ⟨he, hf.below (by simp) (Nat.le_refl _)⟩

theorem short4_holds_of (X : EncSpec) (Y : DecSpec) (N : NextSpec) : Rows.CoderShortSaid :=
  OpenClaim.holds_of_wide 8 Try.f8 rfl rfl rfl rfl rfl rfl rfl ⟨rfl, rfl, rfl, rfl, rfl⟩ rfl rfl rfl rfl rfl (by kernel_rfl) Try.func8 (by kernel_rfl)
    (of_decide_eq_true (by kernel_rfl)) (by unfold Func.isWrapper; first | (rw [if_pos (by decide +kernel)]; kernel_rfl) | (rw [if_neg (by decide +kernel)]; exact ⟨rfl, rfl⟩))
    (fun os started H enc _ => short4_lifted X Y N os started H enc)

end Go.Proofs.Ytfnmplipbgdniaa
