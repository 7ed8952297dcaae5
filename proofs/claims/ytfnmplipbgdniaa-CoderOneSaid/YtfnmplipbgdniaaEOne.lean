/-
  The statement CoderOne out of the coder's contracts.
-/
import Derived.Test.YtfnmplipbgdniaaDOne
import Derived.Test.YtfnmplipbgdniaaActs
import Derived.Test.YtfnmplipbgdniaaRow
namespace Go.Proofs.Ytfnmplipbgdniaa
open Go.ChangeShapes Go.WideShapes Go.ChangeAt Go.RowKit

set_option maxRecDepth 100000 in
theorem one4_lifted (X : EncSpec) (Y : DecSpec) (N : NextSpec) (os : Os) (started : os.Started) (H : Type) (enc : TypeId × Value → H) :
    ReturnsInHanded {} Try.checked os 6 .any (Rows.coderOneSpec.pre6 enc Try.prog Try.f6 Rows.coderOneRow.domain false) (Rows.coderOneSpec.post enc Try.prog Try.f6 false true false false) := by
  refine law_lift (C := Try.checked) own_knob started (by kernel_rfl) Try.func6
    (ChangeSpec.witness6 (enc := enc) (C := Try.checked) false ⟨#[], #[.slice none 0 0, .slice none 0 0], []⟩ 8 (by kernel_rfl) (by kernel_rfl) (by kernel_rfl) (by kernel_rfl))
    laid_out rfl rfl Try.underlying4 (of_decide_eq_true (by kernel_rfl)) ?_
  intro W base args ds before hval0 hA0 hlt
  have hval : ∀ (j : Nat) t v, Try.f6.params[j]? = some t → args[j]? = some v → Value.okWide Try.prog W .any base t v := hval0
  have hA : DataW.TrodAll enc Try.prog W 0 (fun _ => true) true Try.f6.params.toList args.toList ds before := hA0
  rw [Try.params6] at hA hval
  obtain ⟨v0, v1, d0, d1, p0, p1, rfl, rfl, -, ⟨fuel0, h0⟩, ⟨fuel1, h1⟩⟩ := trodAll_two hA
  obtain ⟨A0, l0, c0, rfl⟩ := okWide_slice Try.underlying36 (hval 0 _ _ rfl rfl)
  obtain ⟨A1, l1, c1, rfl⟩ := okWide_slice Try.underlying22 (hval 1 _ _ rfl rfl)
  obtain ⟨Ab, n, cb, bs, e, hbl, hn, hs⟩ := open_bytes (v := .slice A0 l0 c0) h0
  obtain ⟨A, len, cap, acts, e2, hacts, hm⟩ := open_acts2 (v := .slice A1 l1 c1) h1
  rw [e, e2]
  simp only [maxLen] at hm hn
  refine ⟨rfl, ?_⟩
  by_cases h1 : 300 < n
  · exact (one_long X Y N Ab n cb A len cap W h1 (by omega)).mono fun e W' ⟨he, hf⟩ => ⟨he, hf.below (by simp) (Nat.le_refl _)⟩
  · by_cases h2 : n < 4
    · exact (one_short X Y N Ab n cb A len cap W h2).mono fun e W' ⟨he, hf⟩ => ⟨he, hf.below (by simp) (Nat.le_refl _)⟩
    · exact (one_law X Y N Ab n cb bs A len cap acts W hs hbl (by omega) (by omega) hacts (by omega)).mono fun e W' ⟨he, hf⟩ => ⟨he, hf.below (by simp) (Nat.le_refl _)⟩

theorem one4_holds_of (X : EncSpec) (Y : DecSpec) (N : NextSpec) : Rows.CoderOneSaid :=
  OpenClaim.holds_of_wide 6 Try.f6 rfl rfl rfl rfl rfl rfl rfl ⟨rfl, rfl, rfl, rfl, rfl⟩ rfl rfl rfl rfl rfl (by kernel_rfl) Try.func6 (by kernel_rfl)
    (of_decide_eq_true (by kernel_rfl)) (by unfold Func.isWrapper; first | (rw [if_pos (by decide +kernel)]; kernel_rfl) | (rw [if_neg (by decide +kernel)]; exact ⟨rfl, rfl⟩))
    (fun os started H enc _ => one4_lifted X Y N os started H enc)

end Go.Proofs.Ytfnmplipbgdniaa
