/-
  The statement CoderReads out of the coder's contracts.
-/
import Derived.Test.YtfnmplipbgdniaaDReads
import Derived.Test.YtfnmplipbgdniaaActs
import Derived.Test.YtfnmplipbgdniaaRow
namespace Go.Proofs.Ytfnmplipbgdniaa
open Go.ChangeShapes Go.WideShapes Go.ChangeAt Go.RowKit

set_option maxRecDepth 100000 in
theorem reads4_lifted (X : EncSpec) (Y : DecSpec) (N : NextSpec) (os : Os) (started : os.Started) (H : Type) (enc : TypeId × Value → H) :
    ReturnsInHanded {} Try.checked os 4 .any (Rows.coderReadsSpec.pre6 enc Try.prog Try.f4 Rows.coderReadsRow.domain false) (Rows.coderReadsSpec.post enc Try.prog Try.f4 false true false false) := by
  refine law_lift (C := Try.checked) own_knob started (by kernel_rfl) Try.func4
    (ChangeSpec.witness6 (enc := enc) (C := Try.checked) false ⟨#[], #[.slice none 0 0, .slice none 0 0], []⟩ 8 (by kernel_rfl) (by kernel_rfl) (by kernel_rfl) (by kernel_rfl))
    laid_out rfl rfl Try.underlying4 (of_decide_eq_true (by kernel_rfl)) ?_
  intro W base args ds before hval0 hA0 hlt
  have hval : ∀ (j : Nat) t v, Try.f4.params[j]? = some t → args[j]? = some v → Value.okWide Try.prog W .any base t v := hval0
  have hA : DataW.TrodAll enc Try.prog W 0 (fun _ => true) true Try.f4.params.toList args.toList ds before := hA0
  rw [Try.params4] at hA hval
  obtain ⟨v0, v1, d0, d1, p0, p1, rfl, rfl, -, ⟨fuel0, h0⟩, ⟨fuel1, h1⟩⟩ := trodAll_two hA
  obtain ⟨A0, l0, c0, rfl⟩ := okWide_slice Try.underlying36 (hval 0 _ _ rfl rfl)
  obtain ⟨A1, l1, c1, rfl⟩ := okWide_slice Try.underlying22 (hval 1 _ _ rfl rfl)
  obtain ⟨Ab, n, cb, bs, e, hbl, hn, hs⟩ := open_bytes (v := .slice A0 l0 c0) h0
  obtain ⟨A, len, cap, acts, e2, hacts, hm⟩ := open_acts2 (v := .slice A1 l1 c1) h1
  rw [e, e2]
  simp only [maxLen] at hm hn
  refine ⟨rfl, ?_⟩
  by_cases h1 : 300 < n
  · exact (reads4_long X Y N Ab n cb A len cap W h1 (by omega)).mono fun e W' ⟨he, hf⟩ => ⟨he, hf.below (by simp) (Nat.le_refl _)⟩
  · by_cases h2 : n < 4
    · exact (reads4_short X Y N Ab n cb A len cap W h2).mono fun e W' ⟨he, hf⟩ => ⟨he, hf.below (by simp) (Nat.le_refl _)⟩
    · exact (reads4_law X Y N Ab n cb bs A len cap acts W hs hbl (by omega) (by omega) hacts (by omega)).mono fun e W' ⟨he, hf⟩ => ⟨he, hf.below (by simp) (Nat.le_refl _)⟩

theorem reads4_holds_of (X : EncSpec) (Y : DecSpec) (N : NextSpec) : Rows.CoderReadsSaid :=
  OpenClaim.holds_of_wide 4 Try.f4 rfl rfl rfl rfl rfl rfl rfl ⟨rfl, rfl, rfl, rfl, rfl⟩ rfl rfl rfl rfl rfl (by kernel_rfl) Try.func4 (by kernel_rfl)
    (of_decide_eq_true (by kernel_rfl)) (by unfold Func.isWrapper; first | (rw [if_pos (by decide +kernel)]; kernel_rfl) | (rw [if_neg (by decide +kernel)]; exact ⟨rfl, rfl⟩))
    (fun os started H enc _ => reads4_lifted X Y N os started H enc)

end Go.Proofs.Ytfnmplipbgdniaa
