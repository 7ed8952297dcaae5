/-
  The statement CoderNil out of the coder's contracts.
-/
import Derived.Test.YtfnmplipbgdniaaDNil
import Derived.Test.YtfnmplipbgdniaaRow
namespace Go.Proofs.Ytfnmplipbgdniaa
open Go.ChangeShapes Go.WideShapes Go.ChangeAt Go.RowKit

theorem okWide_struct2 {P : Program} {w : World} {r : Reach} {base : Nat} {t : TypeId} {fs : Array Field} {v : Value} (ht : P.underlying t = some (.struct fs)) (hc : P.cellsOf t = 2) (h : Value.okWide P w r base t v) : ∃ c0 c1, v = .agg #[c0, c1] := by
  simp only [Value.okWide, ht] at h
  obtain ⟨⟨l⟩, h1, h2, _⟩ := h
  rw [hc] at h2
  match l, h2 with
  | [c0, c1], _ => exact ⟨c0, c1, h1⟩

set_option maxRecDepth 100000 in
theorem nil4_lifted (X : EncSpec) (Y : DecSpec) (N : NextSpec) (os : Os) (started : os.Started) (H : Type) (enc : TypeId × Value → H) :
    ReturnsInHanded {} Try.checked os 9 .any (Rows.coderNilSpec.pre6 enc Try.prog Try.f9 Rows.coderNilRow.domain false) (Rows.coderNilSpec.post enc Try.prog Try.f9 false true false false) := by
  refine law_lift (C := Try.checked) own_knob started (by kernel_rfl) Try.func9
    (ChangeSpec.witness6 (enc := enc) (C := Try.checked) false ⟨#[], #[.agg #[.int .i64 0, .int .i64 0]], []⟩ 8 (by kernel_rfl) (by kernel_rfl) (by kernel_rfl) (by kernel_rfl))
    laid_out rfl rfl Try.underlying4 (of_decide_eq_true (by kernel_rfl)) ?_
  intro W base args ds before hval0 hA0 hlt
  have hval : ∀ (j : Nat) t v, Try.f9.params[j]? = some t → args[j]? = some v → Value.okWide Try.prog W .any base t v := hval0
  have hA : DataW.TrodAll enc Try.prog W 0 (fun _ => true) true Try.f9.params.toList args.toList ds before := hA0
  rw [Try.params9] at hA hval
  obtain ⟨v0, d0, rfl, rfl, fuel, h0⟩ := trodAll_one hA
  obtain ⟨m0, m1, rfl⟩ := okWide_struct2 Try.underlying28 (by kernel_rfl) (hval 0 _ _ rfl rfl)
  obtain ⟨c, b, e, -, -⟩ := open_act2 h0
  have e' : [m0, m1] = [.int .i64 c, .int .i64 b] := e
  injection e' with a1 a2
  injection a2 with a2 _
  subst a1 a2
  exact ⟨rfl, (nil4_law X Y N c b W).mono fun e W' ⟨he, hf⟩ => ⟨he, hf.below (by simp) (Nat.le_refl _)⟩⟩

theorem nil4_holds_of (X : EncSpec) (Y : DecSpec) (N : NextSpec) : Rows.CoderNilSaid :=
  OpenClaim.holds_of_wide 9 Try.f9 rfl rfl rfl rfl rfl rfl rfl ⟨rfl, rfl, rfl, rfl, rfl⟩ rfl rfl rfl rfl rfl (by kernel_rfl) Try.func9 (by kernel_rfl)
    (of_decide_eq_true (by kernel_rfl)) (by unfold Func.isWrapper; first | (rw [if_pos (by decide +kernel)]; kernel_rfl) | (rw [if_neg (by decide +kernel)]; exact ⟨rfl, rfl⟩))
    (fun os started H enc _ => nil4_lifted X Y N os started H enc)

end Go.Proofs.Ytfnmplipbgdniaa
