/-
  The statement BookNil out of the contracts.
-/
import Derived.Test.YtfjlepnodmeaaaaBNil
import Derived.Test.YtfjlepnodmeaaaaRow
namespace Go.Proofs.Ytfjlepnodmeaaaa
open Go.ChangeShapes Go.WideShapes Go.ChangeAt Go.RowKit

theorem okWide_struct4 {P : Program} {w : World} {r : Reach} {base : Nat} {t : TypeId} {fs : Array Field} {v : Value} (ht : P.underlying t = some (.struct fs)) (hc : P.cellsOf t = 4) (h : Value.okWide P w r base t v) : ∃ c0 c1 c2 c3, v = .agg #[c0, c1, c2, c3] := by
  simp only [Value.okWide, ht] at h
  obtain ⟨⟨l⟩, h1, h2, _⟩ := h
  rw [hc] at h2
  match l, h2 with
  | [c0, c1, c2, c3], _ => exact ⟨c0, c1, c2, c3, h1⟩

set_option maxRecDepth 100000 in
theorem nil5_lifted {X : EncSpec} {Y : DecSpec} (Z : BookSpec X Y) (os : Os) (started : os.Started) (H : Type) (enc : TypeId × Value → H) :
    ReturnsInHanded {} Try.checked os 8 .any (Rows.bookNilSpec.pre6 enc Try.prog Try.f8 Rows.bookNilRow.domain false) (Rows.bookNilSpec.post enc Try.prog Try.f8 false true false false) := by
  refine law_lift (C := Try.checked) own_knob started (by kernel_rfl) Try.func8
    (ChangeSpec.witness6 (enc := enc) (C := Try.checked) false ⟨#[], #[.agg #[.int .i64 0, .int .i64 0, .int .i64 0, .int .i64 0]], []⟩ 8 (by kernel_rfl) (by kernel_rfl) (by kernel_rfl) (by kernel_rfl))
    laid_out rfl rfl Try.underlying4 (of_decide_eq_true (by kernel_rfl)) ?_
  intro W base args ds before hval0 hA0 hlt
  have hval : ∀ (j : Nat) t v, Try.f8.params[j]? = some t → args[j]? = some v → Value.okWide Try.prog W .any base t v := hval0
  have hA : DataW.TrodAll enc Try.prog W 0 (fun _ => true) true Try.f8.params.toList args.toList ds before := hA0
  rw [Try.params8] at hA hval
  obtain ⟨v0, d0, rfl, rfl, fuel0, h0⟩ := trodAll_one hA
  obtain ⟨m0, m1, m2, m3, rfl⟩ := okWide_struct4 Try.underlying33 (by kernel_rfl) (hval 0 _ _ rfl rfl)
  obtain ⟨a, ea, hia⟩ := open_act5 h0
  have ea' : [m0, m1, m2, m3] = [.int .i64 a.1, .int .i64 a.2.1, .int .i64 a.2.2.1, .int .i64 a.2.2.2] := ea
  injection ea' with a1 ea'
  injection ea' with a2 ea'
  injection ea' with a3 ea'
  injection ea' with a4 _
  rw [a1, a2, a3, a4]
  exact ⟨rfl, (nil5_law Z a W hia).mono fun e W' ⟨he, hf⟩ => ⟨he, hf.below (by simp) (Nat.le_refl _)⟩⟩

theorem nil5_holds_of {X : EncSpec} {Y : DecSpec} (Z : BookSpec X Y) : Rows.BookNilSaid :=
  OpenClaim.holds_of_wide 8 Try.f8 rfl rfl rfl rfl rfl rfl rfl ⟨rfl, rfl, rfl, rfl, rfl⟩ rfl rfl rfl rfl rfl (by kernel_rfl) Try.func8 (by kernel_rfl)
    (of_decide_eq_true (by kernel_rfl)) (by unfold Func.isWrapper; first | (rw [if_pos (by decide +kernel)]; kernel_rfl) | (rw [if_neg (by decide +kernel)]; exact ⟨rfl, rfl⟩))
    (fun os started H enc _ => nil5_lifted Z os started H enc)
end Go.Proofs.Ytfjlepnodmeaaaa
