/-
  The law BitsNil answers true whatever its input, and leaves its argument as it was; no condition.
-/
import Derived.Test.YtgdfjoionaedgaaBits7
import Derived.Test.YtgdfjoionaedgaaLaw
import Derived.Lib.SmallJoins
namespace Go.Proofs.Ytgdfjoionaedgaa
open Go.ChangeShapes Go.WideShapes Go.ChangeAt Go.RowKit

theorem nil_any (k n v : Int) (w : World) :
    Calls Try.prog 8 #[.agg #[.int .i64 k, .int .i64 n, .int .u64 v]] w fun e w' => e = .returned (.bool true) ∧ Fr [] w w' := by
  go_enter Try.func8, Try.ntmps8
  go_wp2_with fail
  refine (get_nil _ _).mono ?_
  rintro e w1 ⟨rfl, rfl⟩
  go_wp2_with fail
  obtain ⟨W1, hW1⟩ : ∃ W1, W1 = w.alloc (.cells #[.int .i64 k, .int .i64 n, .int .u64 v] 31) := ⟨_, rfl⟩
  rw [← hW1]
  have hB : Blk W1 w.heap.size 31 #[.int .i64 k, .int .i64 n, .int .u64 v] := by rw [hW1]; exact Blk.new _ _ _
  have hF : Fr [] w W1 := by rw [hW1]; exact (Fr.refl _ _).alloc _
  clear hW1
  refine (alive_any _).mono ?_
  rintro e w2 ⟨rfl, hF2⟩
  have hB2 := hB.fr hF2 (by simp)
  have hF' := hF.trans hF2 (by simp)
  have c1 := hB2.cell 1
  have c2 := hB2.cell 2
  simp at c1 c2
  generalize w.heap.size = g at *
  clear hB hF hF2 hB2
  go_wp2_with fail
  refine (put_nil _ _ _).mono ?_
  rintro e w3 ⟨rfl, rfl⟩
  go_wp2_with fail
  refine (walign_nil _).mono ?_
  rintro e w4 ⟨rfl, rfl⟩
  go_wp2_with fail
  refine (wlen_nil _).mono ?_
  rintro e w4 ⟨rfl, rfl⟩
  go_wp2_with fail
  refine (bytes_nil _).mono ?_
  rintro e w4 ⟨rfl, rfl⟩
  go_wp2_with fail
  refine (ralign_nil _).mono ?_
  rintro e w4 ⟨rfl, rfl⟩
  go_wp2_with fail
  refine (at_nil _).mono ?_
  rintro e w4 ⟨rfl, rfl⟩
  go_wp2_with fail
  refine (left_nil _).mono ?_
  rintro e w4 ⟨rfl, rfl⟩
  go_wp2_with fail
  refine (rest_nil _).mono ?_
  rintro e w4 ⟨rfl, rfl⟩
  go_wp2_with fail
  go_ret
  exact ⟨rfl, hF'⟩

theorem own_knob : ownKnob Try.prog.godebug = none := by kernel_rfl
theorem laid_out : laidOutB Try.prog = true := by kernel_rfl

set_option maxRecDepth 100000 in
theorem nil_lifted (os : Os) (started : os.Started) (H : Type) (enc : TypeId × Value → H) :
    ReturnsInHanded {} Try.checked os 8 .any (Rows.bitsNilSpec.pre6 enc Try.prog Try.f8 Rows.bitsNilRow.domain false) (Rows.bitsNilSpec.post enc Try.prog Try.f8 false true false false) := by
  refine law_lift (C := Try.checked) own_knob started (by kernel_rfl) Try.func8
    (ChangeSpec.witness6 (enc := enc) (C := Try.checked) false ⟨#[], #[.agg #[.int .i64 0, .int .i64 0, .int .u64 0]], []⟩ 8 (by kernel_rfl) (by kernel_rfl) (by kernel_rfl) (by kernel_rfl))
    laid_out rfl rfl Try.underlying4 (of_decide_eq_true (by kernel_rfl)) ?_
  intro W base args ds before hval0 hA0 hlt
  have hval : ∀ (j : Nat) t v, Try.f8.params[j]? = some t → args[j]? = some v → Value.okWide Try.prog W .any base t v := hval0
  have hA : DataW.TrodAll enc Try.prog W 0 (fun _ => true) true Try.f8.params.toList args.toList ds before := hA0
  rw [Try.params8] at hA hval
  obtain ⟨v0, d0, rfl, rfl, h0⟩ := trodAll_one hA
  obtain ⟨c0, c1, c2, y0, y1, y2, n, rfl, rfl, -, g0, g1, g2⟩ := Joins.open_agg3 Try.underlying31 (by kernel_rfl) (by kernel_rfl) (hval 0 _ _ rfl rfl) h0
  obtain ⟨k, e0, -⟩ := DataW.trod_int Try.underlying3 g0
  obtain ⟨m, e1, -⟩ := DataW.trod_int Try.underlying3 g1
  obtain ⟨v, e2, -⟩ := DataW.trod_int Try.underlying29 g2
  obtain rfl : c0 = .int .i64 k := by simpa using e0
  obtain rfl : c1 = .int .i64 m := by simpa using e1
  obtain rfl : c2 = .int .u64 v := by simpa using e2
  exact ⟨rfl, (nil_any k m v W).mono fun e W' ⟨he, hf⟩ => ⟨he, hf.below (by simp) (Nat.le_refl _)⟩⟩

theorem nil_holds : Rows.BitsNilSaid :=
  OpenClaim.holds_of_wide 8 Try.f8 rfl rfl rfl rfl rfl rfl rfl ⟨rfl, rfl, rfl, rfl, rfl⟩ rfl rfl rfl rfl rfl (by kernel_rfl) Try.func8 (by kernel_rfl)
    (of_decide_eq_true (by kernel_rfl)) (by unfold Func.isWrapper; first | (rw [if_pos (by decide +kernel)]; kernel_rfl) | (rw [if_neg (by decide +kernel)]; exact ⟨rfl, rfl⟩))
    (fun os started H enc _ => nil_lifted os started H enc)
#print axioms nil_holds
end Go.Proofs.Ytgdfjoionaedgaa
