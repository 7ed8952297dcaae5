/-
  The law GolombTells answers true whatever its input, and leaves its arguments as they were; no condition.
-/
import Derived.Test.YtpdmjgcheigooaaGolA
import Derived.Test.YtpdmjgcheigooaaRow
import Derived.Test.YtpdmjgcheigooaaActs
namespace Go.Proofs.Ytpdmjgcheigooaa
open Go.ChangeShapes Go.WideShapes Go.ChangeAt Go.RowKit

/-- What a fold answers. -/
def foldsTo (x : Int) : Nat × Bool := if folds x then (folded x, true) else (0, false)
theorem gfold_total (x : Int) (w : World) : Calls Try.prog 10 #[.int .i64 x] w fun e w' => e = .returned (.tuple #[.int .u64 ((foldsTo x).1 : Int), .bool (foldsTo x).2]) ∧ w' = w := by
  unfold foldsTo
  by_cases h : folds x
  · rw [if_pos h]; exact gfold_in x w h
  · rw [if_neg h]; exact gfold_out x w h
theorem rfold_total (x : Int) (w : World) : Calls Try.prog 11 #[.int .i64 x] w fun e w' => e = .returned (.tuple #[.int .u64 ((foldsTo x).1 : Int), .bool (foldsTo x).2]) ∧ w' = w := by
  unfold foldsTo
  by_cases h : folds x
  · rw [if_pos h]; exact rfold_in x w h
  · rw [if_neg h]; exact rfold_out x w h
theorem gunfold_total (v : Nat) (w : World) : Calls Try.prog 14 #[.int .u64 (v : Int)] w fun e w' => e = .returned (.int .i64 (unfolded v)) ∧ w' = w := by
  by_cases h : 4294967294 < v
  · have e : unfolded v = 0 := if_pos h
    rw [e]; exact gunfold_big v w h
  · exact gunfold_any v w (by omega)
/-- A code's length, and none. -/
def glen (v : Nat) : Nat := if 4294967294 < v then 0 else clen v
theorem glen_total (v : Nat) (w : World) : Calls Try.prog 13 #[.int .u64 (v : Int)] w fun e w' => e = .returned (.int .i64 (glen v : Int)) ∧ w' = w := by
  unfold glen
  by_cases h : 4294967294 < v
  · rw [if_pos h]; exact glen_big v w h
  · rw [if_neg h]; exact glen_any v w (by omega)

set_option maxHeartbeats 1000000 in
theorem gtells_any (v : Nat) (x : Int) (w : World) (hv : v < 18446744073709551616) :
    Calls Try.prog 3 #[.int .u64 (v : Int), .int .i64 x] w fun e w' => e = .returned (.bool true) ∧ Fr [] w w' := by
  have HL := fun w => Lib.hid (glen_total v w)
  have HFo := fun w => Lib.hid (gfold_total x w)
  have HRf := fun w => Lib.hid (rfold_total x w)
  have HU := fun w => Lib.hid (gunfold_total v w)
  have HRu := fun w => Lib.hid (runfold_any v w hv)
  generalize foldsTo x = fx at *
  obtain ⟨F1, F2⟩ := fx
  simp only at HFo HRf
  generalize unfolded v = U at *
  by_cases h : 4294967294 < v
  · have eg : glen v = 0 := if_pos h
    rw [eg] at HL
    clear eg
    go_enter Try.func3, Try.ntmps3
    go_wp2_with fail
    refine (HFo _).out.mono ?_
    rintro e w1 ⟨rfl, rfl⟩
    go_wp2_with fail
    refine (HRf _).out.mono ?_
    rintro e w2 ⟨rfl, rfl⟩
    go_wp2_with fail
    refine (alive2_any _).mono ?_
    rintro e w3 ⟨rfl, hF⟩
    go_wp2_with fail
    refine (HL _).out.mono ?_
    rintro e w4 ⟨rfl, rfl⟩
    go_wp2_with fail
    refine (HU _).out.mono ?_
    rintro e w5 ⟨rfl, rfl⟩
    go_wp2_with fail
    refine (HRu _).out.mono ?_
    rintro e w6 ⟨rfl, rfl⟩
    go_wp2_with fail
    go_ret
    exact ⟨rfl, hF⟩
  · have eg : glen v = clen v := if_neg h
    rw [eg] at HL
    clear eg
    have HC := Lib.hid (rcode_any v w (by omega))
    generalize clen v = C at *
    go_enter Try.func3, Try.ntmps3
    go_wp2_with fail
    refine HC.out.mono ?_
    rintro e w0 ⟨c, rfl, -, hF0⟩
    go_wp2_with fail
    refine (HFo _).out.mono ?_
    rintro e w1 ⟨rfl, rfl⟩
    go_wp2_with fail
    refine (HRf _).out.mono ?_
    rintro e w2 ⟨rfl, rfl⟩
    go_wp2_with fail
    refine (alive2_any _).mono ?_
    rintro e w3 ⟨rfl, hF⟩
    go_wp2_with fail
    refine (HL _).out.mono ?_
    rintro e w4 ⟨rfl, rfl⟩
    go_wp2_with fail
    refine (HU _).out.mono ?_
    rintro e w5 ⟨rfl, rfl⟩
    go_wp2_with fail
    refine (HRu _).out.mono ?_
    rintro e w6 ⟨rfl, rfl⟩
    go_wp2_with fail
    go_ret
    exact ⟨rfl, hF0.trans hF (by simp)⟩

set_option maxRecDepth 100000 in
theorem gtells_lifted (os : Os) (started : os.Started) (H : Type) (enc : TypeId × Value → H) :
    ReturnsInHanded {} Try.checked os 3 .any (Rows.golombTellsSpec.pre6 enc Try.prog Try.f3 Rows.golombTellsRow.domain false) (Rows.golombTellsSpec.post enc Try.prog Try.f3 false true false false) := by
  refine law_lift (C := Try.checked) own_knob started (by kernel_rfl) Try.func3
    (ChangeSpec.witness6 (enc := enc) (C := Try.checked) false ⟨#[], #[.int .u64 0, .int .i64 0], []⟩ 8 (by kernel_rfl) (by kernel_rfl) (by kernel_rfl) (by kernel_rfl))
    laid_out rfl rfl Try.underlying4 (of_decide_eq_true (by kernel_rfl)) ?_
  intro W base args ds before hval0 hA0 hlt
  have hval : ∀ (j : Nat) t v, Try.f3.params[j]? = some t → args[j]? = some v → Value.okWide Try.prog W .any base t v := hval0
  have hA : DataW.TrodAll enc Try.prog W 0 (fun _ => true) true Try.f3.params.toList args.toList ds before := hA0
  rw [Try.params3] at hA hval
  obtain ⟨v0, v1, d0, d1, p0, p1, rfl, rfl, -, h0, h1⟩ := trodAll_two hA
  obtain ⟨a, rfl, -, -, wa⟩ := open_int Try.underlying22 (hval 0 _ _ rfl rfl) h0
  obtain ⟨b, rfl, -, -, wb⟩ := open_int Try.underlying2 (hval 1 _ _ rfl rfl) h1
  obtain ⟨v, rfl, hv⟩ := u64_nat wa
  exact ⟨rfl, (gtells_any v b W hv).mono fun e W' ⟨he, hf⟩ => ⟨he, hf.below (by simp) (Nat.le_refl _)⟩⟩

theorem gtells_holds : Rows.GolombTellsSaid :=
  OpenClaim.holds_of_wide 3 Try.f3 rfl rfl rfl rfl rfl rfl rfl ⟨rfl, rfl, rfl, rfl, rfl⟩ rfl rfl rfl rfl rfl (by kernel_rfl) Try.func3 (by kernel_rfl)
    (of_decide_eq_true (by kernel_rfl)) (by unfold Func.isWrapper; first | (rw [if_pos (by decide +kernel)]; kernel_rfl) | (rw [if_neg (by decide +kernel)]; exact ⟨rfl, rfl⟩))
    (fun os started H enc _ => gtells_lifted os started H enc)
#print axioms gtells_holds
end Go.Proofs.Ytpdmjgcheigooaa
