/-
  The law QuantBlocks answers true whatever its input, and leaves its arguments as they were; no condition.
-/
import Derived.Test.YtendcmdpmohacaaAll1
import Derived.Test.YtendcmdpmohacaaAll2
import Derived.Test.YtendcmdpmohacaaAll3
import Derived.Test.YtendcmdpmohacaaAll4
import Derived.Test.YtendcmdpmohacaaAll5
/-
  The law QuantBlocks, out of the contracts: true whatever its input.
-/
namespace Go.Proofs.Ytendcmdpmohacaa
open Go.RowKit

theorem coarseL_len (b : List Int) (q : Int) : (coarseL b q).1.length ≤ b.length := by
  unfold coarseL
  split
  · simp
  · simp
theorem fineL_len (b : List Int) (q : Int) : (fineL b q).1.length ≤ b.length := by
  unfold fineL fineN
  split
  · split
    · simp
    · simp
  · simp

set_option maxRecDepth 20000 in
set_option maxHeartbeats 8000000 in
theorem blocks8_law {X : EncSpec} {Y : DecSpec} (Z : QuantSpec X Y) (A : Option Addr) (c : Nat) (b : List Int) (q : Int) (w : World) (hs : Src w (.slice A b.length c) (b.map I64)) (hj : Js b) (hm : b.length ≤ 9223372036854775807) (hq : InI q) :
    Calls Try.prog 4 #[.slice A b.length c, .int .i64 q] w fun e w' => e = .returned (.bool true) ∧ Fr [] w w' := by
  have HA := Lib.hid fun W => alive8_any Z W
  obtain ⟨n, hn⟩ : ∃ n, n = b.length := ⟨_, rfl⟩
  by_cases h100 : 100 < b.length
  · have e1 : decide (100 < (n : Int)) = true := by simp; omega
    rw [← hn] at hm ⊢
    clear hs hj h100 hn hq
    go_enter Try.func4, Try.ntmps4
    go_wp2_with fail
    refine (HA.out _).mono ?_
    rintro e w1 ⟨rfl, hF1⟩
    have HF1 := Lib.hid hF1
    clear hF1
    go_wp2_with fail
    go_ret
    exact ⟨rfl, HF1.out⟩
  · have e1 : decide (100 < (n : Int)) = false := by simp; omega
    have H1 := Lib.hid fun W (hf : Fr [] w W) => Z.coarse W A c b q (hs.fr0 hf) (by omega) hj hq
    have H2 := Lib.hid fun W (hf : Fr [] w W) => rcoarse_any A c b q W (hs.fr0 hf) (by omega)
    have H3 := Lib.hid fun W (hf : Fr [] w W) => Z.fine W A c b q (hs.fr0 hf) (by omega) hj hq
    have H4 := Lib.hid fun W (hf : Fr [] w W) => rfine_any A c b q W (hs.fr0 hf) (by omega)
    have hXl := coarseL_len b q
    have hYl := fineL_len b q
    obtain ⟨X1, hX⟩ : ∃ X, X = coarseL b q := ⟨_, rfl⟩
    obtain ⟨Y1, hY⟩ : ∃ Y, Y = fineL b q := ⟨_, rfl⟩
    rw [← hX] at H1 H2 hXl
    rw [← hY] at H3 H4 hYl
    rw [← hn] at H1 H2 H3 H4 hXl hYl ⊢
    have hn100 : n ≤ 100 := by omega
    have HXl := Lib.hid hXl; have HYl := Lib.hid hYl
    clear hs hj hn h100 hX hY hXl hYl hm hq
    obtain ⟨X1, X2⟩ := X1
    obtain ⟨Y1, Y2⟩ := Y1
    simp only at HXl HYl
    have t1 : (X2 == X2) = true := by simp
    have t2 : (Y2 == Y2) = true := by simp
    go_enter Try.func4, Try.ntmps4
    go_wp2_with fail
    refine (H1.out _ (Fr.refl _ _)).mono ?_
    rintro e w2 ⟨A2, c2, rfl, hs2, hf2⟩
    simp only at hs2
    have HF2 := Lib.hid hf2; have HS2 := Lib.hid hs2
    clear hs2 hf2 H1
    go_wp2_with fail
    refine (H2.out _ HF2.out).mono ?_
    rintro e w3 ⟨A3, c3, rfl, hs3, hf3⟩
    simp only at hs3
    have HF3 := Lib.hid (HF2.out.trans hf3 (by simp)); have HS23 := Lib.hid (HS2.out.fr0 hf3); have HS3 := Lib.hid hs3
    clear hs3 hf3 H2 HF2 HS2
    go_wp2_with fail
    refine (H3.out _ HF3.out).mono ?_
    rintro e w4 ⟨A4, c4, rfl, hs4, hf4⟩
    simp only at hs4
    have HF4 := Lib.hid (HF3.out.trans hf4 (by simp)); have HS24 := Lib.hid (HS23.out.fr0 hf4); have HS34 := Lib.hid (HS3.out.fr0 hf4); have HS4 := Lib.hid hs4
    clear hs4 hf4 H3 HF3 HS23 HS3
    go_wp2_with fail
    refine (H4.out _ HF4.out).mono ?_
    rintro e w5 ⟨A5, c5, rfl, hs5, hf5⟩
    simp only at hs5
    have HF5 := Lib.hid (HF4.out.trans hf5 (by simp)); have HS25 := Lib.hid (HS24.out.fr0 hf5); have HS35 := Lib.hid (HS34.out.fr0 hf5); have HS45 := Lib.hid (HS4.out.fr0 hf5); have HS5 := Lib.hid hs5
    clear hs5 hf5 H4 HF4 HS24 HS34 HS4
    simp only
    go_wp2_with fail
    refine (HA.out _).mono ?_
    rintro e w6 ⟨rfl, hf6⟩
    have C1 := Lib.hid (fun W (hf : Fr [] w6 W) => rsame7_any A2 c2 X1 A3 c3 X1 W ((HS25.out.fr0 hf6).fr0 hf) ((HS35.out.fr0 hf6).fr0 hf) (by have := HXl.out; omega) (by have := HXl.out; omega))
    have C2 := Lib.hid (fun W (hf : Fr [] w6 W) => rsame7_any A4 c4 Y1 A5 c5 Y1 W ((HS45.out.fr0 hf6).fr0 hf) ((HS5.out.fr0 hf6).fr0 hf) (by have := HYl.out; omega) (by have := HYl.out; omega))
    have HF6 := Lib.hid (HF5.out.trans hf6 (by simp))
    rw [show decide (X1 = X1) = true by simp] at C1
    rw [show decide (Y1 = Y1) = true by simp] at C2
    clear hf6 HF5 HS25 HS35 HS45 HS5 HA
    go_wp2_with fail
    refine (C1.out _ (Fr.refl _ _)).mono ?_
    rintro e w7 ⟨rfl, hf7⟩
    have HF7 := Lib.hid hf7
    clear hf7 C1
    go_wp2_with fail
    refine (C2.out _ HF7.out).mono ?_
    rintro e w8 ⟨rfl, hf8⟩
    have HF8 := Lib.hid (HF6.out.trans (HF7.out.trans hf8 (by simp)) (by simp))
    clear hf8 C2 HF7 HF6
    go_wp2_with fail
    go_ret
    exact ⟨rfl, HF8.out⟩
end Go.Proofs.Ytendcmdpmohacaa

/-
  The statement QuantBlocks out of the contracts.
-/
namespace Go.Proofs.Ytendcmdpmohacaa
open Go.ChangeShapes Go.WideShapes Go.ChangeAt Go.RowKit

set_option maxRecDepth 100000 in
theorem blocks8_lifted {X : EncSpec} {Y : DecSpec} (Z : QuantSpec X Y) (os : Os) (started : os.Started) (H : Type) (enc : TypeId × Value → H) :
    ReturnsInHanded {} Try.checked os 4 .any (Rows.quantBlocksSpec.pre6 enc Try.prog Try.f4 Rows.quantBlocksRow.domain false) (Rows.quantBlocksSpec.post enc Try.prog Try.f4 false true false false) := by
  refine law_lift (C := Try.checked) own_knob started (by kernel_rfl) Try.func4
    (ChangeSpec.witness6 (enc := enc) (C := Try.checked) false ⟨#[], #[.slice none 0 0, .int .i64 0], []⟩ 8 (by kernel_rfl) (by kernel_rfl) (by kernel_rfl) (by kernel_rfl))
    laid_out rfl rfl Try.underlying4 (of_decide_eq_true (by kernel_rfl)) ?_
  intro W base args ds before hval0 hA0 hlt
  have hval : ∀ (j : Nat) t v, Try.f4.params[j]? = some t → args[j]? = some v → Value.okWide Try.prog W .any base t v := hval0
  have hA : DataW.TrodAll enc Try.prog W 0 (fun _ => true) true Try.f4.params.toList args.toList ds before := hA0
  rw [Try.params4] at hA hval
  obtain ⟨v0, v1, d0, d1, p0, p1, rfl, rfl, -, ⟨fuel0, h0⟩, h1⟩ := trodAll_two hA
  obtain ⟨A0, l0, c0, rfl⟩ := okWide_slice Try.underlying29 (hval 0 _ _ rfl rfl)
  obtain ⟨S0, n0, k0, b0, e0, hb0, hn0, hs0, hj0⟩ := open_ints (v := .slice A0 l0 c0) h0
  rw [e0]
  simp only [maxLen] at hn0
  subst hb0
  obtain ⟨z1, rfl, -, -, wz1⟩ := open_int Try.underlying3 (hval 1 _ _ rfl rfl) h1
  simp [Lit.wf, IntKind.min, IntKind.max, IntKind.signed, IntKind.bits] at wz1
  have j1 : InI z1 := by unfold InI; omega
  exact ⟨rfl, (blocks8_law Z S0 k0 b0 z1 W hs0 hj0 (by omega) j1).mono fun e W' ⟨he, hf⟩ => ⟨he, hf.below (by simp) (Nat.le_refl _)⟩⟩

theorem blocks8_holds_of {X : EncSpec} {Y : DecSpec} (Z : QuantSpec X Y) : Rows.QuantBlocksSaid :=
  OpenClaim.holds_of_wide 4 Try.f4 rfl rfl rfl rfl rfl rfl rfl ⟨rfl, rfl, rfl, rfl, rfl⟩ rfl rfl rfl rfl rfl (by kernel_rfl) Try.func4 (by kernel_rfl)
    (of_decide_eq_true (by kernel_rfl)) (by unfold Func.isWrapper; first | (rw [if_pos (by decide +kernel)]; kernel_rfl) | (rw [if_neg (by decide +kernel)]; exact ⟨rfl, rfl⟩))
    (fun os started H enc _ => blocks8_lifted Z os started H enc)
end Go.Proofs.Ytendcmdpmohacaa

/-
  The law QuantBlocks answers true whatever its input, and leaves its arguments as they were; no condition.
-/
namespace Go.Proofs.Ytendcmdpmohacaa
open Go.RowKit

theorem blocks8_holds : Rows.QuantBlocksSaid := blocks8_holds_of quantI
#print axioms blocks8_holds
end Go.Proofs.Ytendcmdpmohacaa
