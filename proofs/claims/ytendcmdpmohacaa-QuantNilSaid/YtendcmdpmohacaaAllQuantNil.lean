/-
  The law QuantNil answers true whatever its input, and leaves its arguments as they were; no condition.
-/
import Derived.Test.YtendcmdpmohacaaAll1
import Derived.Test.YtendcmdpmohacaaAll2
import Derived.Test.YtendcmdpmohacaaAll3
import Derived.Test.YtendcmdpmohacaaAll4
import Derived.Test.YtendcmdpmohacaaAll5
/-
  The law QuantNil, out of the contracts: true whatever its input.
-/
namespace Go.Proofs.Ytendcmdpmohacaa
open Go.RowKit

set_option maxRecDepth 20000 in
set_option maxHeartbeats 8000000 in
theorem nil8_law {X : EncSpec} {Y : DecSpec} (Z : QuantSpec X Y) (A : Option Addr) (c : Nat) (b : List Int) (t : Int) (w : World) (hs : Src w (.slice A b.length c) (b.map I64)) (hj : Js b) (hm : b.length ≤ 9223372036854775807) (ht : InI t) :
    Calls Try.prog 8 #[.slice A b.length c, .int .i64 t] w fun e w' => e = .returned (.bool true) ∧ Fr [] w w' := by
  have HA := Lib.hid fun W => alive8_any Z W
  obtain ⟨n, hn⟩ : ∃ n, n = b.length := ⟨_, rfl⟩
  by_cases h100 : 100 < b.length
  · have e1 : decide (100 < (n : Int)) = true := by simp; omega
    rw [← hn] at hm ⊢
    clear hs hj h100 hn ht
    go_enter Try.func8, Try.ntmps8
    go_wp2_with fail
    refine (HA.out _).mono ?_
    rintro e w1 ⟨rfl, hF1⟩
    have HF1 := Lib.hid hF1
    clear hF1
    go_wp2_with fail
    go_ret
    exact ⟨rfl, HF1.out⟩
  · have e1 : decide (100 < (n : Int)) = false := by simp; omega
    have H1 := Lib.hid fun W => Z.getNilB W t 16 ht ⟨by omega, by omega⟩
    have H2 := Lib.hid fun W o C (ho : Z.Bo W o C) => Z.getNilX W o C t 64 ho ht ⟨by omega, by omega⟩
    have H3 := Lib.hid fun W p D e (he : X.En W p D e) (hf : Fr [] w W) => Z.putNilB W p D e A c b t he (hs.fr0 hf) (by omega) hj ht
    have H4 := Lib.hid fun W o C (ho : Z.Bo W o C) (hf : Fr [] w W) => Z.putNilX W o C A c b t ho (hs.fr0 hf) (by omega) hj ht
    rw [← hn] at H3 H4 ⊢
    have hn100 : n ≤ 100 := by omega
    clear hs hj hn h100 hm ht
    go_enter Try.func8, Try.ntmps8
    go_wp2_with fail
    refine (H1.out _).mono ?_
    rintro e w1 ⟨⟨A1, c1, rfl⟩, hf1⟩
    have HF1 := Lib.hid hf1
    clear hf1 H1
    go_wp2_with fail
    refine (Z.new _).mono ?_
    rintro e w2 ⟨o, rfl, ho, hf2, -⟩
    have HF2 := Lib.hid (HF1.out.trans hf2 (by simp)); have HO := Lib.hid ho
    clear hf2 HF1 ho
    go_wp2_with fail
    refine (H2.out _ _ _ HO.out).mono ?_
    rintro e w3 ⟨⟨A3, c3, rfl⟩, hf3⟩
    have HF3 := Lib.hid (HF2.out.trans hf3 (by simp))
    clear hf3 H2 HF2 HO
    go_wp2_with fail
    refine (HA.out _).mono ?_
    rintro e w4 ⟨rfl, hf4⟩
    have HF4 := Lib.hid (HF3.out.trans hf4 (by simp))
    clear hf4 HF3 HA
    go_wp2_with fail
    refine (X.new _).mono ?_
    rintro e w5 ⟨p, D, rfl, he, hf5, -⟩
    have HF5 := Lib.hid (HF4.out.trans hf5 (by simp)); have HE := Lib.hid he
    clear hf5 HF4 he
    go_wp2_with fail
    refine (H3.out _ _ _ _ HE.out HF5.out).mono ?_
    rintro e w6 ⟨rfl, hf6⟩
    have HF6 := Lib.hid (HF5.out.trans hf6 (by simp))
    clear hf6 HF5 HE H3
    go_wp2_with fail
    refine (Z.new _).mono ?_
    rintro e w7 ⟨o2, rfl, ho, hf7, -⟩
    have HF7 := Lib.hid (HF6.out.trans hf7 (by simp)); have HO := Lib.hid ho
    clear hf7 HF6 ho
    go_wp2_with fail
    refine (H4.out _ _ _ HO.out HF7.out).mono ?_
    rintro e w8 ⟨rfl, hf8⟩
    have HF8 := Lib.hid (HF7.out.trans hf8 (by simp))
    clear hf8 HF7 HO H4
    go_wp2_with fail
    go_ret
    exact ⟨rfl, HF8.out⟩
end Go.Proofs.Ytendcmdpmohacaa

/-
  The statement QuantNil out of the contracts.
-/
namespace Go.Proofs.Ytendcmdpmohacaa
open Go.ChangeShapes Go.WideShapes Go.ChangeAt Go.RowKit

set_option maxRecDepth 100000 in
theorem nil8_lifted {X : EncSpec} {Y : DecSpec} (Z : QuantSpec X Y) (os : Os) (started : os.Started) (H : Type) (enc : TypeId × Value → H) :
    ReturnsInHanded {} Try.checked os 8 .any (Rows.quantNilSpec.pre6 enc Try.prog Try.f8 Rows.quantNilRow.domain false) (Rows.quantNilSpec.post enc Try.prog Try.f8 false true false false) := by
  refine law_lift (C := Try.checked) own_knob started (by kernel_rfl) Try.func8
    (ChangeSpec.witness6 (enc := enc) (C := Try.checked) false ⟨#[], #[.slice none 0 0, .int .i64 0], []⟩ 8 (by kernel_rfl) (by kernel_rfl) (by kernel_rfl) (by kernel_rfl))
    laid_out rfl rfl Try.underlying4 (of_decide_eq_true (by kernel_rfl)) ?_
  intro W base args ds before hval0 hA0 hlt
  have hval : ∀ (j : Nat) t v, Try.f8.params[j]? = some t → args[j]? = some v → Value.okWide Try.prog W .any base t v := hval0
  have hA : DataW.TrodAll enc Try.prog W 0 (fun _ => true) true Try.f8.params.toList args.toList ds before := hA0
  rw [Try.params8] at hA hval
  obtain ⟨v0, v1, d0, d1, p0, p1, rfl, rfl, -, ⟨fuel0, h0⟩, h1⟩ := trodAll_two hA
  obtain ⟨A0, l0, c0, rfl⟩ := okWide_slice Try.underlying29 (hval 0 _ _ rfl rfl)
  obtain ⟨S0, n0, k0, b0, e0, hb0, hn0, hs0, hj0⟩ := open_ints (v := .slice A0 l0 c0) h0
  rw [e0]
  simp only [maxLen] at hn0
  subst hb0
  obtain ⟨z1, rfl, -, -, wz1⟩ := open_int Try.underlying3 (hval 1 _ _ rfl rfl) h1
  simp [Lit.wf, IntKind.min, IntKind.max, IntKind.signed, IntKind.bits] at wz1
  have j1 : InI z1 := by unfold InI; omega
  exact ⟨rfl, (nil8_law Z S0 k0 b0 z1 W hs0 hj0 (by omega) j1).mono fun e W' ⟨he, hf⟩ => ⟨he, hf.below (by simp) (Nat.le_refl _)⟩⟩

theorem nil8_holds_of {X : EncSpec} {Y : DecSpec} (Z : QuantSpec X Y) : Rows.QuantNilSaid :=
  OpenClaim.holds_of_wide 8 Try.f8 rfl rfl rfl rfl rfl rfl rfl ⟨rfl, rfl, rfl, rfl, rfl⟩ rfl rfl rfl rfl rfl (by kernel_rfl) Try.func8 (by kernel_rfl)
    (of_decide_eq_true (by kernel_rfl)) (by unfold Func.isWrapper; first | (rw [if_pos (by decide +kernel)]; kernel_rfl) | (rw [if_neg (by decide +kernel)]; exact ⟨rfl, rfl⟩))
    (fun os started H enc _ => nil8_lifted Z os started H enc)
end Go.Proofs.Ytendcmdpmohacaa

/-
  The law QuantNil answers true whatever its input, and leaves its arguments as they were; no condition.
-/
namespace Go.Proofs.Ytendcmdpmohacaa
open Go.RowKit

theorem nil8_holds : Rows.QuantNilSaid := nil8_holds_of quantI
#print axioms nil8_holds
end Go.Proofs.Ytendcmdpmohacaa
