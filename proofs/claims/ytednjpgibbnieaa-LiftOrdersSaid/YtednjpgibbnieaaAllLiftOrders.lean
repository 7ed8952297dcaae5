/-
  The law LiftOrders answers true whatever its input, and leaves its arguments as they were; no condition.
-/
import Derived.Test.YtednjpgibbnieaaAll1
import Derived.Test.YtednjpgibbnieaaAll2
/-
  A block out of its order, and back. Plain.
-/
namespace Go.Proofs.Ytednjpgibbnieaa

theorem sortL_length (b : List Int) : (sortL b).length = (orderL (sideN b.length)).length := by simp [sortL]
theorem unsortL_length (b : List Int) : (unsortL b).length = (orderL (sideN b.length)).length := by simp [unsortL]
theorem sortL_at {b : List Int} {i : Nat} (h : i < (orderL (sideN b.length)).length) : numAt (sortL b) i = numAt b ((orderL (sideN b.length)).getD i 0) := by
  unfold sortL
  unfold numAt
  rw [List.getD_eq_getElem?_getD, List.getElem?_map, List.getElem?_eq_getElem h, List.getD_eq_getElem?_getD (l := orderL _), List.getElem?_eq_getElem h]
  rfl
theorem unsortL_at {b : List Int} {p : Nat} (h : p < (orderL (sideN b.length)).length) : numAt (unsortL b) p = numAt b ((orderL (sideN b.length)).idxOf p) := numAt_map h
theorem sorts {b : List Int} (h : Once (orderL (sideN b.length)) b.length) : (sortL b).length = b.length ∧ (unsortL b).length = b.length ∧ unsortL (sortL b) = b ∧ sortL (unsortL b) = b := by
  have l1 : (sortL b).length = b.length := by rw [sortL_length, h.len]
  have l2 : (unsortL b).length = b.length := by rw [unsortL_length, h.len]
  refine ⟨l1, l2, ?_, ?_⟩
  · apply num_ext
    · rw [unsortL_length, l1, h.len]
    · intro p hp
      rw [unsortL_length, l1, h.len] at hp
      obtain ⟨h1, h2⟩ := h.here p hp
      rw [unsortL_at (by rw [l1, h.len]; exact hp), l1, sortL_at (by rw [h.len]; exact h1), h2]
  · apply num_ext
    · rw [sortL_length, l2, h.len]
    · intro i hi
      rw [sortL_length, l2, h.len] at hi
      rw [sortL_at (by rw [l2, h.len]; exact hi), l2, unsortL_at (by rw [h.len]; exact h.lt i hi), h.back i hi]
end Go.Proofs.Ytednjpgibbnieaa

/-
  The law LiftOrders, out of the contracts: true whatever its input.
-/
namespace Go.Proofs.Ytednjpgibbnieaa
open Go.RowKit

theorem js_sort {b : List Int} (h : Js b) : Js (sortL b) := by
  intro i hi
  rw [sortL_length] at hi
  rw [sortL_at hi]
  exact h _ (once_lt hi).1
theorem js_unsort {b : List Int} (h : Js b) : Js (unsortL b) := by
  intro p hp
  rw [unsortL_length] at hp
  rw [unsortL_at hp]
  rcases once_of b.length with ⟨e, -⟩ | ho
  · rw [e] at hp; simp at hp
  · rw [ho.len] at hp
    exact h _ (ho.here p hp).1

set_option maxRecDepth 20000 in
set_option maxHeartbeats 8000000 in
theorem orders7_law (Z : LiftSpec) (m : Int) (A : Option Addr) (c : Nat) (b : List Int) (w : World) (hi : InI m) (hs : Src w (.slice A b.length c) (b.map I64)) (hj : Js b) (hm : b.length ≤ 9223372036854775807) :
    Calls Try.prog 4 #[.int .i64 m, .slice A b.length c] w fun e w' => e = .returned (.bool true) ∧ Fr [] w w' := by
  have HA := Lib.hid fun W => alive7_any Z W
  obtain ⟨n, hn⟩ : ∃ n, n = b.length := ⟨_, rfl⟩
  by_cases h100 : 100 < b.length
  · have e1 : decide (100 < (n : Int)) = true := by simp; omega
    rw [← hn] at hm ⊢
    clear hs hj h100 hn
    go_enter Try.func4, Try.ntmps4
    go_wp2_with fail
    refine (HA.out _).mono ?_
    rintro e w1 ⟨rfl, hF1⟩
    have HF1 := Lib.hid hF1
    clear hF1
    go_wp2_with fail
    go_ret
    exact ⟨rfl, HF1.out⟩
  · have e1 : decide (100 < (n : Int)) = false := by simp; omega
    obtain ⟨S, hS⟩ : ∃ S, S = sortL b := ⟨_, rfl⟩
    obtain ⟨U, hU⟩ : ∃ U, U = unsortL b := ⟨_, rfl⟩
    obtain ⟨O, hO⟩ : ∃ O, O = ints (orderL m) := ⟨_, rfl⟩
    have hOl : O.length ≤ 1000 := by
      rw [hO, ints_length]
      unfold orderL
      split
      · rename_i h
        rw [orderN_to]
        have h1 := orderTo_len m.toNat (2 * m.toNat - 1)
        have h2 : (2 * m.toNat - 1) * m.toNat ≤ 16 * 8 := Nat.mul_le_mul (by omega) (by omega)
        omega
      · simp
    have hSl : S.length ≤ 100 := by rw [hS, sortL_length]; have := once_len b.length; omega
    have hUl : U.length ≤ 100 := by rw [hU, unsortL_length]; have := once_len b.length; omega
    have H1 := Lib.hid fun W (hf : Fr [] w W) => Z.sort W A c b (hs.fr0 hf) (by omega) hj
    have H2 := Lib.hid fun W (hf : Fr [] w W) => Z.unsort W A c b (hs.fr0 hf) (by omega) hj
    have H3 := Lib.hid fun W => Z.order W m hi
    have H4 := Lib.hid fun W => rorder7_any m W
    have H5 := Lib.hid fun W (hf : Fr [] w W) => rsort7_any A c b W (hs.fr0 hf) (by omega)
    have H6 := Lib.hid fun W (hf : Fr [] w W) => runsort7_any A c b W (hs.fr0 hf) (by omega)
    have H7 := Lib.hid fun W A' c' (h : Src W (.slice A' S.length c') (S.map I64)) => Z.unsort W A' c' S h (by omega) (by rw [hS]; exact js_sort hj)
    have H8 := Lib.hid fun W A' c' (h : Src W (.slice A' U.length c') (U.map I64)) => Z.sort W A' c' U h (by omega) (by rw [hU]; exact js_unsort hj)
    have hcase : (S = [] ∧ U = [] ∧ n ≠ 16 ∧ n ≠ 64) ∨ ((n = 16 ∨ n = 64) ∧ unsortL S = b ∧ sortL U = b) := by
      by_cases h1 : b.length = 16 ∨ b.length = 64
      · have ho : Once (orderL (sideN b.length)) b.length := by
          rcases h1 with h1 | h1
          · rw [h1]; exact once4
          · rw [h1]; exact once8
        obtain ⟨-, -, q1, q2⟩ := sorts ho
        exact .inr ⟨by omega, by rw [hS]; exact q1, by rw [hU]; exact q2⟩
      · have h0 : sideN b.length = 0 := by unfold sideN; rw [if_neg (fun h => h1 (.inl h)), if_neg (fun h => h1 (.inr h))]
        have e : orderL ((0 : Nat) : Int) = [] := rfl
        refine .inl ⟨?_, ?_, by omega, by omega⟩
        · rw [hS]; unfold sortL; rw [h0, e]; rfl
        · rw [hU]; unfold unsortL; rw [h0, e]; rfl
    rw [← hS] at H1 H5
    rw [← hU] at H2 H6
    rw [← hO] at H3 H4
    rw [← hn] at H1 H2 H5 H6 ⊢
    have HS := Lib.hid hs; have Hn := Lib.hid hn; have HOl := Lib.hid hOl; have HSl := Lib.hid hSl; have HUl := Lib.hid hUl
    have hn100 : n ≤ 100 := by omega
    clear hs hj hn h100 hS hU hO hOl hSl hUl hm hi
    have HC := Lib.hid hcase
    clear hcase
    go_enter Try.func4, Try.ntmps4
    go_wp2_with fail
    refine (H1.out _ (Fr.refl _ _)).mono ?_
    rintro e w1 ⟨A1, c1, rfl, hs1, hf1⟩
    have HF1 := Lib.hid hf1; have HS1 := Lib.hid hs1
    clear hf1 hs1 H1
    go_wp2_with fail
    refine (H2.out _ HF1.out).mono ?_
    rintro e w2 ⟨A2, c2, rfl, hs2, hf2⟩
    have HF2 := Lib.hid (HF1.out.trans hf2 (by simp)); have HS12 := Lib.hid (HS1.out.fr0 hf2); have HS2 := Lib.hid hs2
    clear hf2 hs2 H2 HF1 HS1
    go_wp2_with fail
    refine (H3.out _).mono ?_
    rintro e w3 ⟨A3, c3, rfl, hs3, hf3⟩
    have HF3 := Lib.hid (HF2.out.trans hf3 (by simp)); have HS13 := Lib.hid (HS12.out.fr0 hf3); have HS23 := Lib.hid (HS2.out.fr0 hf3); have HS3 := Lib.hid hs3
    clear hf3 hs3 H3 HF2 HS12 HS2
    go_wp2_with fail
    refine (H4.out _).mono ?_
    rintro e w4 ⟨A4, c4, rfl, hs4, hf4⟩
    have HF4 := Lib.hid (HF3.out.trans hf4 (by simp)); have HS14 := Lib.hid (HS13.out.fr0 hf4); have HS24 := Lib.hid (HS23.out.fr0 hf4)
    have C1 := rsame7_any A3 c3 O A4 c4 O w4 (HS3.out.fr0 hf4) hs4 (by have := HOl.out; omega) (by have := HOl.out; omega)
    rw [show decide (O = O) = true by simp] at C1
    have HC1 := Lib.hid C1
    clear hf4 hs4 H4 HF3 HS13 HS23 HS3 C1
    go_wp2_with fail
    refine HC1.out.mono ?_
    rintro e w5 ⟨rfl, hf5⟩
    have HF5 := Lib.hid (HF4.out.trans hf5 (by simp)); have HS15 := Lib.hid (HS14.out.fr0 hf5); have HS25 := Lib.hid (HS24.out.fr0 hf5)
    clear hf5 HC1 HF4 HS14 HS24
    go_wp2_with fail
    refine (H5.out _ HF5.out).mono ?_
    rintro e w6 ⟨A6, c6, rfl, hs6, hf6⟩
    have HF6 := Lib.hid (HF5.out.trans hf6 (by simp)); have HS16 := Lib.hid (HS15.out.fr0 hf6); have HS26 := Lib.hid (HS25.out.fr0 hf6)
    have C1 := rsame7_any A1 c1 S A6 c6 S w6 HS16.out hs6 (by have := HSl.out; omega) (by have := HSl.out; omega)
    rw [show decide (S = S) = true by simp] at C1
    have HC1 := Lib.hid C1
    clear hf6 hs6 H5 HF5 HS15 HS25 C1
    go_wp2_with fail
    refine HC1.out.mono ?_
    rintro e w7 ⟨rfl, hf7⟩
    have HF7 := Lib.hid (HF6.out.trans hf7 (by simp)); have HS17 := Lib.hid (HS16.out.fr0 hf7); have HS27 := Lib.hid (HS26.out.fr0 hf7)
    clear hf7 HC1 HF6 HS16 HS26
    go_wp2_with fail
    refine (H6.out _ HF7.out).mono ?_
    rintro e w8 ⟨A8, c8, rfl, hs8, hf8⟩
    have HF8 := Lib.hid (HF7.out.trans hf8 (by simp)); have HS18 := Lib.hid (HS17.out.fr0 hf8); have HS28 := Lib.hid (HS27.out.fr0 hf8)
    have C1 := rsame7_any A2 c2 U A8 c8 U w8 HS28.out hs8 (by have := HUl.out; omega) (by have := HUl.out; omega)
    rw [show decide (U = U) = true by simp] at C1
    have HC1 := Lib.hid C1
    clear hf8 hs8 H6 HF7 HS17 HS27 C1
    go_wp2_with fail
    refine HC1.out.mono ?_
    rintro e w9 ⟨rfl, hf9⟩
    have HF9 := Lib.hid (HF8.out.trans hf9 (by simp)); have HS19 := Lib.hid (HS18.out.fr0 hf9); have HS29 := Lib.hid (HS28.out.fr0 hf9)
    clear hf9 HC1 HF8 HS18 HS28
    rcases HC.out with ⟨q1, q2, q3, q4⟩ | ⟨q1, q2, q3⟩
    · have t16 : ((n : Int) != 16) = true := by simp; omega
      have t64 : ((n : Int) != 64) = true := by simp; omega
      have l1 : S.length = 0 := by rw [q1]; rfl
      have l2 : U.length = 0 := by rw [q2]; rfl
      clear q1 q2 q3 q4 HC H7 H8
      go_wp2_with fail
      refine (HA.out _).mono ?_
      rintro e w10 ⟨rfl, hf10⟩
      have HF10 := Lib.hid (HF9.out.trans hf10 (by simp))
      clear hf10
      go_wp2_with fail
      go_ret
      exact ⟨rfl, HF10.out⟩
    · have Q2 := Lib.hid q2; have Q3 := Lib.hid q3
      have tt : ((n : Int) != 16) = false ∨ (((n : Int) != 16) = true ∧ ((n : Int) != 64) = false) := by
        rcases q1 with rfl | rfl
        · exact .inl rfl
        · exact .inr ⟨rfl, rfl⟩
      clear q1 q2 q3 HC
      rcases tt with t16 | ⟨t16, t64⟩
      all_goals
        go_wp2_with fail
        refine (HA.out _).mono ?_
        rintro e w10 ⟨rfl, hf10⟩
        have HF10 := Lib.hid (HF9.out.trans hf10 (by simp)); have HS20 := Lib.hid (HS29.out.fr0 hf10)
        have C7 := Lib.hid (H7.out _ _ _ (HS19.out.fr0 hf10))
        rw [Q2.out] at C7
        clear hf10 HF9 HS19 HS29 H7
        go_wp2_with fail
        refine C7.out.mono ?_
        rintro e w11 ⟨A11, c11, rfl, hs11, hf11⟩
        have HF11 := Lib.hid (HF10.out.trans hf11 (by simp)); have HS21 := Lib.hid (HS20.out.fr0 hf11)
        have C1 := rsame7_any A11 c11 b A c b w11 hs11 (HS.out.fr0 HF11.out) (by have := Hn.out; omega) (by have := Hn.out; omega)
        rw [show decide (b = b) = true by simp, ← Hn.out] at C1
        rw [← Hn.out]
        have HC1 := Lib.hid C1
        clear hf11 hs11 C1 C7 HF10 HS20
        go_wp2_with fail
        refine HC1.out.mono ?_
        rintro e w12 ⟨rfl, hf12⟩
        have HF12 := Lib.hid (HF11.out.trans hf12 (by simp))
        have C8 := Lib.hid (H8.out _ _ _ (HS21.out.fr0 hf12))
        rw [Q3.out] at C8
        clear hf12 HC1 HF11 HS21 H8
        go_wp2_with fail
        refine C8.out.mono ?_
        rintro e w13 ⟨A13, c13, rfl, hs13, hf13⟩
        have HF13 := Lib.hid (HF12.out.trans hf13 (by simp))
        have C1 := rsame7_any A13 c13 b A c b w13 hs13 (HS.out.fr0 HF13.out) (by have := Hn.out; omega) (by have := Hn.out; omega)
        rw [show decide (b = b) = true by simp, ← Hn.out] at C1
        rw [← Hn.out]
        have HC1 := Lib.hid C1
        clear hf13 hs13 C1 C8 HF12
        go_wp2_with fail
        refine HC1.out.mono ?_
        rintro e w14 ⟨rfl, hf14⟩
        have HF14 := Lib.hid (HF13.out.trans hf14 (by simp))
        clear hf14 HC1 HF13
        go_wp2_with fail
        go_ret
        exact ⟨rfl, HF14.out⟩
end Go.Proofs.Ytednjpgibbnieaa

/-
  The statement LiftOrders out of the contracts.
-/
namespace Go.Proofs.Ytednjpgibbnieaa
open Go.ChangeShapes Go.WideShapes Go.ChangeAt Go.RowKit

set_option maxRecDepth 100000 in
theorem orders7_lifted (Z : LiftSpec) (os : Os) (started : os.Started) (H : Type) (enc : TypeId × Value → H) :
    ReturnsInHanded {} Try.checked os 4 .any (Rows.liftOrdersSpec.pre6 enc Try.prog Try.f4 Rows.liftOrdersRow.domain false) (Rows.liftOrdersSpec.post enc Try.prog Try.f4 false true false false) := by
  refine law_lift (C := Try.checked) own_knob started (by kernel_rfl) Try.func4
    (ChangeSpec.witness6 (enc := enc) (C := Try.checked) false ⟨#[], #[.int .i64 0, .slice none 0 0], []⟩ 8 (by kernel_rfl) (by kernel_rfl) (by kernel_rfl) (by kernel_rfl))
    laid_out rfl rfl Try.underlying4 (of_decide_eq_true (by kernel_rfl)) ?_
  intro W base args ds before hval0 hA0 hlt
  have hval : ∀ (j : Nat) t v, Try.f4.params[j]? = some t → args[j]? = some v → Value.okWide Try.prog W .any base t v := hval0
  have hA : DataW.TrodAll enc Try.prog W 0 (fun _ => true) true Try.f4.params.toList args.toList ds before := hA0
  rw [Try.params4] at hA hval
  obtain ⟨v0, v1, d0, d1, p0, p1, rfl, rfl, -, h0, ⟨fuel1, h1⟩⟩ := trodAll_two hA
  obtain ⟨z0, rfl, -, -, wz0⟩ := open_int Try.underlying3 (hval 0 _ _ rfl rfl) h0
  simp [Lit.wf, IntKind.min, IntKind.max, IntKind.signed, IntKind.bits] at wz0
  have j0 : InI z0 := by unfold InI; omega
  obtain ⟨A1, l1, c1, rfl⟩ := okWide_slice Try.underlying22 (hval 1 _ _ rfl rfl)
  obtain ⟨S1, n1, k1, b1, e1, hb1, hn1, hs1, hj1⟩ := open_ints (v := .slice A1 l1 c1) h1
  rw [e1]
  simp only [maxLen] at hn1
  subst hb1
  exact ⟨rfl, (orders7_law Z z0 S1 k1 b1 W j0 hs1 hj1 (by omega)).mono fun e W' ⟨he, hf⟩ => ⟨he, hf.below (by simp) (Nat.le_refl _)⟩⟩

theorem orders7_holds_of (Z : LiftSpec) : Rows.LiftOrdersSaid :=
  OpenClaim.holds_of_wide 4 Try.f4 rfl rfl rfl rfl rfl rfl rfl ⟨rfl, rfl, rfl, rfl, rfl⟩ rfl rfl rfl rfl rfl (by kernel_rfl) Try.func4 (by kernel_rfl)
    (of_decide_eq_true (by kernel_rfl)) (by unfold Func.isWrapper; first | (rw [if_pos (by decide +kernel)]; kernel_rfl) | (rw [if_neg (by decide +kernel)]; exact ⟨rfl, rfl⟩))
    (fun os started H enc _ => orders7_lifted Z os started H enc)
end Go.Proofs.Ytednjpgibbnieaa

/-
  The law LiftOrders answers true whatever its input, and leaves its arguments as they were; no condition.
-/
namespace Go.Proofs.Ytednjpgibbnieaa
open Go.RowKit

theorem orders7_holds : Rows.LiftOrdersSaid := orders7_holds_of liftI
#print axioms orders7_holds
end Go.Proofs.Ytednjpgibbnieaa
