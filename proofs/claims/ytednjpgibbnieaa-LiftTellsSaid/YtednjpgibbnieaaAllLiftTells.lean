/-
  The law LiftTells answers true whatever its input, and leaves its arguments as they were; no condition.
-/
import Derived.Test.YtednjpgibbnieaaAll1
import Derived.Test.YtednjpgibbnieaaAll2
/-
  The law LiftTells, out of the contracts: true whatever its input.
-/
namespace Go.Proofs.Ytednjpgibbnieaa
open Go.RowKit

set_option maxRecDepth 20000 in
set_option maxHeartbeats 8000000 in
theorem tells7_law (Z : LiftSpec) (A : Option Addr) (c : Nat) (b : List Int) (w : World) (hs : Src w (.slice A b.length c) (b.map I64)) (hj : Js b) (hm : b.length ≤ 9223372036854775807) :
    Calls Try.prog 3 #[.slice A b.length c] w fun e w' => e = .returned (.bool true) ∧ Fr [] w w' := by
  have HA := Lib.hid fun W => alive7_any Z W
  obtain ⟨n, hn⟩ : ∃ n, n = b.length := ⟨_, rfl⟩
  by_cases h100 : 100 < b.length
  · have e1 : decide (100 < (n : Int)) = true := by simp; omega
    rw [← hn] at hm ⊢
    clear hs hj h100 hn
    go_enter Try.func3, Try.ntmps3
    go_wp2_with fail
    refine (HA.out _).mono ?_
    rintro e w1 ⟨rfl, hF1⟩
    have HF1 := Lib.hid hF1
    clear hF1
    go_wp2_with fail
    go_ret
    exact ⟨rfl, HF1.out⟩
  · have e1 : decide (100 < (n : Int)) = false := by simp; omega
    have H1 := Lib.hid fun W (hf : Fr [] w W) => Z.fwd W A c b (hs.fr0 hf) (by omega) hj
    have H2 := Lib.hid fun W (hf : Fr [] w W) => rforward7_any A c b W (hs.fr0 hf) (by omega)
    have H3 := Lib.hid fun W (hf : Fr [] w W) => Z.bck W A c b (hs.fr0 hf) (by omega) hj
    have H4 := Lib.hid fun W (hf : Fr [] w W) => rback7_any A c b W (hs.fr0 hf) (by omega)
    obtain ⟨X, hX⟩ : ∃ X, X = liftF b := ⟨_, rfl⟩
    obtain ⟨Y, hY⟩ : ∃ Y, Y = liftB b := ⟨_, rfl⟩
    have hXl : X.1.length ≤ 1000 := by
      rw [hX]
      unfold liftF
      split
      · simp
      · have hk : sideK b.length ≤ 3 := by unfold sideK; split; omega; split <;> omega
        have h8 : 2 ^ sideK b.length ≤ 8 := Nat.pow_le_pow_right (n := 2) (j := 3) (by omega) hk
        have := Nat.mul_le_mul h8 h8
        simp only [blkL_length]
        omega
    have hYl : Y.1.length ≤ 1000 := by
      rw [hY]
      unfold liftB
      split
      · simp
      · have hk : sideK b.length ≤ 3 := by unfold sideK; split; omega; split <;> omega
        have h8 : 2 ^ sideK b.length ≤ 8 := Nat.pow_le_pow_right (n := 2) (j := 3) (by omega) hk
        have := Nat.mul_le_mul h8 h8
        simp only [blkL_length]
        omega
    rw [← hX] at H1 H2
    rw [← hY] at H3 H4
    rw [← hn] at H1 H2 H3 H4 ⊢
    have HS := Lib.hid hs; have Hn := Lib.hid hn; have HXl := Lib.hid hXl; have HYl := Lib.hid hYl
    have hn100 : n ≤ 100 := by omega
    clear hs hj hn h100 hX hY hXl hYl hm
    obtain ⟨X1, X2⟩ := X
    obtain ⟨Y1, Y2⟩ := Y
    simp only at HXl HYl
    have t1 : (X2 == X2) = true := by simp
    have t2 : (Y2 == Y2) = true := by simp
    go_enter Try.func3, Try.ntmps3
    go_wp2_with (at_builtin; refine wp_append_num _ _ (.slice (some ⟨w.heap.size, 0, none⟩) 0 0) [] (.slice A n c) b rfl rfl rfl rfl (Own.lit w 3 #[] 0 rfl (by simp [maxLen])) (by rw [Hn.out]; exact HS.out.fr0 ((Fr.refl _ _).alloc _)) (by have := Hn.out; simp; omega) ?_)
    intro B d w1 hO hG
    have hM : MineN w w1 (.slice B b.length d) b := by
      have h0 : MineN w (w.alloc (.cells #[] 3)) (.slice (some ⟨w.heap.size, 0, none⟩) 0 0) [] := ⟨Own.lit w 3 #[] 0 rfl (by simp [maxLen]), (Fr.refl _ _).alloc _, fun k hk => by
        have : w.heap.size = k := by simpa [Value.ownBlock] using hk
        omega⟩
      have := h0.appended (ms := b) (by simpa using hO) hG
      simpa using this
    rw [← Hn.out] at hM ⊢
    have HM := Lib.hid hM
    clear hO hG hM
    go_wp2_with fail
    refine (H1.out _ HM.out.fr).mono ?_
    rintro e w2 ⟨A2, c2, rfl, hs2, hf2⟩
    simp only at hs2
    have HM2 := Lib.hid (HM.out.fr0 hf2); have HS2 := Lib.hid hs2
    clear hs2 hf2 H1 HM
    go_wp2_with fail
    refine (H2.out _ HM2.out.fr).mono ?_
    rintro e w3 ⟨A3, c3, rfl, hs3, hf3⟩
    simp only at hs3
    have HM3 := Lib.hid (HM2.out.fr0 hf3); have HS23 := Lib.hid (HS2.out.fr0 hf3); have HS3 := Lib.hid hs3
    clear hs3 hf3 H2 HM2 HS2
    go_wp2_with fail
    refine (H3.out _ HM3.out.fr).mono ?_
    rintro e w4 ⟨A4, c4, rfl, hs4, hf4⟩
    simp only at hs4
    have HM4 := Lib.hid (HM3.out.fr0 hf4); have HS24 := Lib.hid (HS23.out.fr0 hf4); have HS34 := Lib.hid (HS3.out.fr0 hf4); have HS4 := Lib.hid hs4
    clear hs4 hf4 H3 HM3 HS23 HS3
    go_wp2_with fail
    refine (H4.out _ HM4.out.fr).mono ?_
    rintro e w5 ⟨A5, c5, rfl, hs5, hf5⟩
    simp only at hs5
    have HM5 := Lib.hid (HM4.out.fr0 hf5); have HS25 := Lib.hid (HS24.out.fr0 hf5); have HS35 := Lib.hid (HS34.out.fr0 hf5); have HS45 := Lib.hid (HS4.out.fr0 hf5); have HS5 := Lib.hid hs5
    clear hs5 hf5 H4 HM4 HS24 HS34 HS4
    simp only
    go_wp2_with fail
    refine (HA.out _).mono ?_
    rintro e w6 ⟨rfl, hf6⟩
    have C1 := Lib.hid (fun W (hf : Fr [] w6 W) => rsame7_any A2 c2 X1 A3 c3 X1 W ((HS25.out.fr0 hf6).fr0 hf) ((HS35.out.fr0 hf6).fr0 hf) (by have := HXl.out; omega) (by have := HXl.out; omega))
    have C2 := Lib.hid (fun W (hf : Fr [] w6 W) => rsame7_any A4 c4 Y1 A5 c5 Y1 W ((HS45.out.fr0 hf6).fr0 hf) ((HS5.out.fr0 hf6).fr0 hf) (by have := HYl.out; omega) (by have := HYl.out; omega))
    have C3 := Lib.hid (fun W (hf : Fr [] w6 W) => rsame7_any A c b B d b W ((HS.out.fr0 (HM5.out.fr.trans hf6 (by simp))).fr0 hf) (by have := (HM5.out.src.fr0 hf6).fr0 hf; rwa [Hn.out] at this) (by have := Hn.out; omega) (by have := Hn.out; omega))
    have HF6 := Lib.hid (HM5.out.fr.trans hf6 (by simp))
    rw [show decide (X1 = X1) = true by simp] at C1
    rw [show decide (Y1 = Y1) = true by simp] at C2
    rw [show decide (b = b) = true by simp, ← Hn.out] at C3
    clear hf6 HM5 HS25 HS35 HS45 HS5 HA
    go_wp2_with fail
    refine (C1.out _ (Fr.refl _ _)).mono ?_
    rintro e w7 ⟨rfl, hf7⟩
    have HF7 := Lib.hid hf7
    clear hf7 C1
    go_wp2_with fail
    refine (C2.out _ HF7.out).mono ?_
    rintro e w8 ⟨rfl, hf8⟩
    have HF8 := Lib.hid (HF7.out.trans hf8 (by simp))
    clear hf8 C2 HF7
    go_wp2_with fail
    refine (C3.out _ HF8.out).mono ?_
    rintro e w9 ⟨rfl, hf9⟩
    have HF9 := Lib.hid (HF6.out.trans (HF8.out.trans hf9 (by simp)) (by simp))
    clear hf9 C3 HF6 HF8
    go_wp2_with fail
    go_ret
    exact ⟨rfl, HF9.out⟩
end Go.Proofs.Ytednjpgibbnieaa

/-
  The statement LiftTells out of the contracts.
-/
namespace Go.Proofs.Ytednjpgibbnieaa
open Go.ChangeShapes Go.WideShapes Go.ChangeAt Go.RowKit

set_option maxRecDepth 100000 in
theorem tells7_lifted (Z : LiftSpec) (os : Os) (started : os.Started) (H : Type) (enc : TypeId × Value → H) :
    ReturnsInHanded {} Try.checked os 3 .any (Rows.liftTellsSpec.pre6 enc Try.prog Try.f3 Rows.liftTellsRow.domain false) (Rows.liftTellsSpec.post enc Try.prog Try.f3 false true false false) := by
  refine law_lift (C := Try.checked) own_knob started (by kernel_rfl) Try.func3
    (ChangeSpec.witness6 (enc := enc) (C := Try.checked) false ⟨#[], #[.slice none 0 0], []⟩ 8 (by kernel_rfl) (by kernel_rfl) (by kernel_rfl) (by kernel_rfl))
    laid_out rfl rfl Try.underlying4 (of_decide_eq_true (by kernel_rfl)) ?_
  intro W base args ds before hval0 hA0 hlt
  have hval : ∀ (j : Nat) t v, Try.f3.params[j]? = some t → args[j]? = some v → Value.okWide Try.prog W .any base t v := hval0
  have hA : DataW.TrodAll enc Try.prog W 0 (fun _ => true) true Try.f3.params.toList args.toList ds before := hA0
  rw [Try.params3] at hA hval
  obtain ⟨v0, d0, rfl, rfl, fuel0, h0⟩ := trodAll_one hA
  obtain ⟨A0, l0, c0, rfl⟩ := okWide_slice Try.underlying22 (hval 0 _ _ rfl rfl)
  obtain ⟨S0, n0, k0, b0, e0, hb0, hn0, hs0, hj0⟩ := open_ints (v := .slice A0 l0 c0) h0
  rw [e0]
  simp only [maxLen] at hn0
  subst hb0
  exact ⟨rfl, (tells7_law Z S0 k0 b0 W hs0 hj0 (by omega)).mono fun e W' ⟨he, hf⟩ => ⟨he, hf.below (by simp) (Nat.le_refl _)⟩⟩

theorem tells7_holds_of (Z : LiftSpec) : Rows.LiftTellsSaid :=
  OpenClaim.holds_of_wide 3 Try.f3 rfl rfl rfl rfl rfl rfl rfl ⟨rfl, rfl, rfl, rfl, rfl⟩ rfl rfl rfl rfl rfl (by kernel_rfl) Try.func3 (by kernel_rfl)
    (of_decide_eq_true (by kernel_rfl)) (by unfold Func.isWrapper; first | (rw [if_pos (by decide +kernel)]; kernel_rfl) | (rw [if_neg (by decide +kernel)]; exact ⟨rfl, rfl⟩))
    (fun os started H enc _ => tells7_lifted Z os started H enc)
end Go.Proofs.Ytednjpgibbnieaa

/-
  The law LiftTells answers true whatever its input, and leaves its arguments as they were; no condition.
-/
namespace Go.Proofs.Ytednjpgibbnieaa
open Go.RowKit

theorem tells7_holds : Rows.LiftTellsSaid := tells7_holds_of liftI
#print axioms tells7_holds
end Go.Proofs.Ytednjpgibbnieaa
