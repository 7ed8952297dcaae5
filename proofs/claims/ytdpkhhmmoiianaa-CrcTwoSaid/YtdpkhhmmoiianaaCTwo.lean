/-
  The law CrcTwo answers true whatever its input, and leaves its arguments as they were; no condition.
-/
import Derived.Test.YtdpkhhmmoiianaaCNew
import Derived.Test.YtdpkhhmmoiianaaRow
import Derived.Test.YtdpkhhmmoiianaaActs
namespace Go.Proofs.Ytdpkhhmmoiianaa
open Go.ChangeShapes Go.WideShapes Go.ChangeAt Go.RowKit

theorem two_out (Ab : Option Addr) (n cb : Nat) (i k : Int) (w : World) (hn : n ≤ 9223372036854775807) (h : ¬ (n ≤ 300 ∧ 0 ≤ i ∧ 0 ≤ k ∧ i < 8 * n ∧ k < 8 * n ∧ i ≠ k)) :
    Calls Try.prog 7 #[.slice Ab n cb, .int .i64 i, .int .i64 k] w fun e w' => e = .returned (.bool true) ∧ Fr [] w w' := by
  by_cases h1 : 300 < n
  · have e1 : decide ((300 : Int) < (n : Int)) = true := by simp; omega
    go_enter Try.func7, Try.ntmps7
    go_wp2_with fail
    refine (alive3_any _).mono ?_
    rintro e w3 ⟨rfl, hF3⟩
    go_wp2_with fail
    go_ret
    exact ⟨rfl, hF3⟩
  have e1 : decide ((300 : Int) < (n : Int)) = false := by simp; omega
  by_cases h2 : i < 0
  · have e2 : decide (i < 0) = true := by simp; omega
    go_enter Try.func7, Try.ntmps7
    go_wp2_with fail
    refine (alive3_any _).mono ?_
    rintro e w3 ⟨rfl, hF3⟩
    go_wp2_with fail
    go_ret
    exact ⟨rfl, hF3⟩
  have e2 : decide (i < 0) = false := by simp; omega
  by_cases h3 : k < 0
  · have e3 : decide (k < 0) = true := by simp; omega
    go_enter Try.func7, Try.ntmps7
    go_wp2_with fail
    refine (alive3_any _).mono ?_
    rintro e w3 ⟨rfl, hF3⟩
    go_wp2_with fail
    go_ret
    exact ⟨rfl, hF3⟩
  have e3 : decide (k < 0) = false := by simp; omega
  by_cases h4 : 8 * (n : Int) ≤ i
  · have e4 : decide (8 * (n : Int) ≤ i) = true := by simp; omega
    go_enter Try.func7, Try.ntmps7
    go_wp2_with fail
    refine (alive3_any _).mono ?_
    rintro e w3 ⟨rfl, hF3⟩
    go_wp2_with fail
    go_ret
    exact ⟨rfl, hF3⟩
  have e4 : decide (8 * (n : Int) ≤ i) = false := by simp; omega
  by_cases h5 : 8 * (n : Int) ≤ k
  · have e5 : decide (8 * (n : Int) ≤ k) = true := by simp; omega
    go_enter Try.func7, Try.ntmps7
    go_wp2_with fail
    refine (alive3_any _).mono ?_
    rintro e w3 ⟨rfl, hF3⟩
    go_wp2_with fail
    go_ret
    exact ⟨rfl, hF3⟩
  have e5 : decide (8 * (n : Int) ≤ k) = false := by simp; omega
  obtain rfl : i = k := by omega
  go_enter Try.func7, Try.ntmps7
  go_wp2_with fail
  refine (alive3_any _).mono ?_
  rintro e w3 ⟨rfl, hF3⟩
  go_wp2_with fail
  go_ret
  exact ⟨rfl, hF3⟩

set_option maxRecDepth 20000 in
set_option maxHeartbeats 4000000 in
theorem two_any (Ab : Option Addr) (n cb i k : Nat) (bs : List UInt8) (w : World) (hb : Src w (.slice Ab n cb) (bs.map B8)) (hn : bs.length = n) (h300 : n ≤ 300) (hi : i < 8 * n) (hk : k < 8 * n) (hik : i ≠ k) :
    Calls Try.prog 7 #[.slice Ab n cb, .int .i64 (i : Int), .int .i64 (k : Int)] w fun e w' => e = .returned (.bool true) ∧ Fr [] w w' := by
  have Hn := Lib.hid hn; clear hn
  have HS := Lib.hid hb; clear hb
  have Hik := Lib.hid hik
  have e1 : decide ((300 : Int) < (n : Int)) = false := by simp; omega
  have e2 : decide ((i : Int) < 0) = false := by simp
  have e3 : decide ((k : Int) < 0) = false := by simp
  have e4 : decide (8 * (n : Int) ≤ (i : Int)) = false := by simp; omega
  have e5 : decide (8 * (n : Int) ≤ (k : Int)) = false := by simp; omega
  have e6 : ((i : Int) == (k : Int)) = false := by simp; omega
  go_enter Try.func7, Try.ntmps7
  go_wp2_with (at_builtin; refine wp_append_u8 _ _ (.slice (some ⟨w.heap.size, 0, none⟩) 0 0) [] (.slice Ab n cb) bs rfl rfl rfl rfl (Own.lit w 5 #[] 0 rfl (by simp [maxLen])) (HS.out.fr0 ((Fr.refl _ _).alloc _)) (by simp; have := Hn.out; omega) ?_)
  intro v1 w1 hO hG
  have hM := Mine.copied (xs := bs) hO hG (Fr.refl _ w)
  clear hO hG
  obtain ⟨A, c, rfl⟩ := hM.slice
  rw [Hn.out] at hM ⊢
  obtain ⟨g, rfl, hg, c1, c2, -, hset⟩ := hM.cell (j := i / 8) (by have := Hn.out; omega)
  obtain ⟨x, hx⟩ : ∃ x, x = bs.getD (i / 8) 0 := ⟨_, rfl⟩
  rw [← hx] at c1
  have eX := flip_code x i
  obtain ⟨y, hy⟩ : ∃ y, y = x ^^^ bitOf i := ⟨_, rfl⟩
  rw [← hy] at eX
  have h2 := (hset y).1
  rw [hy, hx] at h2
  change Mine w _ _ (flip bs i) at h2
  rw [← hx, ← hy] at h2
  have H2 := Lib.hid h2; clear h2 hset hx hy hg
  have Hn2 := Lib.hid (show (flip bs i).length = n by rw [flip_length]; exact Hn.out)
  generalize hw : w1.setCell ⟨g, i / 8, none⟩ (.int .u8 (y.toNat : Int)) = w2 at H2
  have Hw := Lib.hid hw; clear hw
  obtain ⟨xs, hxs⟩ : ∃ xs, xs = flip bs i := ⟨_, rfl⟩
  rw [← hxs] at H2 Hn2
  have Hxs := Lib.hid hxs; clear hxs hM
  go_upto_region 5 with fail
  rw [Hw.out]
  clear c1 c2 eX
  go_wp2_with (at_builtin; refine wp_append_u8 _ _ (.slice (some ⟨w2.heap.size, 0, none⟩) 0 0) [] (.slice (some ⟨g, 0, none⟩) n c) xs rfl rfl rfl rfl (Own.lit w2 5 #[] 0 rfl (by simp [maxLen])) (H2.out.src.fr0 ((Fr.refl _ _).alloc _)) (by simp; have := Hn2.out; omega) ?_)
  intro v3 w3 hO hG
  have hM := Mine.copied (xs := xs) hO hG H2.out.fr
  have hM2 := H2.out.fr0 (((Fr.refl [] w2).alloc (.cells #[] 5)).trans hG.1 (by intro x hx; simp [Value.ownBlock] at hx; subst hx; exact .inr (Nat.le_refl _)))
  have hsep : ∀ k, v3.ownBlock = some k → k ≠ g := by
    intro k hk
    have hl := H2.out.own.lt g rfl
    rcases hG.2 with e | ⟨g', e, hg⟩
    · rw [e] at hk; simp [Value.ownBlock] at hk; omega
    · rw [e] at hk; injection hk with hk; subst hk; simp at hg; omega
  clear hO hG
  obtain ⟨A3, c3, rfl⟩ := hM.slice
  rw [Hn2.out] at hM hsep ⊢
  obtain ⟨g3, rfl, -, c1, c2, -, hset⟩ := hM.cell (j := k / 8) (by have := Hn2.out; omega)
  have hs3 := hsep g3 rfl
  obtain ⟨x3, hx⟩ : ∃ x, x = xs.getD (k / 8) 0 := ⟨_, rfl⟩
  rw [← hx] at c1
  have eX := flip_code x3 k
  obtain ⟨y3, hy⟩ : ∃ y, y = x3 ^^^ bitOf k := ⟨_, rfl⟩
  rw [← hy] at eX
  have h4 := (hset y3).1
  have h5 := (hset y3).2
  rw [hy, hx] at h4
  change Mine w _ _ (flip xs k) at h4
  rw [← hx, ← hy] at h4
  have hM5 : Mine w (w3.setCell ⟨g3, k / 8, none⟩ (.int .u8 (y3.toNat : Int))) (.slice (some ⟨g, 0, none⟩) n c) xs :=
    ⟨hM2.own.fr h5 (by intro k hk; simp [Value.ownBlock] at hk; subst hk; simp; omega), h4.fr, hM2.new⟩
  have H4 := Lib.hid h4
  have H5 := Lib.hid hM5
  clear h4 h5 hM5 hset hx hy hsep hs3 hM hM2
  generalize hw : w3.setCell ⟨g3, k / 8, none⟩ (.int .u8 (y3.toNat : Int)) = w4 at H4 H5
  have Hw4 := Lib.hid hw; clear hw
  have Hn4 := Lib.hid (show (flip xs k).length = n by rw [flip_length]; exact Hn2.out)
  obtain ⟨ys, hys⟩ : ∃ ys, ys = flip xs k := ⟨_, rfl⟩
  rw [← hys] at H4 Hn4
  have Hys := Lib.hid hys; clear hys
  go_upto_region 7 with fail
  rw [Hw4.out]
  clear c1 c2 eX
  have hT := two_told (inv 0#32) bs i k (by rw [Hn.out]; omega) (by rw [Hn.out]; exact hi) (by rw [Hn.out]; exact hk) Hik.out
  rw [← Hxs.out, ← Hys.out] at hT
  have t1 := ne_code (sumOf_ne hT.1)
  have t2 := ne_code (sumOf_ne hT.2.1)
  have t3 := ne_code (sumOf_ne hT.2.2)
  have HA := Lib.hid (alive_behind w4)
  have HB := Lib.hid (sum_behind (HS.out.fr0 H4.out.fr) (by rw [Hn.out]; omega))
  have HX := Lib.hid (sum_behind H5.out.src (by rw [Hn2.out]; omega))
  have HY := Lib.hid (sum_behind H4.out.src (by rw [Hn4.out]; omega))
  have HF := Lib.hid H4.out.fr
  generalize sumOf bs = SB at t1 t2 t3 HB
  generalize sumOf xs = SX at t1 t2 t3 HX
  generalize sumOf ys = SY at t1 t2 t3 HY
  clear hT Hw Hw4 H2 H4 H5 Hxs Hys Hn2 Hn4 HS Hik hik
  go_wp2_with fail
  refine (HA.out _ (Fr.refl _ _)).mono ?_
  rintro e w5 ⟨rfl, f5⟩
  have F5 := Lib.hid f5; clear f5
  go_wp2_with fail
  refine (HX.out _ F5.out).mono ?_
  rintro e w6 ⟨rfl, f6⟩
  have F6 := Lib.hid f6; clear f6
  go_wp2_with fail
  refine (HB.out _ F6.out).mono ?_
  rintro e w7 ⟨rfl, f7⟩
  have F7 := Lib.hid f7; clear f7
  go_wp2_with fail
  refine (HY.out _ F7.out).mono ?_
  rintro e w8 ⟨rfl, f8⟩
  have F8 := Lib.hid f8; clear f8
  go_wp2_with fail
  refine (HB.out _ F8.out).mono ?_
  rintro e w9 ⟨rfl, f9⟩
  have F9 := Lib.hid f9; clear f9
  go_wp2_with fail
  refine (HY.out _ F9.out).mono ?_
  rintro e w10 ⟨rfl, f10⟩
  have F10 := Lib.hid f10; clear f10
  go_wp2_with fail
  refine (HX.out _ F10.out).mono ?_
  rintro e w11 ⟨rfl, f11⟩
  have F11 := Lib.hid f11; clear f11
  go_wp2_with fail
  go_ret
  exact ⟨rfl, HF.out.trans F11.out (by simp)⟩

set_option maxRecDepth 100000 in
theorem two_lifted (os : Os) (started : os.Started) (H : Type) (enc : TypeId × Value → H) :
    ReturnsInHanded {} Try.checked os 7 .any (Rows.crcTwoSpec.pre6 enc Try.prog Try.f7 Rows.crcTwoRow.domain false) (Rows.crcTwoSpec.post enc Try.prog Try.f7 false true false false) := by
  refine law_lift (C := Try.checked) own_knob started (by kernel_rfl) Try.func7
    (ChangeSpec.witness6 (enc := enc) (C := Try.checked) false ⟨#[], #[.slice none 0 0, .int .i64 0, .int .i64 0], []⟩ 8 (by kernel_rfl) (by kernel_rfl) (by kernel_rfl) (by kernel_rfl))
    laid_out rfl rfl Try.underlying4 (of_decide_eq_true (by kernel_rfl)) ?_
  intro W base args ds before hval0 hA0 hlt
  have hval : ∀ (j : Nat) t v, Try.f7.params[j]? = some t → args[j]? = some v → Value.okWide Try.prog W .any base t v := hval0
  have hA : DataW.TrodAll enc Try.prog W 0 (fun _ => true) true Try.f7.params.toList args.toList ds before := hA0
  rw [Try.params7] at hA hval
  obtain ⟨v0, v1, v2, d0, d1, d2, p0, p1, p2, rfl, rfl, -, ⟨fuel0, h0⟩, h1, h2⟩ := trodAll_three hA
  obtain ⟨A0, l0, c0, rfl⟩ := okWide_slice Try.underlying22 (hval 0 _ _ rfl rfl)
  obtain ⟨A, n, c, bs, e, hbl, hn, hs⟩ := open_bytes (v := .slice A0 l0 c0) h0
  obtain ⟨a, rfl, -, -, wa⟩ := open_int Try.underlying3 (hval 1 _ _ rfl rfl) h1
  obtain ⟨b, rfl, -, -, wb⟩ := open_int Try.underlying3 (hval 2 _ _ rfl rfl) h2
  rw [e]
  simp only [maxLen] at hn
  refine ⟨rfl, ?_⟩
  by_cases h : n ≤ 300 ∧ 0 ≤ a ∧ 0 ≤ b ∧ a < 8 * n ∧ b < 8 * n ∧ a ≠ b
  · obtain ⟨i, rfl⟩ : ∃ i : Nat, a = (i : Int) := ⟨a.toNat, by omega⟩
    obtain ⟨k, rfl⟩ : ∃ k : Nat, b = (k : Int) := ⟨b.toNat, by omega⟩
    exact (two_any A n c i k bs W hs hbl (by omega) (by omega) (by omega) (by omega)).mono fun e W' ⟨he, hf⟩ => ⟨he, hf.below (by simp) (Nat.le_refl _)⟩
  · exact (two_out A n c a b W (by omega) h).mono fun e W' ⟨he, hf⟩ => ⟨he, hf.below (by simp) (Nat.le_refl _)⟩

theorem two_holds : Rows.CrcTwoSaid :=
  OpenClaim.holds_of_wide 7 Try.f7 rfl rfl rfl rfl rfl rfl rfl ⟨rfl, rfl, rfl, rfl, rfl⟩ rfl rfl rfl rfl rfl (by kernel_rfl) Try.func7 (by kernel_rfl)
    (of_decide_eq_true (by kernel_rfl)) (by unfold Func.isWrapper; first | (rw [if_pos (by decide +kernel)]; kernel_rfl) | (rw [if_neg (by decide +kernel)]; exact ⟨rfl, rfl⟩))
    (fun os started H enc _ => two_lifted os started H enc)
#print axioms two_holds
end Go.Proofs.Ytdpkhhmmoiianaa
