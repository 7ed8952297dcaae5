/-
  The law CrcJoins answers true whatever its input, and leaves its arguments as they were; no condition.
-/
import Derived.Test.YtdpkhhmmoiianaaCNew
import Derived.Test.YtdpkhhmmoiianaaRow
import Derived.Test.YtdpkhhmmoiianaaActs
namespace Go.Proofs.Ytdpkhhmmoiianaa
open Go.ChangeShapes Go.WideShapes Go.ChangeAt Go.RowKit

theorem inv_inv (a : W32) : inv (inv a) = a := by simp [inv]
theorem inv_xor (a b : W32) : inv (a ^^^ b) = inv a ^^^ b := by
  unfold inv
  apply BitVec.eq_of_getLsbD_eq
  intro i hi
  simp [hi]

/-- Sums are joined as bytes are. -/
theorem more_sum (a b : List UInt8) : inv (run (inv (sumOf a)) b) = sumOf (a ++ b) := by
  unfold sumOf
  rw [inv_inv, run_append]
theorem zeros_sum (a : List UInt8) (n : Nat) : inv (stN (8 * n) (inv (sumOf a))) = sumOf (a ++ List.replicate n 0) := by
  rw [← run_zeros, more_sum]
theorem join_sum (a b : List UInt8) : inv (stN (8 * b.length) (inv (sumOf a))) ^^^ inv (stN (8 * b.length) (inv 0#32)) ^^^ sumOf b = sumOf (a ++ b) := by
  rw [← more_sum a b]
  rw [run_split (inv (sumOf a)) b]
  unfold sumOf
  rw [run_split (inv 0#32) b]
  generalize stN (8 * b.length) (inv (inv (run (inv 0#32) a))) = A
  generalize stN (8 * b.length) (inv 0#32) = B
  generalize run 0#32 b = C
  rw [inv_xor, inv_xor A C]
  rw [show inv A ^^^ inv B ^^^ (inv B ^^^ C) = inv A ^^^ (inv B ^^^ inv B) ^^^ C by ac_rfl]
  simp

theorem joins_out (A : Option Addr) (n c : Nat) (B : Option Addr) (m d : Nat) (i : Int) (w : World) (hn : n ≤ 9223372036854775807) (hm : m ≤ 9223372036854775807) (h : ¬ (n ≤ 300 ∧ m ≤ 300 ∧ 0 ≤ i ∧ i ≤ 300)) :
    Calls Try.prog 5 #[.slice A n c, .slice B m d, .int .i64 i] w fun e w' => e = .returned (.bool true) ∧ Fr [] w w' := by
  by_cases h1 : 300 < n
  · have e1 : decide ((300 : Int) < (n : Int)) = true := by simp; omega
    go_enter Try.func5, Try.ntmps5
    go_wp2_with fail
    refine (alive3_any _).mono ?_
    rintro e w3 ⟨rfl, hF3⟩
    go_wp2_with fail
    go_ret
    exact ⟨rfl, hF3⟩
  have e1 : decide ((300 : Int) < (n : Int)) = false := by simp; omega
  by_cases h2 : 300 < m
  · have e2 : decide ((300 : Int) < (m : Int)) = true := by simp; omega
    go_enter Try.func5, Try.ntmps5
    go_wp2_with fail
    refine (alive3_any _).mono ?_
    rintro e w3 ⟨rfl, hF3⟩
    go_wp2_with fail
    go_ret
    exact ⟨rfl, hF3⟩
  have e2 : decide ((300 : Int) < (m : Int)) = false := by simp; omega
  by_cases h3 : i < 0
  · have e3 : decide (i < 0) = true := by simp; omega
    go_enter Try.func5, Try.ntmps5
    go_wp2_with fail
    refine (alive3_any _).mono ?_
    rintro e w3 ⟨rfl, hF3⟩
    go_wp2_with fail
    go_ret
    exact ⟨rfl, hF3⟩
  have e3 : decide (i < 0) = false := by simp; omega
  have e4 : decide (300 < i) = true := by simp; omega
  go_enter Try.func5, Try.ntmps5
  go_wp2_with fail
  refine (alive3_any _).mono ?_
  rintro e w3 ⟨rfl, hF3⟩
  go_wp2_with fail
  go_ret
  exact ⟨rfl, hF3⟩

set_option maxRecDepth 20000 in
set_option maxHeartbeats 4000000 in
theorem joins_any (A : Option Addr) (n c : Nat) (B : Option Addr) (m d k : Nat) (bs cs : List UInt8) (w : World) (hb : Src w (.slice A n c) (bs.map B8)) (hn : bs.length = n) (hc : Src w (.slice B m d) (cs.map B8)) (hm : cs.length = m) (h1 : n ≤ 300) (h2 : m ≤ 300) (h3 : k ≤ 300) :
    Calls Try.prog 5 #[.slice A n c, .slice B m d, .int .i64 (k : Int)] w fun e w' => e = .returned (.bool true) ∧ Fr [] w w' := by
  have Hn := Lib.hid hn; clear hn
  have HS := Lib.hid hb; clear hb
  have Hm := Lib.hid hm; clear hm
  have HT := Lib.hid hc; clear hc
  have e1 : decide ((300 : Int) < (n : Int)) = false := by simp; omega
  have e2 : decide ((300 : Int) < (m : Int)) = false := by simp; omega
  have e3 : decide ((k : Int) < 0) = false := by simp
  have e4 : decide ((300 : Int) < (k : Int)) = false := by simp; omega
  go_enter Try.func5, Try.ntmps5
  go_wp2_with (at_builtin; refine wp_append_u8 _ _ (.slice (some ⟨w.heap.size, 0, none⟩) 0 0) [] (.slice A n c) bs rfl rfl rfl rfl (Own.lit w 5 #[] 0 rfl (by simp [maxLen])) (HS.out.fr0 ((Fr.refl _ _).alloc _)) (by simp; have := Hn.out; omega) ?_)
  intro v1 w1 hO hG
  have hM := Mine.copied (xs := bs) hO hG (Fr.refl _ w)
  have HM := Lib.hid hM; clear hM hO hG
  go_wp2_with (at_builtin; refine wp_append_u8 _ _ v1 bs (.slice B m d) cs rfl rfl rfl rfl HM.out.own (HT.out.fr0 HM.out.fr) (by have := Hn.out; have := Hm.out; omega) ?_)
  intro v2 w2 hO hG
  have hM := HM.out.appended (ys := cs) (by rw [List.map_append]; exact hO) hG
  have HM2 := Lib.hid hM; clear hM hO hG HM
  go_wp2_with (at_builtin; refine wp_append_u8 _ _ (.slice (some ⟨w2.heap.size, 0, none⟩) 0 0) [] (.slice A n c) bs rfl rfl rfl rfl (Own.lit w2 5 #[] 0 rfl (by simp [maxLen])) ((HS.out.fr0 HM2.out.fr).fr0 ((Fr.refl _ _).alloc _)) (by simp; have := Hn.out; omega) ?_)
  intro v3 w3 hO hG
  have hM := Mine.copied (xs := bs) hO hG (Fr.refl _ w2)
  have HM3 := Lib.hid hM; clear hM hO hG
  go_wp2_with (at_builtin; refine wp_append_zeros_u8 _ _ v3 bs k rfl rfl rfl rfl HM3.out.own (by have := Hn.out; omega) ?_)
  intro v4 w4 hO hG
  have hM := HM3.out.appended (ys := List.replicate k 0) (by rw [List.map_append, List.map_replicate]; exact hO) hG
  have hM2 := HM2.out.fr0 hM.fr
  have HM4 := Lib.hid hM; clear hM hO hG HM3
  have HM5 := Lib.hid hM2; clear hM2 HM2
  have HAl := Lib.hid (alive_behind w4)
  have HA := Lib.hid (sum_behind (HS.out.fr0 HM5.out.fr) (by rw [Hn.out]; omega))
  have HB := Lib.hid (sum_behind (HT.out.fr0 HM5.out.fr) (by rw [Hm.out]; omega))
  have HC := Lib.hid (sum_behind HM5.out.src (by simp; rw [Hn.out, Hm.out]; omega))
  have HD := Lib.hid (sum_behind HM4.out.src (by simp; rw [Hn.out]; omega))
  have HJ : Hid (∀ W, Fr [] w4 W → Calls Try.prog 16 #[V32 (sumOf bs), V32 (sumOf cs), .int .u64 (m : Int)] W fun e w' => e = .returned (V32 (sumOf (bs ++ cs))) ∧ Fr [] w4 w') := Lib.hid fun W hF =>
    (join_any (sumOf bs) (sumOf cs) m W (by omega)).mono fun _ _ ⟨h1, h2⟩ => ⟨by rw [h1, ← join_sum bs cs, Hm.out], hF.trans h2 (by simp)⟩
  have HMo : Hid (∀ W, Fr [] w4 W → Calls Try.prog 12 #[V32 (sumOf bs), .slice B m d] W fun e w' => e = .returned (V32 (sumOf (bs ++ cs))) ∧ Fr [] w4 w') := Lib.hid fun W hF =>
    (more_any (sumOf bs) (.slice B m d) cs W ((HT.out.fr0 HM5.out.fr).fr0 hF) (by rw [Hm.out]; omega)).mono fun _ _ ⟨h1, h2⟩ => ⟨by rw [h1, more_sum], hF.trans h2 (by simp)⟩
  have HZ : Hid (∀ W, Fr [] w4 W → Calls Try.prog 17 #[V32 (sumOf bs), .int .u64 (k : Int)] W fun e w' => e = .returned (V32 (sumOf (bs ++ List.replicate k 0))) ∧ Fr [] w4 w') := Lib.hid fun W hF =>
    (zeros_any (sumOf bs) k W (by omega)).mono fun _ _ ⟨h1, h2⟩ => ⟨by rw [h1, zeros_sum], hF.trans h2 (by simp)⟩
  have HF := Lib.hid HM5.out.fr
  generalize sumOf bs = SA at HA HJ HMo HZ
  generalize sumOf cs = SB at HB HJ
  generalize sumOf (bs ++ cs) = SC at HC HJ HMo
  generalize sumOf (bs ++ List.replicate k 0) = SD at HD HZ
  clear HM4 HM5 HS HT
  have F4 := Lib.hid (Fr.refl [] w4)
  go_wp2_with fail
  refine (HAl.out _ F4.out).mono ?_
  rintro e w5 ⟨rfl, f5⟩
  have F5 := Lib.hid f5; clear f5
  go_wp2_with fail
  refine (HA.out _ F5.out).mono ?_
  rintro e w6 ⟨rfl, f6⟩
  have F6 := Lib.hid f6; clear f6
  go_wp2_with fail
  refine (HB.out _ F6.out).mono ?_
  rintro e w7 ⟨rfl, f7⟩
  have F7 := Lib.hid f7; clear f7
  go_wp2_with fail
  refine (HJ.out _ F7.out).mono ?_
  rintro e w8 ⟨rfl, f8⟩
  have F8 := Lib.hid f8; clear f8
  go_wp2_with fail
  refine (HC.out _ F8.out).mono ?_
  rintro e w9 ⟨rfl, f9⟩
  have F9 := Lib.hid f9; clear f9
  go_wp2_with fail
  refine (HA.out _ F9.out).mono ?_
  rintro e w10 ⟨rfl, f10⟩
  have F10 := Lib.hid f10; clear f10
  go_wp2_with fail
  refine (HMo.out _ F10.out).mono ?_
  rintro e w11 ⟨rfl, f11⟩
  have F11 := Lib.hid f11; clear f11
  go_wp2_with fail
  refine (HC.out _ F11.out).mono ?_
  rintro e w12 ⟨rfl, f12⟩
  have F12 := Lib.hid f12; clear f12
  go_wp2_with fail
  refine (HA.out _ F12.out).mono ?_
  rintro e w13 ⟨rfl, f13⟩
  have F13 := Lib.hid f13; clear f13
  go_wp2_with fail
  refine (HZ.out _ F13.out).mono ?_
  rintro e w14 ⟨rfl, f14⟩
  have F14 := Lib.hid f14; clear f14
  go_wp2_with fail
  refine (HD.out _ F14.out).mono ?_
  rintro e w15 ⟨rfl, f15⟩
  have F15 := Lib.hid f15; clear f15
  go_wp2_with fail
  go_ret
  exact ⟨rfl, HF.out.trans F15.out (by simp)⟩

set_option maxRecDepth 100000 in
theorem joins_lifted (os : Os) (started : os.Started) (H : Type) (enc : TypeId × Value → H) :
    ReturnsInHanded {} Try.checked os 5 .any (Rows.crcJoinsSpec.pre6 enc Try.prog Try.f5 Rows.crcJoinsRow.domain false) (Rows.crcJoinsSpec.post enc Try.prog Try.f5 false true false false) := by
  refine law_lift (C := Try.checked) own_knob started (by kernel_rfl) Try.func5
    (ChangeSpec.witness6 (enc := enc) (C := Try.checked) false ⟨#[], #[.slice none 0 0, .slice none 0 0, .int .i64 0], []⟩ 8 (by kernel_rfl) (by kernel_rfl) (by kernel_rfl) (by kernel_rfl))
    laid_out rfl rfl Try.underlying4 (of_decide_eq_true (by kernel_rfl)) ?_
  intro W base args ds before hval0 hA0 hlt
  have hval : ∀ (j : Nat) t v, Try.f5.params[j]? = some t → args[j]? = some v → Value.okWide Try.prog W .any base t v := hval0
  have hA : DataW.TrodAll enc Try.prog W 0 (fun _ => true) true Try.f5.params.toList args.toList ds before := hA0
  rw [Try.params5] at hA hval
  obtain ⟨v0, v1, v2, d0, d1, d2, p0, p1, p2, rfl, rfl, -, ⟨fuel0, h0⟩, ⟨fuel1, h1⟩, h2⟩ := trodAll_three hA
  obtain ⟨A0, l0, c0, rfl⟩ := okWide_slice Try.underlying22 (hval 0 _ _ rfl rfl)
  obtain ⟨A1, l1, c1, rfl⟩ := okWide_slice Try.underlying22 (hval 1 _ _ rfl rfl)
  obtain ⟨A, n, c, bs, e, hbl, hn, hs⟩ := open_bytes (v := .slice A0 l0 c0) h0
  obtain ⟨B, m, d, cs, e2, hcl, hm, hs2⟩ := open_bytes (v := .slice A1 l1 c1) h1
  obtain ⟨a, rfl, -, -, wa⟩ := open_int Try.underlying3 (hval 2 _ _ rfl rfl) h2
  rw [e, e2]
  simp only [maxLen] at hn hm
  refine ⟨rfl, ?_⟩
  by_cases h : n ≤ 300 ∧ m ≤ 300 ∧ 0 ≤ a ∧ a ≤ 300
  · obtain ⟨k, rfl⟩ : ∃ k : Nat, a = (k : Int) := ⟨a.toNat, by omega⟩
    exact (joins_any A n c B m d k bs cs W hs hbl hs2 hcl (by omega) (by omega) (by omega)).mono fun e W' ⟨he, hf⟩ => ⟨he, hf.below (by simp) (Nat.le_refl _)⟩
  · exact (joins_out A n c B m d a W (by omega) (by omega) h).mono fun e W' ⟨he, hf⟩ => ⟨he, hf.below (by simp) (Nat.le_refl _)⟩

theorem joins_holds : Rows.CrcJoinsSaid :=
  OpenClaim.holds_of_wide 5 Try.f5 rfl rfl rfl rfl rfl rfl rfl ⟨rfl, rfl, rfl, rfl, rfl⟩ rfl rfl rfl rfl rfl (by kernel_rfl) Try.func5 (by kernel_rfl)
    (of_decide_eq_true (by kernel_rfl)) (by unfold Func.isWrapper; first | (rw [if_pos (by decide +kernel)]; kernel_rfl) | (rw [if_neg (by decide +kernel)]; exact ⟨rfl, rfl⟩))
    (fun os started H enc _ => joins_lifted os started H enc)
#print axioms joins_holds
end Go.Proofs.Ytdpkhhmmoiianaa
