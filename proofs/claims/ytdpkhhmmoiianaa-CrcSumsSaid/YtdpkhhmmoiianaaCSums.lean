/-
  The law CrcSums answers true whatever its input, and leaves its arguments as they were; no condition.
-/
import Derived.Test.YtdpkhhmmoiianaaRef3d
import Derived.Test.YtdpkhhmmoiianaaRow
import Derived.Test.YtdpkhhmmoiianaaActs
namespace Go.Proofs.Ytdpkhhmmoiianaa
open Go.ChangeShapes Go.WideShapes Go.ChangeAt Go.RowKit

theorem u32_word {x : Int} (h : (Lit.int .u32 x).wf = true) : ∃ v : W32, x = (v.toNat : Int) := by
  simp [Lit.wf, IntKind.min, IntKind.max, IntKind.signed, IntKind.bits] at h
  refine ⟨BitVec.ofNat 32 x.toNat, ?_⟩
  rw [BitVec.toNat_ofNat, Nat.mod_eq_of_lt (by omega)]
  omega
theorem more_sums (a b : List UInt8) : inv (run (inv (sumOf a)) b) = sumOf (a ++ b) := by
  unfold sumOf
  rw [run_append]
  simp [inv]

/-- append onto bytes of the call's own, behind a test that held. -/
theorem wp_append_u8G {w : World} {ops : Array Oper} {rest : List Oper} {o : Oper} {a : Act} {Q : Exit → Act → World → Prop} (s x : Operand) (v : Value) (xs : List UInt8) (src : Value) (news : List UInt8)
    (hw : Region.wanted o (yielded ops a.tmps) = true) (ho : o.op = .call { callee := .builtin .append, args := #[s, x], argTypes := #[22, 22] })
    (hv : a.eval s = v) (hsv : a.eval x = src) (hown : Own w 5 v (xs.map B8)) (hs : Src w src (news.map B8)) (hlen : xs.length + news.length ≤ 1000000000000)
    (h : ∀ v' w', Own w' 5 v' ((xs ++ news).map B8) → Own1 v v' w w' → wpList Try.prog ops Q rest (a.put o.dst v') w') : wpList Try.prog ops Q (o :: rest) a w := by
  refine wpList_step fun K hK => ?_
  rw [if_pos hw]
  obtain ⟨i, hi, hz, h1, h2⟩ := info_parts info_u8
  refine wp_append_mine s x 22 5 i _ 1 ho Try.underlying22 hi hz h1 h2 rfl v _ src _ hv hsv hown hs ?_ ?_ ?_ ?_
  · intro u hu
    obtain ⟨b, _, rfl⟩ := List.mem_map.1 hu
    rfl
  · simp only [List.length_map, maxLen]; omega
  · simp only [List.length_map]; omega
  · intro A c w' k1 k2
    rw [← List.map_append] at k1
    exact hK _ _ (h _ _ k1 k2)

theorem sums_out (A : Option Addr) (n c : Nat) (B : Option Addr) (m d : Nat) (i : Int) (w : World) (hn : n ≤ 9223372036854775807) (hm : m ≤ 9223372036854775807) (h : ¬ (n ≤ 300 ∧ m ≤ 300)) :
    Calls Try.prog 3 #[.slice A n c, .slice B m d, .int .u32 i] w fun e w' => e = .returned (.bool true) ∧ Fr [] w w' := by
  by_cases h1 : 300 < n
  · have e1 : decide ((300 : Int) < (n : Int)) = true := by simp; omega
    go_enter Try.func3, Try.ntmps3
    go_wp2_with fail
    refine (alive3_any _).mono ?_
    rintro e w3 ⟨rfl, hF3⟩
    go_wp2_with fail
    go_ret
    exact ⟨rfl, hF3⟩
  have e1 : decide ((300 : Int) < (n : Int)) = false := by simp; omega
  have e2 : decide ((300 : Int) < (m : Int)) = true := by simp; omega
  go_enter Try.func3, Try.ntmps3
  go_wp2_with fail
  refine (alive3_any _).mono ?_
  rintro e w3 ⟨rfl, hF3⟩
  go_wp2_with fail
  go_ret
  exact ⟨rfl, hF3⟩

set_option maxRecDepth 20000 in
set_option maxHeartbeats 4000000 in
theorem sums_any (A : Option Addr) (n c : Nat) (B : Option Addr) (m d : Nat) (s : W32) (bs cs : List UInt8) (w : World) (hb : Src w (.slice A n c) (bs.map B8)) (hn : bs.length = n) (hc : Src w (.slice B m d) (cs.map B8)) (hm : cs.length = m) (h1 : n ≤ 300) (h2 : m ≤ 300) :
    Calls Try.prog 3 #[.slice A n c, .slice B m d, V32 s] w fun e w' => e = .returned (.bool true) ∧ Fr [] w w' := by
  have Hn := Lib.hid hn; clear hn
  have HS := Lib.hid hb; clear hb
  have Hm := Lib.hid hm; clear hm
  have HT := Lib.hid hc; clear hc
  have e1 : decide ((300 : Int) < (n : Int)) = false := by simp; omega
  have e2 : decide ((300 : Int) < (m : Int)) = false := by simp; omega
  have HAl := Lib.hid (alive_behind w)
  have HA := Lib.hid (sum_behind HS.out (by rw [Hn.out]; omega))
  have HRA : Hid (∀ W, Fr [] w W → Calls Try.prog 11 #[.slice A n c] W fun e w' => e = .returned (V32 (sumOf bs)) ∧ Fr [] w w') := Lib.hid fun W hF =>
    (rsum_any (.slice A n c) bs W (HS.out.fr0 hF) (by rw [Hn.out]; omega)).mono fun _ _ ⟨h1, h2⟩ => ⟨h1, hF.trans h2 (by simp)⟩
  have HMo : Hid (∀ W, Fr [] w W → Calls Try.prog 12 #[V32 s, .slice B m d] W fun e w' => e = .returned (V32 (inv (run (inv s) cs))) ∧ Fr [] w w') := Lib.hid fun W hF =>
    (more_any s (.slice B m d) cs W (HT.out.fr0 hF) (by rw [Hm.out]; omega)).mono fun _ _ ⟨h1, h2⟩ => ⟨h1, hF.trans h2 (by simp)⟩
  have HRM : Hid (∀ W, Fr [] w W → Calls Try.prog 13 #[V32 s, .slice B m d] W fun e w' => e = .returned (V32 (inv (run (inv s) cs))) ∧ Fr [] w w') := Lib.hid fun W hF =>
    (rmore_any s (.slice B m d) cs W (HT.out.fr0 hF) (by rw [Hm.out]; omega)).mono fun _ _ ⟨h1, h2⟩ => ⟨h1, hF.trans h2 (by simp)⟩
  have HMA : Hid (∀ W, Fr [] w W → Calls Try.prog 12 #[V32 (sumOf bs), .slice B m d] W fun e w' => e = .returned (V32 (sumOf (bs ++ cs))) ∧ Fr [] w w') := Lib.hid fun W hF =>
    (more_any (sumOf bs) (.slice B m d) cs W (HT.out.fr0 hF) (by rw [Hm.out]; omega)).mono fun _ _ ⟨h1, h2⟩ => ⟨by rw [h1, more_sums], hF.trans h2 (by simp)⟩
  generalize inv (run (inv s) cs) = SM at HMo HRM
  generalize sumOf bs = SA at HA HRA HMA
  obtain ⟨SC, hSC⟩ : ∃ S, S = sumOf (bs ++ cs) := ⟨_, rfl⟩
  rw [← hSC] at HMA
  have HSC := Lib.hid hSC; clear hSC
  have F4 := Lib.hid (Fr.refl [] w)
  go_enter Try.func3, Try.ntmps3
  go_wp2_with fail
  refine (HAl.out _ F4.out).mono ?_
  rintro e w5 ⟨rfl, f5⟩
  have F5 := Lib.hid f5; clear f5
  go_wp2_with fail
  refine (HA.out _ F5.out).mono ?_
  rintro e w6 ⟨rfl, f6⟩
  have F6 := Lib.hid f6; clear f6
  go_wp2_with fail
  refine (HRA.out _ F6.out).mono ?_
  rintro e w7 ⟨rfl, f7⟩
  have F7 := Lib.hid f7; clear f7
  go_wp2_with fail
  refine (HMo.out _ F7.out).mono ?_
  rintro e w8 ⟨rfl, f8⟩
  have F8 := Lib.hid f8; clear f8
  go_wp2_with fail
  refine (HRM.out _ F8.out).mono ?_
  rintro e w9 ⟨rfl, f9⟩
  have F9 := Lib.hid f9; clear f9
  go_wp2_with fail
  refine (HA.out _ F9.out).mono ?_
  rintro e w10 ⟨rfl, f10⟩
  have F10 := Lib.hid f10; clear f10
  go_wp2_with fail
  refine (HMA.out _ F10.out).mono ?_
  rintro e w11 ⟨rfl, f11⟩
  have F11 := Lib.hid f11; clear f11
  go_wp2_with (at_builtin; go_loud (refine wp_append_u8G _ _ (.slice (some ⟨w11.heap.size, 0, none⟩) 0 0) [] (.slice A n c) bs (by rfl) rfl rfl rfl (Own.lit w11 5 #[] 0 rfl (by simp [maxLen])) ((HS.out.fr0 F11.out).fr0 ((Fr.refl _ _).alloc _)) (by simp; have := Hn.out; omega) ?_))
  intro v12 w12 hO hG
  have hM := Mine.copied (xs := bs) hO hG F11.out
  have HM := Lib.hid hM; clear hM hO hG
  go_wp2_with (at_builtin; go_loud (refine wp_append_u8G _ _ v12 bs (.slice B m d) cs (by rfl) rfl rfl rfl HM.out.own (HT.out.fr0 HM.out.fr) (by have := Hn.out; have := Hm.out; omega) ?_))
  intro v13 w13 hO hG
  have hM := HM.out.appended (ys := cs) (by rw [List.map_append]; exact hO) hG
  have hR := rsum_any v13 (bs ++ cs) w13 hM.src (by simp; rw [Hn.out, Hm.out]; omega)
  rw [← HSC.out] at hR
  have HR := Lib.hid hR; clear hR
  have HM2 := Lib.hid hM; clear hM hO hG HM
  go_wp2_with fail
  refine HR.out.mono ?_
  rintro e w14 ⟨rfl, f14⟩
  have F14 := Lib.hid f14; clear f14
  go_wp2_with fail
  go_ret
  exact ⟨rfl, HM2.out.fr.trans F14.out (by simp)⟩

set_option maxRecDepth 100000 in
theorem sums_lifted (os : Os) (started : os.Started) (H : Type) (enc : TypeId × Value → H) :
    ReturnsInHanded {} Try.checked os 3 .any (Rows.crcSumsSpec.pre6 enc Try.prog Try.f3 Rows.crcSumsRow.domain false) (Rows.crcSumsSpec.post enc Try.prog Try.f3 false true false false) := by
  refine law_lift (C := Try.checked) own_knob started (by kernel_rfl) Try.func3
    (ChangeSpec.witness6 (enc := enc) (C := Try.checked) false ⟨#[], #[.slice none 0 0, .slice none 0 0, .int .u32 0], []⟩ 8 (by kernel_rfl) (by kernel_rfl) (by kernel_rfl) (by kernel_rfl))
    laid_out rfl rfl Try.underlying4 (of_decide_eq_true (by kernel_rfl)) ?_
  intro W base args ds before hval0 hA0 hlt
  have hval : ∀ (j : Nat) t v, Try.f3.params[j]? = some t → args[j]? = some v → Value.okWide Try.prog W .any base t v := hval0
  have hA : DataW.TrodAll enc Try.prog W 0 (fun _ => true) true Try.f3.params.toList args.toList ds before := hA0
  rw [Try.params3] at hA hval
  obtain ⟨v0, v1, v2, d0, d1, d2, p0, p1, p2, rfl, rfl, -, ⟨fuel0, h0⟩, ⟨fuel1, h1⟩, h2⟩ := trodAll_three hA
  obtain ⟨A0, l0, c0, rfl⟩ := okWide_slice Try.underlying22 (hval 0 _ _ rfl rfl)
  obtain ⟨A1, l1, c1, rfl⟩ := okWide_slice Try.underlying22 (hval 1 _ _ rfl rfl)
  obtain ⟨A, n, c, bs, e, hbl, hn, hs⟩ := open_bytes (v := .slice A0 l0 c0) h0
  obtain ⟨B, m, d, cs, e2, hcl, hm, hs2⟩ := open_bytes (v := .slice A1 l1 c1) h1
  obtain ⟨a, rfl, -, -, wa⟩ := open_int Try.underlying23 (hval 2 _ _ rfl rfl) h2
  obtain ⟨v, rfl⟩ := u32_word wa
  rw [e, e2]
  simp only [maxLen] at hn hm
  refine ⟨rfl, ?_⟩
  by_cases h : n ≤ 300 ∧ m ≤ 300
  · exact (sums_any A n c B m d v bs cs W hs hbl hs2 hcl (by omega) (by omega)).mono fun e W' ⟨he, hf⟩ => ⟨he, hf.below (by simp) (Nat.le_refl _)⟩
  · exact (sums_out A n c B m d _ W (by omega) (by omega) h).mono fun e W' ⟨he, hf⟩ => ⟨he, hf.below (by simp) (Nat.le_refl _)⟩

theorem sums_holds : Rows.CrcSumsSaid :=
  OpenClaim.holds_of_wide 3 Try.f3 rfl rfl rfl rfl rfl rfl rfl ⟨rfl, rfl, rfl, rfl, rfl⟩ rfl rfl rfl rfl rfl (by kernel_rfl) Try.func3 (by kernel_rfl)
    (of_decide_eq_true (by kernel_rfl)) (by unfold Func.isWrapper; first | (rw [if_pos (by decide +kernel)]; kernel_rfl) | (rw [if_neg (by decide +kernel)]; exact ⟨rfl, rfl⟩))
    (fun os started H enc _ => sums_lifted os started H enc)
#print axioms sums_holds
end Go.Proofs.Ytdpkhhmmoiianaa
