/-
  The law CrcTurned answers true whatever its input, and leaves its arguments as they were; no condition.
-/
import Derived.Test.YtdpkhhmmoiianaaCNew
import Derived.Test.YtdpkhhmmoiianaaRow
import Derived.Test.YtdpkhhmmoiianaaActs
namespace Go.Proofs.Ytdpkhhmmoiianaa
open Go.ChangeShapes Go.WideShapes Go.ChangeAt Go.RowKit

theorem u32_w {x : Int} (h : (Lit.int .u32 x).wf = true) : ∃ v : W32, x = (v.toNat : Int) := by
  simp [Lit.wf, IntKind.min, IntKind.max, IntKind.signed, IntKind.bits] at h
  refine ⟨BitVec.ofNat 32 x.toNat, ?_⟩
  rw [BitVec.toNat_ofNat, Nat.mod_eq_of_lt (by omega)]
  omega

/-- One bit more is turned. -/
theorem turn_bit (s : W32) (bs xs : List UInt8) (at_ i : Nat) (v : W32) (hl : xs.length = bs.length) (ha : at_ + 32 ≤ 8 * bs.length) (hi : i < 32) (hv : v.getLsbD i = true)
    (h : run s xs = run s bs ^^^ stN (8 * bs.length - at_) (lowBits v i)) : run s (flip xs (at_ + i)) = run s bs ^^^ stN (8 * bs.length - at_) (lowBits v (i + 1)) := by
  rw [run_flip s xs _ (by omega), h, lowBits_succ v i hi, hv, if_pos rfl, stN_xor, BitVec.xor_assoc, hl]
  congr 2
  rw [show 8 * bs.length - at_ = i + (8 * bs.length - (at_ + i)) by omega, stN_add, stN_back i hi]
theorem turn_none (s : W32) (bs xs : List UInt8) (at_ i : Nat) (v : W32) (hi : i < 32) (hv : v.getLsbD i = false)
    (h : run s xs = run s bs ^^^ stN (8 * bs.length - at_) (lowBits v i)) : run s xs = run s bs ^^^ stN (8 * bs.length - at_) (lowBits v (i + 1)) := by
  rw [h, lowBits_succ v i hi, hv, if_neg (by simp), BitVec.xor_zero]
/-- What is turned is told. -/
theorem turned_told (s : W32) (bs xs : List UInt8) (at_ : Nat) (v : W32) (h : run s xs = run s bs ^^^ stN (8 * bs.length - at_) (lowBits v 32)) : run s xs = run s bs ↔ v = 0#32 := by
  rw [lowBits_all] at h
  rw [h]
  constructor
  · intro e
    by_cases h0 : stN (8 * bs.length - at_) v = 0#32
    · exact stN_inj h0
    · exact absurd e (xor_ne h0)
  · rintro rfl
    rw [stN_zero]; simp

/-- The test of a bit, as the law counts it. -/
theorem bit_code (v : W32) (i : Nat) : (((v.toNat : Int) / 2 ^ i).tmod 2 == 1) = v.getLsbD i := by
  have h0 : (v.toNat : Int) / 2 ^ i = ((v.toNat / 2 ^ i : Nat) : Int) := by simp
  have h : ((v.toNat : Int) / 2 ^ i).tmod 2 = ((v.toNat / 2 ^ i % 2 : Nat) : Int) := by
    rw [h0, Int.tmod_eq_emod_of_nonneg (Int.natCast_nonneg _)]; simp
  rw [h, BitVec.getLsbD, Nat.testBit_eq_decide_div_mod_eq]
  by_cases h2 : v.toNat / 2 ^ i % 2 = 1
  · rw [h2]; rfl
  · rw [decide_eq_false h2, beq_eq_false_iff_ne]; omega

theorem turned_out (Ab : Option Addr) (n cb : Nat) (i v : Int) (w : World) (hn : n ≤ 9223372036854775807) (h : ¬ (n ≤ 300 ∧ 0 ≤ i ∧ i + 32 ≤ 8 * n)) :
    Calls Try.prog 6 #[.slice Ab n cb, .int .i64 i, .int .u32 v] w fun e w' => e = .returned (.bool true) ∧ Fr [] w w' := by
  by_cases h1 : 300 < n
  · have e1 : decide ((300 : Int) < (n : Int)) = true := by simp; omega
    go_enter Try.func6, Try.ntmps6
    go_wp2_with fail
    refine (alive3_any _).mono ?_
    rintro e w3 ⟨rfl, hF3⟩
    go_wp2_with fail
    go_ret
    exact ⟨rfl, hF3⟩
  have e1 : decide ((300 : Int) < (n : Int)) = false := by simp; omega
  by_cases h2 : i < 0
  · have e2 : decide (i < 0) = true := by simp; omega
    go_enter Try.func6, Try.ntmps6
    go_wp2_with fail
    refine (alive3_any _).mono ?_
    rintro e w3 ⟨rfl, hF3⟩
    go_wp2_with fail
    go_ret
    exact ⟨rfl, hF3⟩
  have e2 : decide (i < 0) = false := by simp; omega
  have e3 : decide (8 * (n : Int) - 32 < i) = true := by simp; omega
  go_enter Try.func6, Try.ntmps6
  go_wp2_with fail
  refine (alive3_any _).mono ?_
  rintro e w3 ⟨rfl, hF3⟩
  go_wp2_with fail
  go_ret
  exact ⟨rfl, hF3⟩

set_option maxRecDepth 20000 in
set_option maxHeartbeats 4000000 in
theorem turned_any (Ab : Option Addr) (n cb i : Nat) (v : W32) (bs : List UInt8) (w : World) (hb : Src w (.slice Ab n cb) (bs.map B8)) (hn : bs.length = n) (h300 : n ≤ 300) (hi : i + 32 ≤ 8 * n) :
    Calls Try.prog 6 #[.slice Ab n cb, .int .i64 (i : Int), V32 v] w fun e w' => e = .returned (.bool true) ∧ Fr [] w w' := by
  have Hn := Lib.hid hn; clear hn
  have HS := Lib.hid hb; clear hb
  have e1 : decide ((300 : Int) < (n : Int)) = false := by simp; omega
  have e2 : decide ((i : Int) < 0) = false := by simp
  have e3 : decide (8 * (n : Int) - 32 < (i : Int)) = false := by simp; omega
  go_enter Try.func6, Try.ntmps6
  go_wp2_with (at_builtin; refine wp_append_u8 _ _ (.slice (some ⟨w.heap.size, 0, none⟩) 0 0) [] (.slice Ab n cb) bs rfl rfl rfl rfl (Own.lit w 5 #[] 0 rfl (by simp [maxLen])) (HS.out.fr0 ((Fr.refl _ _).alloc _)) (by simp; have := Hn.out; omega) ?_)
  intro v1 w1 hO hG
  have hM := Mine.copied (xs := bs) hO hG (Fr.refl _ w)
  clear hO hG
  obtain ⟨A, c, rfl⟩ := hM.slice
  rw [Hn.out] at hM ⊢
  have HM := Lib.hid hM; clear hM
  go_wp2_with fail
  go_loopw [8] (fun s8 wr => ∃ (j : Nat) (xs : List UInt8), j ≤ 32 ∧ s8 = .int .i64 (j : Int) ∧ xs.length = n ∧ run (inv 0#32) xs = run (inv 0#32) bs ^^^ stN (8 * bs.length - i) (lowBits v j) ∧ Mine w wr (.slice A n c) xs) (fun s8 _ => 32 - (intOf s8).toNat)
  case atStart => exact ⟨0, bs, by omega, rfl, Hn.out, by rw [lowBits_zero, stN_zero]; simp, HM.out⟩
  case round =>
    obtain ⟨j, xs, hj, rfl, hxl, hR, hM⟩ := hrel
    have Hxl := Lib.hid hxl; clear hxl
    have HR := Lib.hid hR; clear hR
    by_cases hlt : j < 32
    · have eg : decide ((j : Int) < 32) = true := by simp; omega
      have eb := bit_code v j
      cases hv : v.getLsbD j
      · rw [hv] at eb
        have Hv := Lib.hid hv; clear hv
        have HM2 := Lib.hid hM; clear hM
        go_wp2_with fail
        exact ⟨⟨j + 1, xs, by omega, by simp, Hxl.out, turn_none _ _ _ _ _ _ hlt Hv.out HR.out, HM2.out⟩, by simp [intOf]; omega⟩
      · rw [hv] at eb
        have Hv := Lib.hid hv; clear hv
        obtain ⟨m, hm⟩ : ∃ m, m = i + j := ⟨_, rfl⟩
        have es : (i : Int) + (j : Int) = (m : Int) := by omega
        have hm8 : m < 8 * n := by omega
        have hR2 := turn_bit _ bs xs i j v (by rw [Hxl.out, Hn.out]) (by rw [Hn.out]; exact hi) hlt Hv.out HR.out
        rw [← hm] at hR2
        have HR2 := Lib.hid hR2; clear hR2
        have Hm := Lib.hid hm; clear hm
        obtain ⟨g, rfl, -, c1, c2, -, hset⟩ := hM.cell (j := m / 8) (by have := Hxl.out; omega)
        obtain ⟨x, hx⟩ : ∃ x, x = xs.getD (m / 8) 0 := ⟨_, rfl⟩
        rw [← hx] at c1
        have eX := flip_code x m
        obtain ⟨y, hy⟩ : ∃ y, y = x ^^^ bitOf m := ⟨_, rfl⟩
        rw [← hy] at eX
        have h2 := (hset y).1
        rw [hy, hx] at h2
        change Mine w _ _ (flip xs m) at h2
        rw [← hx, ← hy] at h2
        have H2 := Lib.hid h2; clear h2 hset hx hy hM
        go_wp2_with fail
        exact ⟨⟨j + 1, flip xs m, by omega, by simp, by rw [flip_length]; exact Hxl.out, HR2.out, H2.out⟩, by simp [intOf]; omega⟩
    · obtain rfl : j = 32 := by omega
      have eg : decide ((32 : Int) < 32) = false := by decide
      have hT := turned_told (inv 0#32) bs xs i v HR.out
      have HM2 := Lib.hid hM; clear hM
      have HA := Lib.hid (alive_behind wr)
      have HB := Lib.hid (sum_behind (HS.out.fr0 HM2.out.fr) (by rw [Hn.out]; omega))
      have HX := Lib.hid (sum_behind HM2.out.src (by rw [Hxl.out]; omega))
      have HF := Lib.hid HM2.out.fr
      have tq : (((sumOf xs).toNat : Int) == ((sumOf bs).toNat : Int)) = ((v.toNat : Int) == 0) := by
        rw [eq_code, show ((v.toNat : Int) == 0) = ((v.toNat : Int) == ((0#32 : W32).toNat : Int)) by rfl, eq_code, decide_eq_decide, ← hT]
        exact ⟨fun e => inv_inj e, fun e => by unfold sumOf; rw [e]⟩
      generalize sumOf bs = SB at tq HB
      generalize sumOf xs = SX at tq HX
      clear hT HS HR HM2 HM
      obtain ⟨b0, hb0⟩ : ∃ b, b = ((v.toNat : Int) == 0) := ⟨_, rfl⟩
      rw [← hb0] at tq
      have hb1 := hb0.symm
      clear hb0
      have tt : (b0 == b0) = true := by simp
      go_wp2_with fail
      refine (HA.out _ (Fr.refl _ _)).mono ?_
      rintro e w5 ⟨rfl, f5⟩
      have F5 := Lib.hid f5; clear f5
      go_wp2_with fail
      refine (HX.out _ F5.out).mono ?_
      rintro e w6 ⟨rfl, f6⟩
      have F6 := Lib.hid f6; clear f6
      go_wp2_with fail
      refine (HB.out _ F6.out).mono ?_
      rintro e w7 ⟨rfl, f7⟩
      have F7 := Lib.hid f7; clear f7
      go_wp2_with fail
      go_ret
      exact ⟨rfl, HF.out.trans F7.out (by simp)⟩

set_option maxRecDepth 100000 in
theorem turned_lifted (os : Os) (started : os.Started) (H : Type) (enc : TypeId × Value → H) :
    ReturnsInHanded {} Try.checked os 6 .any (Rows.crcTurnedSpec.pre6 enc Try.prog Try.f6 Rows.crcTurnedRow.domain false) (Rows.crcTurnedSpec.post enc Try.prog Try.f6 false true false false) := by
  refine law_lift (C := Try.checked) own_knob started (by kernel_rfl) Try.func6
    (ChangeSpec.witness6 (enc := enc) (C := Try.checked) false ⟨#[], #[.slice none 0 0, .int .i64 0, .int .u32 0], []⟩ 8 (by kernel_rfl) (by kernel_rfl) (by kernel_rfl) (by kernel_rfl))
    laid_out rfl rfl Try.underlying4 (of_decide_eq_true (by kernel_rfl)) ?_
  intro W base args ds before hval0 hA0 hlt
  have hval : ∀ (j : Nat) t v, Try.f6.params[j]? = some t → args[j]? = some v → Value.okWide Try.prog W .any base t v := hval0
  have hA : DataW.TrodAll enc Try.prog W 0 (fun _ => true) true Try.f6.params.toList args.toList ds before := hA0
  rw [Try.params6] at hA hval
  obtain ⟨v0, v1, v2, d0, d1, d2, p0, p1, p2, rfl, rfl, -, ⟨fuel0, h0⟩, h1, h2⟩ := trodAll_three hA
  obtain ⟨A0, l0, c0, rfl⟩ := okWide_slice Try.underlying22 (hval 0 _ _ rfl rfl)
  obtain ⟨A, n, c, bs, e, hbl, hn, hs⟩ := open_bytes (v := .slice A0 l0 c0) h0
  obtain ⟨a, rfl, -, -, wa⟩ := open_int Try.underlying3 (hval 1 _ _ rfl rfl) h1
  obtain ⟨b, rfl, -, -, wb⟩ := open_int Try.underlying23 (hval 2 _ _ rfl rfl) h2
  obtain ⟨v, rfl⟩ := u32_w wb
  rw [e]
  simp only [maxLen] at hn
  refine ⟨rfl, ?_⟩
  by_cases h : n ≤ 300 ∧ 0 ≤ a ∧ a + 32 ≤ 8 * n
  · obtain ⟨i, rfl⟩ : ∃ i : Nat, a = (i : Int) := ⟨a.toNat, by omega⟩
    exact (turned_any A n c i v bs W hs hbl (by omega) (by omega)).mono fun e W' ⟨he, hf⟩ => ⟨he, hf.below (by simp) (Nat.le_refl _)⟩
  · exact (turned_out A n c a _ W (by omega) h).mono fun e W' ⟨he, hf⟩ => ⟨he, hf.below (by simp) (Nat.le_refl _)⟩

theorem turned_holds : Rows.CrcTurnedSaid :=
  OpenClaim.holds_of_wide 6 Try.f6 rfl rfl rfl rfl rfl rfl rfl ⟨rfl, rfl, rfl, rfl, rfl⟩ rfl rfl rfl rfl rfl (by kernel_rfl) Try.func6 (by kernel_rfl)
    (of_decide_eq_true (by kernel_rfl)) (by unfold Func.isWrapper; first | (rw [if_pos (by decide +kernel)]; kernel_rfl) | (rw [if_neg (by decide +kernel)]; exact ⟨rfl, rfl⟩))
    (fun os started H enc _ => turned_lifted os started H enc)
#print axioms turned_holds
end Go.Proofs.Ytdpkhhmmoiianaa
