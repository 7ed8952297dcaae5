/-
  Contracts of the document's book: GetOne.
-/
import Derived.Test.YtfjlepnodmeaaaaRef5f
namespace Go.Proofs.Ytfjlepnodmeaaaa
open Go.RowKit

theorem rGetOne_bad (t n : Int) (a b : Value) (w : World) (h : ¬ (0 ≤ t ∧ t ≤ 15) ∨ n < 1 ∨ 16 < n) :
    Calls Try.prog 37 #[a, b, .int .i64 t, .int .i64 n] w fun r w' => r = .returned (.tuple #[.int .i64 0, .int .i64 1]) ∧ w' = w := by
  have HT := rtopic_any t w
  by_cases h1 : 0 ≤ t ∧ t ≤ 15
  · rw [decide_eq_true h1] at HT
    have HT := Lib.hid HT
    by_cases h2 : n < 1
    · have e1 : decide (n < 1) = true := by simpa using h2
      go_enter Try.func37, Try.ntmps37
      go_wp2_with fail
      refine HT.out.mono ?_
      rintro r w1 ⟨rfl, rfl⟩
      go_wp2_with fail
      go_ret2
      exact ⟨rfl, rfl⟩
    · have e1 : decide (n < 1) = false := by simpa using h2
      have e2 : decide (16 < n) = true := by simp; omega
      go_enter Try.func37, Try.ntmps37
      go_wp2_with fail
      refine HT.out.mono ?_
      rintro r w1 ⟨rfl, rfl⟩
      go_wp2_with fail
      go_ret2
      exact ⟨rfl, rfl⟩
  · rw [decide_eq_false h1] at HT
    have HT := Lib.hid HT
    go_enter Try.func37, Try.ntmps37
    go_wp2_with fail
    refine HT.out.mono ?_
    rintro r w1 ⟨rfl, rfl⟩
    go_wp2_with fail
    go_ret2
    exact ⟨rfl, rfl⟩

set_option maxRecDepth 20000 in
set_option maxHeartbeats 4000000 in
theorem rGetOne_any (w : World) (q p t m cc : Nat) (A : Option Addr) (bs : List UInt8) (d : Dec) (B : Chs) (h : Eye w q B p A cc bs d) (ht : t < 16) (hm1 : 1 ≤ m) (hm2 : m ≤ 16) (hn : bs.length ≤ 100000) :
    Calls Try.prog 37 #[pt q, pt p, .int .i64 (t : Int), .int .i64 (m : Int)] w (GotPost q p A cc bs w (getOne bs t m B d)) := by
  have HT := rtopic_any t w
  rw [decide_eq_true (by omega : 0 ≤ (t : Int) ∧ (t : Int) ≤ 15)] at HT
  have HT := Lib.hid HT
  have e1 : decide ((m : Int) < 1) = false := by simp; omega
  have e2 : decide (16 < (m : Int)) = false := by simp; omega
  obtain ⟨g, hg⟩ : ∃ g, g = getOne bs t m B d := ⟨_, rfl⟩
  rw [← hg]
  obtain ⟨N, hN⟩ : ∃ N, N = bitLen (m - 1) := ⟨_, rfl⟩
  have hN4 : N ≤ 4 := by rw [hN]; exact bitLen_le hm2
  have HW := rwidth_any m w (by omega) (by omega)
  rw [← hN] at HW
  unfold getOne at hg
  rw [← hN] at hg
  have HW := Lib.hid HW
  have Hg := Lib.hid hg
  have H := Lib.hid h
  clear h hg hN
  go_enter Try.func37, Try.ntmps37
  go_wp2_with fail
  refine HT.out.mono ?_
  rintro r w1 ⟨rfl, rfl⟩
  clear HT
  go_wp2_with fail
  refine HW.out.mono ?_
  rintro r w2 ⟨rfl, rfl⟩
  clear HW
  go_wp2_with fail
  go_loopw [11, 13] (fun s11 s13 wx => ∃ (i a : Nat) (B3 : Chs) (d3 : Dec), i ≤ N ∧ a < 2 ^ i ∧ s11 = .int .i64 (a : Int) ∧ s13 = .int .i64 (i : Int) ∧ getBits bs t (N - i) i a B3 d3 = getBits bs t N 0 0 B d ∧ Eye wx q B3 p A cc bs d3 ∧ Fr [q, p] w2 wx) (fun _ s13 _ => 20 - (intOf s13).toNat)
  case atStart => exact ⟨0, 0, B, d, by omega, by decide, rfl, rfl, rfl, H.out, Fr.refl _ _⟩
  case round =>
    obtain ⟨i, a, B3, d3, hi, ha, rfl, rfl, hL, hE, hF⟩ := hrel
    have HL := Lib.hid hL; have HE := Lib.hid hE; have HF := Lib.hid hF; have Ha := Lib.hid ha
    have hP : 2 ^ i ≤ 16 := Nat.pow_le_pow_right (n := 2) (i := i) (j := 4) (by omega) (by omega)
    have ha16 : a < 16 := by omega
    clear hL hE hF H ha hP
    by_cases hix : i < N
    · have e3 : decide (i < N) = true := by simpa using hix
      have hPl := rplace_any i a wr (by omega) (by omega)
      have hG := rgetB_any wr q p t cc A bs d3 B3 (place i a) HE.out ht (place_lt Ha.out) hn
      have hstep : getBits bs t (N - i) i a B3 d3 = match getEv bs t B3 d3 (place i a) with | none => none | some (b, B', d') => getBits bs t (N - (i + 1)) (i + 1) (2 * a + b.toNat) B' d' := by
        rw [show N - i = (N - (i + 1)) + 1 by omega]
        rfl
      obtain ⟨z, hz⟩ : ∃ z, z = plI (place i a) := ⟨_, rfl⟩
      rw [← hz] at hPl hG
      have HPl := Lib.hid hPl; have HG := Lib.hid hG; have Hstep := Lib.hid hstep
      clear hPl hG hstep hz
      go_wp2_with fail
      refine HPl.out.mono ?_
      rintro r1 w3 ⟨rfl, rfl⟩
      go_wp2_with fail
      refine HG.out.mono ?_
      rintro r1 w4 (⟨bit, B4, d4, hge, rfl, hE4, hF4⟩ | ⟨hge, rfl, hF4⟩)
      · have hLs := HL.out
        rw [Hstep.out, hge] at hLs
        have HLs := Lib.hid hLs
        have HF4 := Lib.hid (HF.out.trans hF4 (by simp))
        have HE4 := Lib.hid hE4
        have hb2 := Bool.toNat_le bit
        obtain ⟨V', hV'⟩ : ∃ V' : Nat, V' = 2 * a + bit.toNat := ⟨_, rfl⟩
        have HV' := Lib.hid hV'
        have eV' : 2 * (a : Int) + (bit.toNat : Int) = (V' : Int) := by omega
        clear hLs hge hE4 hF4 HG HPl hV'
        go_wp2_with fail
        refine ⟨⟨i + 1, V', B4, d4, by omega, ?_, rfl, by simp, by rw [HV'.out]; exact HLs.out, HE4.out, HF4.out⟩, by simp [intOf]; omega⟩
        have := Ha.out
        have := HV'.out
        rw [Nat.pow_succ]
        omega
      · have HF4 := Lib.hid (HF.out.trans hF4 (by simp))
        have hgb : g = .bad 41 := by
          have hLs := HL.out
          rw [Hstep.out, hge] at hLs
          rw [Hg.out, ← hLs]
        have Hgb := Lib.hid hgb
        clear hF4 hge hgb HG HPl
        go_wp2_with fail
        go_ret2
        rw [Hgb.out]
        exact ⟨rfl, HF4.out⟩
    · have e3 : decide (i < N) = false := by simpa using hix
      have hix2 : i = N := by omega
      have hLs := HL.out
      rw [hix2, Nat.sub_self] at hLs
      have hgn : g = if m ≤ a then .bad 51 else .ok (a : Int) B3 d3 := by
        rw [Hg.out, ← hLs]
        rfl
      by_cases hb : m ≤ a
      · have e4 : decide (m ≤ a) = true := by simpa using hb
        rw [if_pos hb] at hgn
        have Hgn := Lib.hid hgn
        clear hgn hLs hix2 hix hb
        go_wp2_with fail
        go_ret2
        rw [Hgn.out]
        exact ⟨rfl, HF.out⟩
      · have e4 : decide (m ≤ a) = false := by simpa using hb
        rw [if_neg hb] at hgn
        have Hgn := Lib.hid hgn
        clear hgn hLs hix2 hix hb
        go_wp2_with fail
        go_ret2
        rw [Hgn.out]
        exact ⟨rfl, HE.out, HF.out⟩
end Go.Proofs.Ytfjlepnodmeaaaa
