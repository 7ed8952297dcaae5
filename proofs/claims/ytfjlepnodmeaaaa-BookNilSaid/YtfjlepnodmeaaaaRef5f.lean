/-
  Contracts of the document's book: Get.
-/
import Derived.Test.YtfjlepnodmeaaaaRef5e
namespace Go.Proofs.Ytfjlepnodmeaaaa
open Go.RowKit

def GotPost (q p : Nat) (A : Option Addr) (cc : Nat) (bs : List UInt8) (w : World) (g : Got) (r : Ending) (w' : World) : Prop :=
  match g with
  | .bad e => r = .returned (.tuple #[.int .i64 0, .int .i64 e]) ∧ Fr [q, p] w w'
  | .ok v B d => r = .returned (.tuple #[.int .i64 v, .int .i64 0]) ∧ Eye w' q B p A cc bs d ∧ Fr [q, p] w w'

theorem rGet_bad (t : Int) (a b : Value) (w : World) (h : ¬ (0 ≤ t ∧ t ≤ 15)) :
    Calls Try.prog 35 #[a, b, .int .i64 t] w fun r w' => r = .returned (.tuple #[.int .i64 0, .int .i64 1]) ∧ w' = w := by
  have HT := rtopic_any t w
  rw [decide_eq_false h] at HT
  have HT := Lib.hid HT
  go_enter Try.func35, Try.ntmps35
  go_wp2_with fail
  refine HT.out.mono ?_
  rintro r w1 ⟨rfl, rfl⟩
  go_wp2_with fail
  go_ret2
  exact ⟨rfl, rfl⟩

set_option maxRecDepth 20000 in
set_option maxHeartbeats 4000000 in
theorem rGet_any (w : World) (q p t cc : Nat) (A : Option Addr) (bs : List UInt8) (d : Dec) (B : Chs) (h : Eye w q B p A cc bs d) (ht : t < 16) (hn : bs.length ≤ 100000) :
    Calls Try.prog 35 #[pt q, pt p, .int .i64 (t : Int)] w (GotPost q p A cc bs w (getNum bs t B d)) := by
  have HT := rtopic_any t w
  rw [decide_eq_true (by omega : 0 ≤ (t : Int) ∧ (t : Int) ≤ 15)] at HT
  have HT := Lib.hid HT
  obtain ⟨g, hg⟩ : ∃ g, g = getNum bs t B d := ⟨_, rfl⟩
  rw [← hg]
  have Hg := Lib.hid hg
  have H := Lib.hid h
  clear h hg
  go_enter Try.func35, Try.ntmps35
  go_wp2_with fail
  refine HT.out.mono ?_
  rintro r w1 ⟨rfl, rfl⟩
  clear HT
  go_wp2_with fail
  go_loopw [9] (fun s9 wr => ∃ (x : Nat) (B1 : Chs) (d1 : Dec), 1 ≤ x ∧ x ≤ 21 ∧ s9 = .int .i64 (x : Int) ∧ getLen bs t (21 - x) (x - 1) B1 d1 = getLen bs t 20 0 B d ∧ Eye wr q B1 p A cc bs d1 ∧ Fr [q, p] w1 wr) (fun s9 _ => 21 - (intOf s9).toNat)
  case atStart => exact ⟨1, B, d, by omega, by omega, rfl, rfl, H.out, Fr.refl _ _⟩
  case round =>
    obtain ⟨x, B1, d1, hx1, hx2, rfl, hL, hE, hF⟩ := hrel
    have HL := Lib.hid hL; have HE := Lib.hid hE; have HF := Lib.hid hF
    clear hL hE hF H
    rcases Nat.lt_or_ge x 21 with h21 | h21
    case' inl =>
      have e1 : decide ((x : Int) < 21) = true := by simp; omega
      have hG := rgetB_any wr q p t cc A bs d1 B1 (some (x - 1)) HE.out ht (fun j hj => by injection hj with hj; omega) hn
      rw [show plI (some (x - 1)) = (x : Int) - 1 from (by show ((x - 1 : Nat) : Int) = _; omega)] at hG
      have HG := Lib.hid hG
      have hstep : getLen bs t (21 - x) (x - 1) B1 d1 = match getEv bs t B1 d1 (some (x - 1)) with | none => none | some (b, B', d') => if b then getLen bs t (21 - (x + 1)) (x + 1 - 1) B' d' else some (x - 1, B', d') := by
        rw [show 21 - x = (21 - (x + 1)) + 1 by omega, show x + 1 - 1 = (x - 1) + 1 by omega]
        rfl
      have Hstep := Lib.hid hstep
      clear hG hstep
      go_wp2_with fail
      refine HG.out.mono ?_
      rintro r1 w2 (⟨bit, B2, d2, hge, rfl, hE2, hF2⟩ | ⟨hge, rfl, hF2⟩)
      rotate_left
      · have HF2 := Lib.hid (HF.out.trans hF2 (by simp))
        have hgb : g = .bad 41 := by
          rw [Hg.out]
          unfold getNum
          rw [← HL.out, Hstep.out, hge]
        have Hgb := Lib.hid hgb
        clear hF2 hge hgb HG
        go_wp2_with fail
        go_ret2
        rw [Hgb.out]
        exact ⟨rfl, HF2.out⟩
      have hLs := Hstep.out
      rw [hge, HL.out] at hLs
      have hF3 := HF.out.trans hF2 (by simp)
      have hEW := hE2
      cases bit with
      | true =>
        have HLs := Lib.hid hLs; have HF3 := Lib.hid hF3; have HE2 := Lib.hid hE2
        clear hge hLs hF3 hE2 hEW hF2 HG
        go_wp2_with fail
        exact ⟨⟨x + 1, B2, d2, by omega, by omega, by simp, HLs.out.symm, HE2.out, HF3.out⟩, by simp [intOf]; omega⟩
      | false => ?_
      have hres : getLen bs t 20 0 B d = some (x - 1, B2, d2) := hLs
      clear hLs hge hEW hF2
      have HR := Lib.hid hres; have HF3 := Lib.hid hF3; have HE3 := Lib.hid hE2
      clear hres hF3 hE2 HG Hstep HL HE HF
      go_upto_region 11 with fail
    case' inr =>
      have e1 : decide ((x : Int) < 21) = false := by simp; omega
      have hres : getLen bs t 20 0 B d = some (x - 1, B1, d1) := by
        have := HL.out
        rw [show 21 - x = 0 by omega] at this
        exact this.symm
      have HR := Lib.hid hres; have HF3 := HF; have HE3 := HE
      clear hres HL HE HF
      go_upto_region 11 with fail
      generalize wr = w2 at HF3 HE3 ⊢
      generalize B1 = B2 at HR HE3
      generalize d1 = d2 at HR HE3
    all_goals
      clear e1 h21 HT
      go_wp2_with fail
      go_loopw [12, 13] (fun s12 s13 wx => ∃ (i a V : Nat) (B3 : Chs) (d3 : Dec), i ≤ x - 1 ∧ a < 2 ^ i ∧ V = 2 ^ i + a ∧ s12 = .int .i64 (V : Int) ∧ s13 = .int .i64 (i : Int) ∧ getBits bs t (x - 1 - i) i a B3 d3 = getBits bs t (x - 1) 0 0 B2 d2 ∧ Eye wx q B3 p A cc bs d3 ∧ Fr [q, p] w1 wx) (fun _ s13 _ => 20 - (intOf s13).toNat)
      case atStart => exact ⟨0, 0, 1, B2, d2, by omega, by decide, rfl, rfl, rfl, rfl, HE3.out, HF3.out⟩
      case round =>
        obtain ⟨i, a, V, B3, d3, hi, ha, hV, rfl, rfl, hL, hE, hF⟩ := hrel
        have HL := Lib.hid hL; have HE := Lib.hid hE; have HF := Lib.hid hF; have HV := Lib.hid hV; have Ha := Lib.hid ha
        have hP20 : 2 ^ i ≤ 1048576 := Nat.pow_le_pow_right (n := 2) (i := i) (j := 20) (by omega) (by omega)
        obtain ⟨P, hP⟩ : ∃ P, P = 2 ^ i := ⟨_, rfl⟩
        have hVb : V ≤ 2097152 := by omega
        have hPV : P ≤ V := by omega
        rw [← hP] at hP20
        have HP := Lib.hid hP
        clear hL hE hF HF3 HE3 hV ha hP
        rcases Nat.lt_or_ge i (x - 1) with hix | hix
        · have e2 : decide ((i : Int) < (x : Int) - 1) = true := by simp; omega
          have eP : wrap64 ((2 : Int) ^ i) = (P : Int) := by
            rw [HP.out, show ((2 ^ i : Nat) : Int) = (2 : Int) ^ i by simp]
            have h1 : ((2 ^ i : Nat) : Int) = (2 : Int) ^ i := by simp
            have h2 := HP.out
            exact IntWalk.wrap64_in _ (by omega)
          have eVa : wrap64 ((V : Int) - (P : Int)) = (a : Int) := by
            have h1 := HV.out
            have h2 := HP.out
            have : (V : Int) - (P : Int) = (a : Int) := by omega
            rw [this]
            exact IntWalk.wrap64_in _ (by have := Ha.out; omega)
          have hPl := rplace_any i a wr (by omega) (by have := Ha.out; have := HP.out; omega)
          have hG := rgetB_any wr q p t cc A bs d3 B3 (place i a) HE.out ht (place_lt Ha.out) hn
          have hstep : getBits bs t (x - 1 - i) i a B3 d3 = match getEv bs t B3 d3 (place i a) with | none => none | some (b, B', d') => getBits bs t (x - 1 - (i + 1)) (i + 1) (2 * a + b.toNat) B' d' := by
            rw [show x - 1 - i = (x - 1 - (i + 1)) + 1 by omega]
            rfl
          obtain ⟨z, hz⟩ : ∃ z, z = plI (place i a) := ⟨_, rfl⟩
          rw [← hz] at hPl hG
          have HPl := Lib.hid hPl; have HG := Lib.hid hG; have Hstep := Lib.hid hstep
          have HeP := Lib.hid eP; have HeV := Lib.hid eVa
          clear hPl hG hstep hz eP eVa
          go_wp2_with fail
          rw [HeP.out, HeV.out]
          refine HPl.out.mono ?_
          rintro r1 w3 ⟨rfl, rfl⟩
          go_wp2_with fail
          refine HG.out.mono ?_
          rintro r1 w4 (⟨bit, B4, d4, hge, rfl, hE4, hF4⟩ | ⟨hge, rfl, hF4⟩)
          · have hLs := HL.out
            rw [Hstep.out, hge] at hLs
            have HLs := Lib.hid hLs
            have HF4 := Lib.hid (HF.out.trans hF4 (by simp))
            have HE4 := Lib.hid hE4
            have hb2 := Bool.toNat_le bit
            have hbV : ∃ V' : Nat, V' = 2 * V + bit.toNat := ⟨_, rfl⟩
            obtain ⟨V', hV'⟩ := hbV
            have HV' := Lib.hid hV'
            have eV' : 2 * (V : Int) + (bit.toNat : Int) = (V' : Int) := by omega
            clear hLs hge hE4 hF4 HG HPl hV'
            go_wp2_with fail
            refine ⟨⟨i + 1, 2 * a + bit.toNat, V', B4, d4, by omega, ?_, ?_, rfl, by simp, HLs.out, HE4.out, HF4.out⟩, by simp [intOf]; omega⟩
            · have := Ha.out
              rw [Nat.pow_succ]
              omega
            · have h1 := HV'.out
              have h2 := HV.out
              rw [Nat.pow_succ]
              omega
          · have HF4 := Lib.hid (HF.out.trans hF4 (by simp))
            have hgb : g = .bad 41 := by
              have hLs := HL.out
              rw [Hstep.out, hge] at hLs
              rw [Hg.out]
              unfold getNum
              rw [HR.out]
              simp only
              rw [← hLs]
            have Hgb := Lib.hid hgb
            clear hF4 hge hgb HG HPl
            go_wp2_with fail
            go_ret2
            rw [Hgb.out]
            exact ⟨rfl, HF4.out⟩
        · have e2 : decide ((i : Int) < (x : Int) - 1) = false := by simp; omega
          have hix2 : i = x - 1 := by omega
          have hLs := HL.out
          rw [hix2, Nat.sub_self] at hLs
          have hgn : g = if 1048576 < V - 1 then .bad 51 else .ok ((V - 1 : Nat) : Int) B3 d3 := by
            rw [Hg.out]
            unfold getNum
            rw [HR.out]
            simp only
            rw [← hLs]
            have h2 := HV.out
            rw [hix2] at h2
            rw [h2]
            rfl
          have hV1 : 1 ≤ V := by
            have := HV.out
            have := Nat.two_pow_pos i
            omega
          rcases Nat.lt_or_ge 1048576 (V - 1) with hb | hb
          · have e3 : decide (1048576 < (V : Int) - 1) = true := by simp; omega
            rw [if_pos hb] at hgn
            have Hgn := Lib.hid hgn
            clear hgn hLs hix2 hix hb
            go_wp2_with fail
            go_ret2
            rw [Hgn.out]
            exact ⟨rfl, HF.out⟩
          · have e3 : decide (1048576 < (V : Int) - 1) = false := by simp; omega
            rw [if_neg (by omega)] at hgn
            have Hgn := Lib.hid hgn
            have eV1 : ((V - 1 : Nat) : Int) = (V : Int) - 1 := by omega
            have HeV1 := Lib.hid eV1
            clear hgn hLs hix2 hix hb eV1
            go_wp2_with fail
            go_ret2
            rw [Hgn.out]
            refine ⟨?_, HE.out, HF.out⟩
            rw [HeV1.out]
            rfl
end Go.Proofs.Ytfjlepnodmeaaaa
