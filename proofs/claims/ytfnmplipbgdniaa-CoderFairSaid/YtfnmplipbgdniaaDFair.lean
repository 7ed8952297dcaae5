/-
  The law CoderFair answers true whatever its input, out of the coder's contracts; no condition.
-/
import Derived.Test.YtfnmplipbgdniaaCodSpec
namespace Go.Proofs.Ytfnmplipbgdniaa
open Go.RowKit

theorem iterC_succ (bit : Bool) : ∀ (n c : Nat), iterC bit (n + 1) c = nextC (iterC bit n c) bit
  | 0, _ => rfl
  | n + 1, c => iterC_succ bit n (nextC c bit)
theorem nextC_clamp (c : Nat) (bit : Bool) : nextC (clampC c) bit = nextC c bit := by
  have : clampC (clampC c) = clampC c := clampC_same (clampC_right c)
  unfold nextC; rw [this]
theorem iterC_clamp (bit : Bool) (n c : Nat) : iterC bit (n + 1) (clampC c) = iterC bit (n + 1) c := by
  show iterC bit n (nextC (clampC c) bit) = iterC bit n (nextC c bit)
  rw [nextC_clamp]
theorem iter_least_any (c : Nat) : iterC true 300 c = 31 := by rw [← iterC_clamp true 299 c]; exact iter_least (clampC_right c)
theorem iter_greatest_any (c : Nat) : iterC false 300 c = 2017 := by rw [← iterC_clamp false 299 c]; exact iter_greatest (clampC_right c)
theorem nextC_fair {c : Nat} (hc : rightC c) : c ≤ nextC c false ∧ nextC c true ≤ c := by
  unfold nextC
  rw [clampC_same hc]
  simp only [Bool.false_eq_true, if_false, if_true]
  omega
theorem iterC_lt (bit : Bool) (n c : Nat) (h : c < 65536) : iterC bit n c < 65536 := by
  cases n with
  | zero => exact h
  | succ n => rw [iterC_succ]; have := (nextC_right (iterC bit n c) bit).2; omega

set_option maxRecDepth 20000 in
set_option maxHeartbeats 4000000 in
theorem fair_law (X : EncSpec) (Y : DecSpec) (N : NextSpec) (c : Int) (A : Option Addr) (len cap : Nat) (bs : List Bool) (w : World) (hA : Src w (.slice A len cap) (bs.map Value.bool)) (hl : bs.length = len) (hm : len ≤ 9223372036854775807) :
    Calls Try.prog 7 #[.int .i64 c, .slice A len cap] w fun e w' => e = .returned (.bool true) ∧ Fr [] w w' := by
  have HA := Lib.hid hA
  have Hl := Lib.hid hl
  clear hA hl
  go_enter Try.func7, Try.ntmps7
  go_wp2_with fail
  refine (chance_any c w).mono ?_
  rintro e w' ⟨rfl, rfl⟩
  have hr0 := rawC_lt c
  generalize rawC c = x0 at hr0 ⊢
  go_wp2_with fail
  go_loopw [5, 6] (fun s5 s6 wr => ∃ (i x : Nat), i ≤ len ∧ i ≤ 400 ∧ s6 = .int .i64 (i : Int) ∧ s5 = .int .u16 (x : Int) ∧ x < 65536 ∧ Fr [] w' wr) (fun _ s6 _ => 400 - (intOf s6).toNat)
  case atStart => exact ⟨0, x0, by omega, by omega, rfl, rfl, hr0, Fr.refl _ _⟩
  case round =>
    obtain ⟨i, x, hi1, hi2, rfl, rfl, hx, hF⟩ := hrel
    have HF := Lib.hid hF; clear hF
    by_cases hlt : i < len ∧ i < 400
    · obtain ⟨hlt1, hlt2⟩ := hlt
      obtain ⟨s, hs⟩ : ∃ s, bs[i]? = some s := ⟨_, List.getElem?_eq_getElem (by have := Hl.out; omega)⟩
      obtain ⟨ad, rfl, c0⟩ := (HA.out.fr0 HF.out).cellAt hs
      have eg : decide (i < len) = true := by simpa using hlt1
      have eg2 : decide ((i : Int) < 400) = true := by simp; omega
      clear hs
      obtain ⟨y, hy⟩ : ∃ y, y = nextC x s := ⟨_, rfl⟩
      have hyr : rightC y := by rw [hy]; exact nextC_right x s
      have f1 : decide ((y : Int) < 31) = false := by have := hyr.1; simp; omega
      have f2 : decide (2017 < (y : Int)) = false := by have := hyr.2; simp; omega
      have hy6 : y < 65536 := by have := hyr.2; omega
      have HN : Hid (∀ W, Calls Try.prog 15 #[.int .u16 (x : Int), .int .i64 (s.toNat : Int)] W fun r w' => r = .returned (.int .u16 (y : Int)) ∧ Fr [] W w') := Lib.hid fun W => by
        have := N W x (s.toNat : Int) hx (by cases s <;> decide) (by cases s <;> decide)
        rw [show (((s.toNat : Nat) : Int) != 0) = s by cases s <;> rfl, ← hy] at this
        exact this
      by_cases hxr : rightC x
      · have g1 : decide ((31 : Int) ≤ (x : Int)) = true := by have := hxr.1; simp; omega
        have g2 : decide ((x : Int) ≤ 2017) = true := by have := hxr.2; simp; omega
        have hf := nextC_fair hxr
        cases s
        · have g3 : decide (y < x) = false := by rw [hy]; simp; omega
          clear hf hxr hyr hy hx
          go_wp2_with fail
          refine (HN.out _).mono ?_
          rintro e w2 ⟨rfl, hF2⟩
          have HF2 := Lib.hid (HF.out.trans hF2 (by simp)); clear hF2
          go_wp2_with fail
          exact ⟨⟨i + 1, y, by omega, by omega, by simp, rfl, hy6, HF2.out⟩, by simp [intOf]; omega⟩
        · have g3 : decide (x < y) = false := by rw [hy]; simp; omega
          clear hf hxr hyr hy hx
          go_wp2_with fail
          refine (HN.out _).mono ?_
          rintro e w2 ⟨rfl, hF2⟩
          have HF2 := Lib.hid (HF.out.trans hF2 (by simp)); clear hF2
          go_wp2_with fail
          exact ⟨⟨i + 1, y, by omega, by omega, by simp, rfl, hy6, HF2.out⟩, by simp [intOf]; omega⟩
      · by_cases h31 : 31 ≤ x
        · have g1 : decide ((31 : Int) ≤ (x : Int)) = true := by simp; omega
          have g2 : decide ((x : Int) ≤ 2017) = false := by
            have : ¬ x ≤ 2017 := fun h => hxr ⟨h31, h⟩
            simp; omega
          clear hxr hyr hy hx h31
          cases s
          all_goals
            go_wp2_with fail
            refine (HN.out _).mono ?_
            rintro e w2 ⟨rfl, hF2⟩
            have HF2 := Lib.hid (HF.out.trans hF2 (by simp)); clear hF2
            go_wp2_with fail
            exact ⟨⟨i + 1, y, by omega, by omega, by simp, rfl, hy6, HF2.out⟩, by simp [intOf]; omega⟩
        · have g1 : decide ((31 : Int) ≤ (x : Int)) = false := by simp; omega
          clear hxr hyr hy hx h31
          cases s
          all_goals
            go_wp2_with fail
            refine (HN.out _).mono ?_
            rintro e w2 ⟨rfl, hF2⟩
            have HF2 := Lib.hid (HF.out.trans hF2 (by simp)); clear hF2
            go_wp2_with fail
            exact ⟨⟨i + 1, y, by omega, by omega, by simp, rfl, hy6, HF2.out⟩, by simp [intOf]; omega⟩
    · have hex : (decide (i < len) = false) ∨ (decide (i < len) = true ∧ decide ((i : Int) < 400) = false) := by
        by_cases h1 : i < len
        · exact .inr ⟨by simpa using h1, by simp; omega⟩
        · exact .inl (by simpa using h1)
      rcases hex with eg | ⟨eg, eg2⟩
      all_goals
        clear hlt
        go_wp2_with fail
        go_loopw [9, 10, 11] (fun s9 s10 s11 wy => ∃ j : Nat, j ≤ 300 ∧ s11 = .int .i64 (j : Int) ∧ s9 = .int .u16 (iterC true j x : Int) ∧ s10 = .int .u16 (iterC false j x : Int) ∧ Fr [] w' wy) (fun _ _ s11 _ => 300 - (intOf s11).toNat)
        case atStart => exact ⟨0, by omega, rfl, rfl, rfl, HF.out⟩
        case round =>
          obtain ⟨j, hj, rfl, rfl, rfl, hF⟩ := hrel
          have HFj := Lib.hid hF; clear hF
          by_cases hj3 : j < 300
          · have eg3 : decide ((j : Int) < 300) = true := by simp; omega
            have HN1 : Hid (∀ W, Calls Try.prog 15 #[.int .u16 (iterC true j x : Int), .int .i64 1] W fun r w' => r = .returned (.int .u16 (iterC true (j + 1) x : Int)) ∧ Fr [] W w') := Lib.hid fun W => by
              rw [iterC_succ]; exact N W _ 1 (iterC_lt _ _ _ hx) (by decide) (by decide)
            have HN2 : Hid (∀ W, Calls Try.prog 15 #[.int .u16 (iterC false j x : Int), .int .i64 0] W fun r w' => r = .returned (.int .u16 (iterC false (j + 1) x : Int)) ∧ Fr [] W w') := Lib.hid fun W => by
              rw [iterC_succ]; exact N W _ 0 (iterC_lt _ _ _ hx) (by decide) (by decide)
            go_wp2_with fail
            refine (HN1.out _).mono ?_
            rintro e w2 ⟨rfl, hF2⟩
            have HF2 := Lib.hid (HFj.out.trans hF2 (by simp)); clear hF2
            go_wp2_with fail
            refine (HN2.out _).mono ?_
            rintro e w3 ⟨rfl, hF3⟩
            have HF3 := Lib.hid (HF2.out.trans hF3 (by simp)); clear hF3
            go_wp2_with fail
            exact ⟨⟨j + 1, by omega, by simp, rfl, rfl, HF3.out⟩, by simp [intOf]; omega⟩
          · obtain rfl : j = 300 := by omega
            have eg3 : decide ((300 : Int) < 300) = false := by decide
            rw [iter_least_any, iter_greatest_any]
            go_wp2_with fail
            refine (alive4_any X Y N _).mono ?_
            rintro e w5 ⟨rfl, hF5⟩
            have HF5 := Lib.hid (HFj.out.trans hF5 (by simp)); clear hF5
            go_wp2_with fail
            go_ret
            exact ⟨rfl, HF5.out⟩
end Go.Proofs.Ytfnmplipbgdniaa
