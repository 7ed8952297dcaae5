/-
  Contracts of (*Reader).Align; conditions: the lengths are bounded as named.
-/
import Derived.Test.YtgdfjoionaedgaaBits5
namespace Go.Proofs.Ytgdfjoionaedgaa
open Go.RowKit

theorem Rd.moved {w : World} {q a k : Nat} {v : Value} {bs : List UInt8} (hB : Blk w q 62 #[v, .int .i64 (a : Int)]) (hO : Own w 5 v (bs.map B8)) (hne : v.ownBlock ≠ some q) (hk : a + k ≤ 8 * bs.length) :
    Rd (w.setCell ⟨q, 1, none⟩ (.int .i64 ((a : Int) + (k : Int)))) q v bs (a + k) := by
  have h1 := hB.set_ 1 (Value.int .i64 ((a : Int) + (k : Int)))
  refine ⟨by simpa using h1, ?_, hk, hne⟩
  exact hO.fr (S := [q]) ((Fr.refl [q] _).setCell (p := ⟨q, 1, none⟩) (.inl (by simp)) (Value.int .i64 ((a : Int) + (k : Int)))) (fun j hj => by rw [hj] at hne; simpa using hne)

theorem ralign_nil (w : World) :
    Calls Try.prog 22 #[.pointer none] w fun e w' => e = .returned (.int .i64 1) ∧ w' = w := by
  go_enter Try.func22, Try.ntmps22
  go_wp2
  go_ret
  exact ⟨rfl, rfl⟩

theorem ralign_any (q : Nat) (v : Value) (bs : List UInt8) (a : Nat) (w : World) (h : Rd w q v bs a) (hl : bs.length ≤ 1000000000000) :
    Calls Try.prog 22 #[.pointer (some ⟨q, 0, none⟩)] w fun e w' =>
      if number (((rowOf bs).drop a).take ((8 - a % 8) % 8)) = 0 then e = .returned (.int .i64 0) ∧ Rd w' q v bs (a + (8 - a % 8) % 8) ∧ Fr [q] w w' else e = .returned (.int .i64 11) ∧ w' = w.drew := by
  obtain ⟨k, hk⟩ : ∃ k, k = (8 - a % 8) % 8 := ⟨_, rfl⟩
  obtain ⟨hB, hO, hxb, hne⟩ := h
  have d0 := hB.cell 0
  have d1 := hB.cell 1
  have d2 := hB.frozen 1
  have d3 := hB.lt
  simp at d0 d1
  have hkb : k < 8 := by omega
  have eadd : IntKind.i64.wrap ((a : Int) + (k : Int)) = (a : Int) + (k : Int) := IntWalk.i64_in _ (by omega)
  rw [← hk]
  by_cases hk0 : 0 < k
  · obtain ⟨i, hi⟩ : ∃ i, i = a / 8 := ⟨_, rfl⟩
    have hil : i < bs.length := by omega
    obtain ⟨g, cap, rfl, -⟩ : ∃ g cap, v = .slice (some ⟨g, 0, none⟩) bs.length cap ∧ True := by
      rcases hO.form with ⟨_, h0⟩ | ⟨g, cap, cur, rfl, -⟩
      · rw [List.map_eq_nil_iff.1 h0] at hil; simp at hil
      · exact ⟨g, cap, by rw [List.length_map], trivial⟩
    obtain ⟨e1, e2, e3⟩ := hO.at_ (j := i) (by simp; omega)
    obtain ⟨y, hy, hyc⟩ : ∃ y : Nat, y < 256 ∧ y = (bs.getD i 0).toNat := ⟨_, UInt8.toNat_lt _, rfl⟩
    have hcy : w.cell? ⟨g, i, none⟩ = some (.int .u8 (y : Int)) := by
      rw [e1, hyc, List.getElem?_map, List.getElem?_eq_getElem (by omega), List.getD_eq_getElem?_getD, List.getElem?_eq_getElem (by omega)]; rfl
    clear e1 e2
    have ek : decide (0 < k) = true := by simpa using hk0
    have ei1 : IntKind.i64.wrap ((a : Int) / 8) = (i : Int) := by rw [IntWalk.i64_in _ (by omega)]; omega
    have ei2 : (0 : Int) ≤ (i : Int) := by omega
    have ei3 : (i : Int) < (bs.length : Int) := by omega
    have ey : IntKind.u64.wrap (y : Int) = (y : Int) := IntWalk.u64_in _ (by omega)
    obtain ⟨z, hz256, eA, hzz, -⟩ := and_ones y 0 k 0 (by omega) (by omega)
    have eA' : bits BinOp.and IntKind.u64 (y : Int) ((2 ^ k - 1 : Nat) : Int) = (z : Int) := by simpa using eA
    clear eA
    have hz2 : number (((rowOf bs).drop a).take k) = z := by
      rw [number_row bs a k (by omega) (by omega), number_digits, hzz, hyc, hi, show 8 - a % 8 - k = 0 by omega]
    rw [hz2]
    have Hk := Lib.hid hk; clear hk
    have Hi := Lib.hid hi; clear hi
    have HY := Lib.hid hyc; clear hyc
    have HB := Lib.hid hB; clear hB
    have HZ := Lib.hid hzz; clear hzz
    have HZ2 := Lib.hid hz2; clear hz2
    by_cases hz : z = 0
    · have ez : ((z : Int) != 0) = false := by subst hz; rfl
      simp only [if_pos hz]
      have HZ0 := Lib.hid hz; clear hz
      go_enter Try.func22, Try.ntmps22
      go_wp2_with fail
      refine (toWhole_nat a k _ (by omega) Hk.out).mono ?_
      rintro e w2 ⟨rfl, rfl⟩
      go_wp2_with fail
      refine wp_region_still_lit (by kernel_rfl) (by kernel_rfl) ?_
      repeat still_step
      still_call (ones_any k _ (by omega))
      repeat still_step
      refine wpStill_nil ?_
      change Exit.then _ _ _ _ w2.drew
      go_wp2_with fail
      go_ret
      exact ⟨rfl, (Rd.moved HB.out hO hne (by have := Hk.out; omega)).fr (S := []) (Fr.refl [] _).drew (by simp) (by simp), ((Fr.refl [q] _).setCell (p := ⟨q, 1, none⟩) (.inl (by simp)) _).drew⟩
    · have ez : ((z : Int) != 0) = true := by rw [bne_iff_ne]; omega
      simp only [if_neg hz]
      have HZ0 := Lib.hid hz; clear hz
      go_enter Try.func22, Try.ntmps22
      go_wp2_with fail
      refine (toWhole_nat a k _ (by omega) Hk.out).mono ?_
      rintro e w2 ⟨rfl, rfl⟩
      go_wp2_with fail
      refine wp_region_still_lit (by kernel_rfl) (by kernel_rfl) ?_
      repeat still_step
      still_call (ones_any k _ (by omega))
      repeat still_step
      refine wpStill_nil ?_
      change Exit.then _ _ _ _ w2.drew
      go_wp2_with fail
      go_ret
      exact ⟨rfl, rfl⟩
  · obtain rfl : k = 0 := by omega
    have h0 : number (((rowOf bs).drop a).take 0) = 0 := by simp [number]
    simp only [if_pos h0]
    have Hk := Lib.hid hk; clear hk
    have HB := Lib.hid hB; clear hB
    clear h0
    go_enter Try.func22, Try.ntmps22
    go_wp2_with fail
    refine (toWhole_nat a 0 _ (by omega) Hk.out).mono ?_
    rintro e w2 ⟨rfl, rfl⟩
    go_wp2_with fail
    go_quiet (fail)
    go_wp2_with fail
    go_ret
    have h1 := Rd.moved (k := 0) HB.out hO hne (by omega)
    have e0 : (a : Int) + ((0 : Nat) : Int) = (a : Int) := by omega
    rw [e0] at h1
    exact ⟨rfl, h1.fr (S := []) ((Fr.refl [] _).drewN nq) (by simp) (by simp), ((Fr.refl [q] _).setCell (p := ⟨q, 1, none⟩) (.inl (by simp)) _).drewN nq⟩
end Go.Proofs.Ytgdfjoionaedgaa
