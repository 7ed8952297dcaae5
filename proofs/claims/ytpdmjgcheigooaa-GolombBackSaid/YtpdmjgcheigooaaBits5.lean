/-
  Contracts of (*Reader).Get: the number of the next bits, or the error; conditions: the lengths are bounded as named.
-/
import Derived.Test.YtpdmjgcheigooaaBits4
namespace Go.Proofs.Ytpdmjgcheigooaa
open Go.RowKit

theorem get_nil (n : Int) (w : World) :
    Calls Try.prog 30 #[.pointer none, .int .i64 n] w fun e w' => e = .returned (.tuple #[.int .u64 0, .int .i64 1]) ∧ w' = w := by
  go_enter Try.func30, Try.ntmps30
  go_wp2
  go_ret2
  exact ⟨rfl, rfl⟩

theorem get_width (q : Nat) (v : Value) (bs : List UInt8) (a : Nat) (n : Int) (w : World) (h : Rd w q v bs a) (hn : n < 0 ∨ 64 < n) :
    Calls Try.prog 30 #[.pointer (some ⟨q, 0, none⟩), .int .i64 n] w fun e w' => e = .returned (.tuple #[.int .u64 0, .int .i64 1]) ∧ w' = w := by
  have hz := h.lt
  clear h
  go_enter Try.func30, Try.ntmps30
  go_wp2_with fail
  refine (isWidth_no _ _ hn).mono ?_
  rintro e w' ⟨rfl, rfl⟩
  go_wp2_with fail
  go_ret2
  exact ⟨rfl, rfl⟩

theorem get_short (q : Nat) (v : Value) (bs : List UInt8) (a n : Nat) (w : World) (h : Rd w q v bs a) (hl : bs.length ≤ 1000000000000) (hn : n ≤ 64) (ha : 8 * bs.length < a + n) :
    Calls Try.prog 30 #[.pointer (some ⟨q, 0, none⟩), .int .i64 (n : Int)] w fun e w' => e = .returned (.tuple #[.int .u64 0, .int .i64 11]) ∧ w' = w.drew := by
  have hz := h.lt
  have ha2 := h.2.2.1
  have HC := Lib.hid (left_any w q v bs a h hl)
  have e1 : ((8 * bs.length - a : Nat) : Int) < (n : Int) := by omega
  clear h
  go_enter Try.func30, Try.ntmps30
  go_wp2_with fail
  refine (isWidth_yes _ _ (by omega) (by omega)).mono ?_
  rintro e w' ⟨rfl, rfl⟩
  go_wp2_with fail
  refine HC.out.mono ?_
  rintro e w' ⟨rfl, rfl⟩
  generalize 8 * bs.length - a = r at *
  go_wp2_with fail
  go_ret2
  exact ⟨rfl, rfl⟩

theorem shl_or (V z k s : Nat) (hs : s + k ≤ 64) (hV : V < 2 ^ s) (hz : z < 2 ^ k) :
    IntKind.u64.wrap ((V : Int) * 2 ^ k) = (V : Int) * 2 ^ k ∧ bits BinOp.or IntKind.u64 ((V : Int) * 2 ^ k) (z : Int) = ((V * 2 ^ k + z : Nat) : Int) := by
  have h1 : V * 2 ^ k + z < 2 ^ (s + k) := by
    have h2 : (V + 1) * 2 ^ k ≤ 2 ^ s * 2 ^ k := Nat.mul_le_mul_right _ hV
    rw [Nat.pow_add]
    rw [Nat.add_mul] at h2
    omega
  have h3 : 2 ^ (s + k) ≤ 2 ^ 64 := Nat.pow_le_pow_right (by omega) hs
  have e : (V : Int) * 2 ^ k = ((V * 2 ^ k : Nat) : Int) := by simp
  refine ⟨?_, ?_⟩
  · rw [e]; exact IntWalk.u64_in _ (by omega)
  · rw [e, u64_or_nat _ _ (by omega) (by omega)]
    congr 1
    rw [Nat.mul_comm, Nat.two_pow_add_eq_or_of_lt hz]

theorem get_ok (q : Nat) (v : Value) (bs : List UInt8) (a n : Nat) (w : World) (h : Rd w q v bs a) (hl : bs.length ≤ 1000000000000) (hn : n ≤ 64) (ha : a + n ≤ 8 * bs.length) :
    Calls Try.prog 30 #[.pointer (some ⟨q, 0, none⟩), .int .i64 (n : Int)] w fun e w' =>
      e = .returned (.tuple #[.int .u64 (number (((rowOf bs).drop a).take n) : Int), .int .i64 0]) ∧ Rd w' q v bs (a + n) ∧ Fr [q] w w' := by
  have hz := h.lt
  have ha2 := h.2.2.1
  have HC := Lib.hid (left_any w q v bs a h hl)
  have e1 : (n : Int) ≤ ((8 * bs.length - a : Nat) : Int) := by omega
  have HR := Lib.hid h; clear h
  go_enter Try.func30, Try.ntmps30
  go_wp2_with fail
  refine (isWidth_yes _ _ (by omega) (by omega)).mono ?_
  rintro e w' ⟨rfl, rfl⟩
  go_wp2_with fail
  refine HC.out.mono ?_
  rintro e w2 ⟨rfl, rfl⟩
  clear HC
  generalize 8 * bs.length - a = r at *
  have e2 : decide (r < n) = false := by simp; omega
  go_wp2_with fail
  go_loopw [1, 6] (fun s1 s6 wr => ∃ m : Nat, m ≤ n ∧ s1 = .int .i64 m ∧ s6 = .int .u64 (number (((rowOf bs).drop a).take (n - m)) : Int) ∧ Rd wr q v bs (a + (n - m)) ∧ Fr [q] w' wr) (fun s1 _ _ => (intOf s1).toNat)
  case atStart => exact ⟨n, Nat.le_refl _, rfl, by simp [number], by simpa using HR.out.fr (Fr.refl [] w').drew (by simp) (by simp), (Fr.refl _ _).drew⟩
  case round =>
    obtain ⟨m, hm, rfl, rfl, hR, hF⟩ := hrel
    by_cases hpos : 0 < m
    · obtain ⟨x, hx⟩ : ∃ x, x = a + (n - m) := ⟨_, rfl⟩
      obtain ⟨V, hV⟩ : ∃ V, V = number (((rowOf bs).drop a).take (n - m)) := ⟨_, rfl⟩
      rw [← hx] at hR
      rw [← hV]
      have hxl : x + m ≤ 8 * bs.length := by omega
      have hVlt : V < 2 ^ (n - m) := by
        have h1 := number_lt (((rowOf bs).drop a).take (n - m))
        have h2 : (((rowOf bs).drop a).take (n - m)).length = n - m := by simp; omega
        rw [hV]; rw [h2] at h1; exact h1
      obtain ⟨i, hi⟩ : ∃ i, i = x / 8 := ⟨_, rfl⟩
      obtain ⟨f, hf⟩ : ∃ f, f = 8 - x % 8 := ⟨_, rfl⟩
      obtain ⟨hB, hO, hxb, hne⟩ := hR
      have hil : i < bs.length := by omega
      obtain ⟨g, cap, rfl, -⟩ : ∃ g cap, v = .slice (some ⟨g, 0, none⟩) bs.length cap ∧ True := by
        rcases hO.form with ⟨_, h0⟩ | ⟨g, cap, cur, rfl, -⟩
        · rw [List.map_eq_nil_iff.1 h0] at hil; simp at hil
        · exact ⟨g, cap, by rw [List.length_map], trivial⟩
      obtain ⟨e1, e2, e3⟩ := hO.at_ (j := i) (by simp; omega)
      obtain ⟨y, hy, hyc⟩ : ∃ y : Nat, y < 256 ∧ y = (bs.getD i 0).toNat := ⟨_, UInt8.toNat_lt _, rfl⟩
      have hcy : wr.cell? ⟨g, i, none⟩ = some (.int .u8 (y : Int)) := by
        rw [e1, hyc, List.getElem?_map, List.getElem?_eq_getElem (by omega), List.getD_eq_getElem?_getD, List.getElem?_eq_getElem (by omega)]; rfl
      clear e1 e2
      have d0 := hB.cell 0
      have d1 := hB.cell 1
      have d2 := hB.frozen 1
      have d3 := hB.lt
      simp at d0 d1
      have hf1 : 1 ≤ f := by omega
      have hf8 : f ≤ 8 := by omega
      have efi : (8 : Int) - (x : Int) % 8 = (f : Int) := by omega
      obtain ⟨k, hkm, hkf, hk1, hmin⟩ : ∃ k : Nat, k ≤ m ∧ k ≤ f ∧ 1 ≤ k ∧ (if f < m then (f : Int) else (m : Int)) = (k : Int) := by
        by_cases hfm : f < m
        · exact ⟨f, by omega, by omega, by omega, by rw [if_pos hfm]⟩
        · exact ⟨m, by omega, by omega, by omega, by rw [if_neg hfm]⟩
      have Hx := Lib.hid hx; clear hx
      have HV := Lib.hid hV; clear hV
      have Hi := Lib.hid hi; clear hi
      have Hf := Lib.hid hf; clear hf
      have HY := Lib.hid hyc; clear hyc
      have HB := Lib.hid hB; clear hB
      have HVl := Lib.hid hVlt; clear hVlt
      go_upto_region 9 with fail
      clear hmin efi
      obtain ⟨m', rfl⟩ : ∃ m', m = m' + k := ⟨m - k, by omega⟩
      obtain ⟨fk, rfl⟩ : ∃ fk, f = fk + k := ⟨f - k, by omega⟩
      have ei1 : IntKind.i64.wrap ((x : Int) / 8) = (i : Int) := by rw [IntWalk.i64_in _ (by omega)]; have := Hi.out; omega
      have ei2 : (0 : Int) ≤ (i : Int) := by omega
      have ei3 : (i : Int) < (bs.length : Int) := by omega
      have ey : IntKind.u64.wrap (y : Int) = (y : Int) := IntWalk.u64_in _ (by omega)
      have ewf : IntKind.i64.wrap (fk : Int) = (fk : Int) := IntWalk.i64_in _ (by omega)
      have eo0 : (0 : Int) ≤ (fk : Int) := by omega
      have ek0 : (0 : Int) ≤ (k : Int) := by omega
      obtain ⟨z, hz256, eA, hzz, hzf⟩ := and_ones y fk k 0 (by omega) (by omega)
      obtain ⟨eV, eO⟩ := shl_or V z k (n - (m' + k)) (by omega) HVl.out (by rw [hzz]; exact Nat.mod_lt _ (Nat.two_pow_pos k))
      have HZ := Lib.hid hzz; clear hzz hzf
      have HO := Lib.hid eO; clear eO
      refine wp_region_still_lit (by kernel_rfl) (by kernel_rfl) ?_
      repeat still_step
      still_call (ones_any k _ (by omega))
      repeat still_step
      refine wpStill_nil ?_
      change Exit.then _ _ _ _ wr.drew
      go_wp2_with fail
      go_roundw
      case rel =>
        have hx := Hx.out
        have hV := HV.out
        have hf := Hf.out
        have hi := Hi.out
        rw [HO.out]
        have hl2 : ((rowOf bs).drop a).take (n - m') = ((rowOf bs).drop a).take (n - (m' + k)) ++ ((rowOf bs).drop x).take k := by
          rw [show n - m' = (n - (m' + k)) + k by omega, take_add', List.drop_drop, ← hx]
        have hz2 : number (((rowOf bs).drop x).take k) = z := by
          rw [number_row bs x k (by omega) (by omega), number_digits, HZ.out, HY.out, hi, show 8 - x % 8 - k = fk by omega]
        have hl3 : (((rowOf bs).drop x).take k).length = k := by simp; omega
        refine ⟨m', by omega, rfl, ?_, ?_, ?_⟩
        · rw [hl2, number_app, hl3, hz2, ← hV]
        · have h1 := (HB.out.set_ 1 (Value.int .i64 ((x : Int) + k))).drew
          refine ⟨?_, ?_, by omega, hne⟩
          · rw [show a + (n - m') = x + k by omega]
            simpa using h1
          · exact hO.fr (S := [q]) ((Fr.refl [q] _).setCell (p := ⟨q, 1, none⟩) (.inl (by simp)) (Value.int .i64 ((x : Int) + k))).drew (fun j hj => by rw [hj] at hne; simpa using hne)
        · exact (hF.setCell (p := ⟨q, 1, none⟩) (.inl (by simp)) _).drew
      case measure => simp [intOf]; omega
    · obtain rfl : m = 0 := by omega
      go_wp2_with fail
      go_ret2
      exact ⟨rfl, by simpa using hR, hF⟩

end Go.Proofs.Ytpdmjgcheigooaa
