/-
  Contracts of the document's Code, Fold, Unfold and Put of numbers; conditions: the lengths are bounded as named.
-/
import Derived.Test.YtpdmjgcheigooaaGol2
import Derived.Test.YtpdmjgcheigooaaRef1g
namespace Go.Proofs.Ytpdmjgcheigooaa
open Go.RowKit

theorem rcode_any (v : Nat) (w : World) (h : v ≤ 4294967294) :
    Calls Try.prog 9 #[.int .u64 (v : Int)] w fun e w' => ∃ c, e = .returned (.slice (some ⟨w.heap.size, 0, none⟩) (clen v) c) ∧
      Own w' 5 (.slice (some ⟨w.heap.size, 0, none⟩) (clen v) c) ((bitsU (code v)).map B8) ∧ Fr [] w w' := by
  have hl := log2_small h
  obtain ⟨N, hN⟩ : ∃ N, N = (v + 1).log2 + 1 := ⟨_, rfl⟩
  have hN1 : v + 1 < 2 ^ N := by rw [hN]; exact Nat.lt_log2_self
  have hN2 : 2 ^ (N - 1) ≤ v + 1 := by
    have hne : v + 1 ≠ 0 := Nat.succ_ne_zero v
    rw [hN, Nat.add_sub_cancel]
    exact Nat.log2_self_le hne
  have hNl : N ≤ 32 := by omega
  have HC := Lib.hid (digits_any' (v + 1) (clen v) w (by have := clen_le h; omega) (by omega))
  rw [show digits (v + 1) (clen v) = code v from rfl] at HC
  have hcl : clen v = 2 * N - 1 := by unfold clen; omega
  rw [hcl] at HC ⊢
  have hN0 : 1 ≤ N := by omega
  clear hcl hN hl
  have HN1 := Lib.hid hN1; clear hN1
  have HN2 := Lib.hid hN2; clear hN2
  go_enter Try.func9, Try.ntmps9
  go_wp2_with fail
  go_loop [3, 4] (fun s3 s4 => ∃ n K : Nat, n ≤ N ∧ s3 = .int .i64 (n : Int) ∧ s4 = .int .u64 (K : Int) ∧ K = (v + 1) / 2 ^ n) (fun s3 _ => 32 - (intOf s3).toNat)
  case atStart => exact ⟨0, v + 1, by omega, rfl, by go_num, by simp⟩
  case round =>
    obtain ⟨n, K, hn, rfl, rfl, hK⟩ := hrel
    have hKl : K ≤ v + 1 := by rw [hK]; exact Nat.div_le_self _ _
    by_cases hK0 : K = 0
    · have hnN : n = N := by
        rcases Nat.lt_or_ge n N with hlt | hge
        · have h1 : 2 ^ n ≤ 2 ^ (N - 1) := Nat.pow_le_pow_right (by omega) (by omega)
          have h2 : 1 ≤ (v + 1) / 2 ^ n := (Nat.le_div_iff_mul_le (Nat.two_pow_pos n)).2 (by have := HN2.out; omega)
          omega
        · omega
      subst hK0 hnN
      clear hK hKl
      have e1 : IntKind.i64.wrap (2 * (n : Int)) = 2 * (n : Int) := IntWalk.i64_in _ (by omega)
      have e2 : IntKind.i64.wrap (2 * (n : Int) - 1) = ((2 * n - 1 : Nat) : Int) := by rw [IntWalk.i64_in _ (by omega)]; omega
      go_wp2_with fail
      refine HC.out.mono ?_
      rintro e w2 ⟨c, rfl, hO, hF⟩
      have HO := Lib.hid hO; clear hO
      go_wp2_with fail
      go_ret
      exact ⟨c, rfl, HO.out, hF⟩
    · have hnN : n < N := by
        rcases Nat.lt_or_ge n N with hlt | hge
        · exact hlt
        · have h1 : 2 ^ N ≤ 2 ^ n := Nat.pow_le_pow_right (by omega) hge
          have h2 : (v + 1) / 2 ^ n = 0 := Nat.div_eq_of_lt (by have := HN1.out; omega)
          omega
      have HK := Lib.hid hK; clear hK
      have hK1 : 0 < K := by omega
      go_wp2_with fail
      go_round
      case rel =>
        refine ⟨n + 1, K / 2, by omega, by go_num, by go_num, ?_⟩
        rw [HK.out, Nat.div_div_eq_div_mul, Nat.pow_succ]
      case measure => simp [intOf]; omega

theorem rfold_out (x : Int) (w : World) (h : ¬ folds x) :
    Calls Try.prog 11 #[.int .i64 x] w fun e w' => e = .returned (.tuple #[.int .u64 0, .bool false]) ∧ w' = w := by
  unfold folds at h
  by_cases h1 : 2147483647 < x
  · go_enter Try.func11, Try.ntmps11
    go_wp2_with fail
    go_ret2
    exact ⟨rfl, rfl⟩
  · have h2 : x < -2147483647 := by omega
    go_enter Try.func11, Try.ntmps11
    go_wp2_with fail
    go_ret2
    exact ⟨rfl, rfl⟩

theorem rfold_in (x : Int) (w : World) (h : folds x) :
    Calls Try.prog 11 #[.int .i64 x] w fun e w' => e = .returned (.tuple #[.int .u64 (folded x : Int), .bool true]) ∧ w' = w := by
  unfold folds at h
  obtain ⟨l0, l1⟩ := h
  obtain ⟨y, hy⟩ : ∃ y, y = folded x := ⟨_, rfl⟩
  rw [← hy]
  unfold folded at hy
  by_cases h1 : 0 < x
  · rw [if_pos h1] at hy
    have Hy := Lib.hid hy; clear hy
    go_enter Try.func11, Try.ntmps11
    go_wp2_with fail
    go_ret2
    refine ⟨?_, rfl⟩
    show Ending.returned (.tuple #[.int .u64 (2 * x - 1), .bool true]) = _
    rw [show 2 * x - 1 = (y : Int) by have := Hy.out; omega]
  · rw [if_neg h1] at hy
    have Hy := Lib.hid hy; clear hy
    go_enter Try.func11, Try.ntmps11
    go_wp2_with fail
    go_ret2
    refine ⟨?_, rfl⟩
    show Ending.returned (.tuple #[.int .u64 (-2 * x), .bool true]) = _
    rw [show -2 * x = (y : Int) by have := Hy.out; omega]

theorem runfold_any (v : Nat) (w : World) (h : v < 18446744073709551616) :
    Calls Try.prog 15 #[.int .u64 (v : Int)] w fun e w' => e = .returned (.int .i64 (unfolded v)) ∧ w' = w := by
  obtain ⟨y, hy⟩ : ∃ y, y = unfolded v := ⟨_, rfl⟩
  rw [← hy]
  unfold unfolded at hy
  by_cases hb : 4294967294 < v
  · rw [if_pos hb] at hy
    subst hy
    go_enter Try.func15, Try.ntmps15
    go_wp2_with fail
    go_ret
    exact ⟨rfl, rfl⟩
  rw [if_neg hb] at hy
  by_cases h1 : v % 2 = 1
  · rw [if_pos h1] at hy
    have Hy := Lib.hid hy; clear hy
    have e1 : ((v : Int) % 2 == 1) = true := by simp; omega
    go_enter Try.func15, Try.ntmps15
    go_wp2_with fail
    go_ret
    exact ⟨by have := Hy.out; go_num, rfl⟩
  · rw [if_neg h1] at hy
    have Hy := Lib.hid hy; clear hy
    have e1 : ((v : Int) % 2 == 1) = false := by simp; omega
    go_enter Try.func15, Try.ntmps15
    go_wp2_with fail
    go_ret
    exact ⟨by have := Hy.out; go_num, rfl⟩

theorem rgput_big (q : Value) (v : Nat) (w : World) (h : 4294967294 < v) :
    Calls Try.prog 18 #[q, .int .u64 (v : Int)] w fun e w' => e = .returned (.int .i64 1) ∧ w' = w := by
  go_enter Try.func18, Try.ntmps18
  go_wp2_with fail
  go_ret
  exact ⟨rfl, rfl⟩

theorem rgput_ok (p : Nat) (v : Value) (L : List Bool) (a : Nat) (w : World) (h : Rw w p v L) (ha : a ≤ 4294967294) (hL : L.length ≤ 100000000000) :
    Calls Try.prog 18 #[.pointer (some ⟨p, 0, none⟩), .int .u64 (a : Int)] w fun e w' => e = .returned (.int .i64 0) ∧
      ∃ v', Rw w' p v' (L ++ code a) ∧ WFr p v v' w w' := by
  obtain ⟨A, cv, rfl⟩ := h.2.1.src.slice
  rw [bitsU_length] at h ⊢
  have HR := Lib.hid h; clear h
  have hcl := clen_le ha
  obtain ⟨hB, hW, hpv⟩ := HR.out
  have c0 := hB.cell 0
  have c1 := hB.frozen 0
  have c2 := hB.lt
  simp at c0
  have HB := Lib.hid hB; clear hB
  have HW := Lib.hid hW; clear hW
  have HD := Lib.hid (rcode_any a w.drew ha)
  go_enter Try.func18, Try.ntmps18
  go_wp2_with fail
  go_region_law (first
      | (refine step_append_u8 (.tmp 11) (.tmp 13) (.slice A L.length cv) (bitsU L) (.slice (some ⟨w.heap.size, 0, none⟩) (clen a) c3) (bitsU (code a)) rfl rfl rfl rfl (HW.out.drew.fr hF3 (by simp)) hO3.src (by simp; omega) ?_; intro A4 c4 w4 hO4 hG4; obtain ⟨c4x, f4⟩ := keep_cell (hF3.cell (p := ⟨p, 0, none⟩) c2 (by simp)) (hF3.frozen (p := ⟨p, 0, none⟩) c2 (by simp)) hG4 (Nat.lt_of_lt_of_le c2 hF3.size) hpv c0 c1)
      | (go_simp; go_at_call 9; refine HD.out.mono ?_; rintro e w3 ⟨c3, rfl, hO3, hF3⟩; obtain c3x := (hF3.cell (p := ⟨p, 0, none⟩) c2 (by simp)).trans c0))
  all_goals
    go_wp2_with fail
    go_ret
    rw [bitsU_length, bitsU_length, code_length] at hO4 hG4
    refine ⟨rfl, .slice A4 (L.length + clen a) c4, ?_, ?_⟩
    · have hne4 : (Value.slice A4 (L.length + clen a) c4).ownBlock ≠ some p := by
        rcases hG4.2 with e | ⟨g, e, hg⟩
        · rw [e]; exact hpv
        · rw [e]; intro h; injection h with h; have := hF3.size; simp at this; omega
      have hB4 := ((HB.out.drew.fr hF3 (by simp)).fr hG4.1 (not_own hpv)).set_ 0 (.slice A4 (L.length + clen a) c4)
      refine ⟨by simpa using hB4, ?_, hne4⟩
      rw [bitsU_append]
      exact hO4.fr (S := [p]) ((Fr.refl [p] _).setCell (p := ⟨p, 0, none⟩) (.inl (by simp)) _) (fun k hk => by rw [hk] at hne4; simpa using hne4)
    · refine ⟨((((Fr.refl (p :: (Value.slice A L.length cv).ownBlock.toList) w).drew.trans hF3 (by simp)).trans hG4.1 (fun x hx => .inl (List.mem_cons_of_mem _ hx))).setCell (p := ⟨p, 0, none⟩) (.inl (by simp)) _), ?_⟩
      rcases hG4.2 with e | ⟨g, e, hg⟩
      · exact .inl e
      · exact .inr ⟨g, e, by have := hF3.size; simp at *; omega⟩

theorem rgput_total (p : Nat) (v : Value) (L : List Bool) (a : Nat) (w : World) (h : Rw w p v L) (hL : L.length ≤ 100000000000) :
    Calls Try.prog 18 #[.pointer (some ⟨p, 0, none⟩), .int .u64 (a : Int)] w fun e w' => e = .returned (.int .i64 (gput L a).1) ∧ ∃ v', Rw w' p v' (gput L a).2 ∧ WFr p v v' w w' := by
  unfold gput
  by_cases h1 : 4294967294 < a
  · rw [if_pos h1]
    exact (rgput_big _ a w h1).mono fun e w' ⟨he, hw⟩ => ⟨he, v, by rw [hw]; exact h, by rw [hw]; exact WFr.same (Fr.refl _ _)⟩
  · rw [if_neg h1]
    exact rgput_ok p v L a w h (by omega) hL
end Go.Proofs.Ytpdmjgcheigooaa
