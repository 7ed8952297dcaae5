/-
  The law LiftBounds answers true whatever its input, and leaves its arguments as they were; no condition.
-/
import Derived.Test.YtednjpgibbnieaaAll1
import Derived.Test.YtednjpgibbnieaaAll2
/-
  The law LiftBounds, out of the contracts: true whatever its input.
-/
namespace Go.Proofs.Ytednjpgibbnieaa
open Go.RowKit

theorem max2_ints {P : Program} (w : World) (k k' : IntKind) (x y : Int) : (Builtin.max2 (.int k x) (.int k' y)).run P w = .ok (.int k (max x y)) w := by
  have e : max x y = if x < y then y else x := by
    rw [Int.max_def]
    split <;> split <;> omega
  simp [Builtin.max2, e]
theorem run_max3 {P : Program} (w : World) (ts : Array TypeId) (t : TypeId) (k : IntKind) (x y z : Int) :
    (Builtin.max_ ts t #[.int k x, .int k y, .int k z]).run P w = .ok (.int k (max (max x y) z)) w := by
  simp [Builtin.max_, max2_ints]
theorem exec_max3 {a : Act} {o : Oper} {x y z : Operand} {ts : Array TypeId} {i j k : Int} {W : World} (ho : o.op = .call { callee := .builtin .max, args := #[x, y, z], argTypes := ts }) (hx : a.eval x = .int .i64 i) (hy : a.eval y = .int .i64 j) (hz : a.eval z = .int .i64 k) :
    (execOp a.eval o).run Try.prog W = .ok (.value (.int .i64 (max (max i j) k))) W := by
  unfold execOp
  simp only [ho, resolve, invoke, builtin, Sem.run_bind, Sem.run_pure, Result.andThen_ok, List.map_toArray, List.map_cons, List.map_nil, hx, hy, hz, run_max3]
/-- What Forward answers: nothing, with its error; or a block's transform. -/
theorem liftF_cases (b : List Int) : (liftF b = ([], 1)) ∨ (∃ k, 1 ≤ k ∧ k ≤ 3 ∧ b.length = 2 ^ k * 2 ^ k ∧ Bnd b 1048576 ∧ liftF b = (blkL k (fwdAt k (numAt b)), 0)) := by
  by_cases h : sideK b.length = 0 ∨ withinB b 1048576 = false
  · left
    unfold liftF
    rw [if_pos h]
  · right
    have h1 : sideK b.length ≠ 0 := fun e => h (.inl e)
    have h2 : withinB b 1048576 = true := by
      cases hw : withinB b 1048576
      · exact absurd (.inr hw) h
      · rfl
    have h0 : sideN b.length ≠ 0 := fun e => h1 (side_zero e)
    obtain ⟨k, hk, -, hl, k1, k3⟩ := side_pow h0
    refine ⟨k, k1, k3, hl, within_bnd h2, ?_⟩
    unfold liftF
    rw [if_neg h, ← hk]

set_option maxRecDepth 20000 in
set_option maxHeartbeats 8000000 in
theorem bounds7_law (Z : LiftSpec) (A : Option Addr) (c : Nat) (b : List Int) (w : World) (hs : Src w (.slice A b.length c) (b.map I64)) (hj : Js b) (hm : b.length ≤ 9223372036854775807) :
    Calls Try.prog 6 #[.slice A b.length c] w fun e w' => e = .returned (.bool true) ∧ Fr [] w w' := by
  have HA := Lib.hid fun W => alive7_any Z W
  obtain ⟨n, hn⟩ : ∃ n, n = b.length := ⟨_, rfl⟩
  by_cases h100 : 100 < b.length
  · have e1 : decide (100 < (n : Int)) = true := by simp; omega
    rw [← hn] at hm ⊢
    clear hs hj h100 hn
    go_enter Try.func6, Try.ntmps6
    go_wp2_with fail
    refine (HA.out _).mono ?_
    rintro e w1 ⟨rfl, hF1⟩
    have HF1 := Lib.hid hF1
    clear hF1
    go_wp2_with fail
    go_ret
    exact ⟨rfl, HF1.out⟩
  · have e1 : decide (100 < (n : Int)) = false := by simp; omega
    have H1 := Lib.hid (Z.fwd w A c b hs (by omega) hj)
    rcases liftF_cases b with hX | ⟨k, k1, k3, hl, hB, hX⟩
    · rw [hX, ← hn] at H1
      rw [← hn]
      clear hs hj hn h100 hX hm
      go_enter Try.func6, Try.ntmps6
      go_wp2_with fail
      refine H1.out.mono ?_
      rintro e w1 ⟨A1, c1, rfl, -, hf1⟩
      have HF1 := Lib.hid hf1
      clear hf1
      simp only [List.length_nil]
      go_wp2_with fail
      refine (HA.out _).mono ?_
      rintro e w2 ⟨rfl, hF2⟩
      have HF2 := Lib.hid (HF1.out.trans hF2 (by simp))
      clear hF2
      go_wp2_with fail
      go_ret
      exact ⟨rfl, HF2.out⟩
    · have hle := fun (M : Int) (hM : ∀ i, i < n → -M ≤ numAt b i ∧ numAt b i ≤ M) => fun i (hi : i < n) => (by
        have hi2 : i < 2 ^ k * 2 ^ k := by omega
        obtain ⟨hx, hy, he⟩ := by_cell hi2
        have := fwd_le k (numAt b) M _ _ hx hy fun j hj => hM j (by omega)
        rw [blkL_get k _ hi2]
        refine ⟨this.1, fun h0 => ?_⟩
        subst h0
        exact this.2 (by simp) (by simp) : (-(4 * M) ≤ numAt (blkL k (fwdAt k (numAt b))) i ∧ numAt (blkL k (fwdAt k (numAt b))) i ≤ 4 * M) ∧ (i = 0 → -M ≤ numAt (blkL k (fwdAt k (numAt b))) i ∧ numAt (blkL k (fwdAt k (numAt b))) i ≤ M))
      obtain ⟨X, hXe⟩ : ∃ X, X = blkL k (fwdAt k (numAt b)) := ⟨_, rfl⟩
      have hXl : X.length = n := by rw [hXe, blkL_length, hn, hl]
      rw [hX, ← hXe] at H1
      rw [← hXe] at hle
      have hn1 : 1 ≤ n := by
        have := Nat.mul_pos (Nat.two_pow_pos k) (Nat.two_pow_pos k)
        omega
      have Hle := Lib.hid hle; have HXl := Lib.hid hXl; have HS := Lib.hid hs; have Hn := Lib.hid hn; have HB := Lib.hid hB
      rw [← hn] at H1 ⊢
      have hn100 : n ≤ 100 := by omega
      have t1 : ((n : Int) != (n : Int)) = false := by simp
      clear hs hj hn h100 hX hm hle hXe hXl hl hB k1 k3
      go_enter Try.func6, Try.ntmps6
      go_wp2_with fail
      refine H1.out.mono ?_
      rintro e w1 ⟨A1, c1, rfl, hs1, hf1⟩
      simp only at hs1 ⊢
      rw [HXl.out] at hs1 ⊢
      have HF1 := Lib.hid hf1; have HS1 := Lib.hid hs1
      clear hf1 hs1 H1
      go_wp2_with fail
      go_loopw [5, 6] (fun s5 s6 wr => ∃ (i : Nat) (M : Int), i ≤ n ∧ s6 = .int .i64 (i : Int) ∧ s5 = .int .i64 M ∧ 0 ≤ M ∧ M ≤ 1048576 ∧ (∀ j, j < i → -M ≤ numAt b j ∧ numAt b j ≤ M) ∧ Fr [] w1 wr) (fun _ s6 _ => n - (intOf s6).toNat)
      case atStart => exact ⟨0, 0, by omega, rfl, rfl, by omega, by omega, by omega, Fr.refl _ _⟩
      case round =>
        obtain ⟨i, M, hi, rfl, rfl, hM0, hM1, hall, hF⟩ := hrel
        have Hall := Lib.hid hall; have HF := Lib.hid hF
        clear hall
        by_cases hlt : i < n
        · have eg : decide (i < n) = true := by simpa using hlt
          obtain ⟨ad, rfl, cx⟩ := (HS.out.fr0 (HF1.out.trans hF (by simp))).num (k := i) (by have := Hn.out; omega)
          have hbi := HB.out i (by have := Hn.out; omega)
          unfold numAt at hbi
          obtain ⟨v, hv⟩ : ∃ v, v = b.getD i 0 := ⟨_, rfl⟩
          rw [← hv] at cx hbi
          have Hv := Lib.hid hv
          have wv : IntKind.i64.wrap (-v) = -v := IntWalk.i64_in _ (by omega)
          clear hv hF
          go_upto_region 12 with fail
          have c0 : wr.drew.cell? (ad.add i) = some (.int .i64 v) := cx
          refine wp_region_held_drew (S := fun W' => W'.cell? (ad.add i) = some (.int .i64 v)) (by kernel_rfl) ?_ (fun hHeld => ?_)
          · exact c0
          refine wpAnyH_pick 0 (v := ?_) rfl (by kernel_rfl) (by kernel_rfl) (by kernel_rfl) (fun _ _ _ h => h) (by assumption) (by rfl) ?_ ?_
          rotate_left
          · (intro w hSw; (try dsimp only at hSw); go_simp) <;> (with_reducible rfl)
          (try simp only [Act.put, List.setIfInBounds_toArray, List.set_cons_zero, List.set_cons_succ])
          refine wpAnyH_pick 1 (v := ?_) rfl (by kernel_rfl) (by kernel_rfl) (by kernel_rfl) (fun _ _ _ h => h) (by assumption) (by rfl) ?_ ?_
          rotate_left
          · (intro w hSw; (try dsimp only at hSw); go_simp) <;> (with_reducible rfl)
          (try simp only [Act.put, List.setIfInBounds_toArray, List.set_cons_zero, List.set_cons_succ])
          refine wpAnyH_pick 2 (v := ?_) rfl (by kernel_rfl) (by kernel_rfl) (by kernel_rfl) (fun _ _ _ h => h) (by assumption) (by rfl) ?_ ?_
          rotate_left
          · (intro w hSw; (try dsimp only at hSw); go_simp) <;> (with_reducible rfl)
          (try simp only [Act.put, List.setIfInBounds_toArray, List.set_cons_zero, List.set_cons_succ])
          refine wpAnyH_pick 3 (v := ?_) rfl (by kernel_rfl) (by kernel_rfl) (by kernel_rfl) (fun _ _ _ h => h) (by assumption) (by rfl) ?_ ?_
          rotate_left
          · (intro w hSw; (try dsimp only at hSw); go_simp) <;> (with_reducible rfl)
          (try simp only [Act.put, List.setIfInBounds_toArray, List.set_cons_zero, List.set_cons_succ])
          refine wpAnyH_pick 4 (v := ?_) rfl (by kernel_rfl) (by kernel_rfl) (by kernel_rfl) (fun _ _ _ h => h) (by assumption) (by rfl) ?_ ?_
          rotate_left
          · (intro w hSw; (try dsimp only at hSw); go_simp) <;> (with_reducible rfl)
          (try simp only [Act.put, List.setIfInBounds_toArray, List.set_cons_zero, List.set_cons_succ])
          refine wpAnyH_pick 5 (v := ?_) rfl (by kernel_rfl) (by kernel_rfl) (by kernel_rfl) (fun _ _ _ h => h) (by assumption) (by rfl) ?_ ?_
          rotate_left
          · (intro w hSw; (try dsimp only at hSw); go_simp) <;> (with_reducible rfl)
          (try simp only [Act.put, List.setIfInBounds_toArray, List.set_cons_zero, List.set_cons_succ])
          refine wpAnyH_pick 6 (v := ?_) rfl (by kernel_rfl) (by kernel_rfl) (by kernel_rfl) (fun _ _ _ h => h) (by assumption) (by rfl) ?_ ?_
          rotate_left
          · (intro w hSw; (try dsimp only at hSw); go_simp) <;> (with_reducible rfl)
          (try simp only [Act.put, List.setIfInBounds_toArray, List.set_cons_zero, List.set_cons_succ])
          refine wpAnyH_pick 7 (v := ?_) rfl (by kernel_rfl) (by kernel_rfl) (by kernel_rfl) (fun _ _ _ h => h) (by assumption) (by rfl) ?_ ?_
          rotate_left
          · (intro w hSw; (try dsimp only at hSw); go_simp) <;> (with_reducible rfl)
          (try simp only [Act.put, List.setIfInBounds_toArray, List.set_cons_zero, List.set_cons_succ])
          refine wpAnyH_pick 8 (v := ?_) rfl (by kernel_rfl) (by kernel_rfl) (by kernel_rfl) (fun _ _ _ h => h) (by assumption) (by rfl) ?_ ?_
          rotate_left
          · (intro w hSw; (try dsimp only at hSw); go_simp) <;> (with_reducible rfl)
          (try simp only [Act.put, List.setIfInBounds_toArray, List.set_cons_zero, List.set_cons_succ])
          refine wpAnyH_pick 9 (v := ?_) rfl (by kernel_rfl) (by kernel_rfl) (by kernel_rfl) (fun _ _ _ h => h) (by assumption) (by rfl) ?_ ?_
          rotate_left
          · (intro w hSw; (try dsimp only at hSw); go_simp) <;> (with_reducible rfl)
          (try simp only [Act.put, List.setIfInBounds_toArray, List.set_cons_zero, List.set_cons_succ])
          refine wpAnyH_pick 10 rfl (by kernel_rfl) (by kernel_rfl) (by kernel_rfl) (fun _ _ _ h => h) (by assumption) (by rfl) (fun w hSw => exec_max3 rfl rfl rfl rfl) ?_
          (try simp only [Act.put, List.setIfInBounds_toArray, List.set_cons_zero, List.set_cons_succ])
          refine wpAnyH_pick 11 (v := ?_) rfl (by kernel_rfl) (by kernel_rfl) (by kernel_rfl) (fun _ _ _ h => h) (by assumption) (by rfl) ?_ ?_
          rotate_left
          · (intro w hSw; (try dsimp only at hSw); go_simp) <;> (with_reducible rfl)
          (try simp only [Act.put, List.setIfInBounds_toArray, List.set_cons_zero, List.set_cons_succ])
          refine wpAnyH_done (by kernel_rfl) ?_ _
          skip
          have HF2 := Lib.hid (HF.out.drew)
          go_wp2_with fail
          refine ⟨⟨i + 1, max M (max v (-v)), by omega, by simp, rfl, by omega, by omega, fun j hj => ?_, HF2.out⟩, by simp [intOf]; omega⟩
          by_cases hji : j = i
          · subst hji
            unfold numAt
            rw [← Hv.out]
            omega
          · have := Hall.out j (by omega)
            omega
        · have eg : decide (i < n) = false := by simpa using hlt
          have hin : i = n := by omega
          rw [hin] at Hall
          have HXb := Lib.hid (Hle.out M Hall.out)
          clear hF hin Hall Hle
          have w4 : IntKind.i64.wrap (4 * M) = 4 * M := IntWalk.i64_in _ (by omega)
          have w5 : IntKind.i64.wrap (-4 * M) = -4 * M := IntWalk.i64_in _ (by omega)
          have w6 : IntKind.i64.wrap (-M) = -M := IntWalk.i64_in _ (by omega)
          go_wp2_with fail
          go_loopw [7] (fun s7 wr => ∃ i : Nat, i ≤ n ∧ s7 = .int .i64 (i : Int) ∧ Fr [] w1 wr) (fun s7 _ => n - (intOf s7).toNat)
          case atStart => exact ⟨0, by omega, rfl, HF.out⟩
          case round =>
            clear HF
            obtain ⟨i, hi, rfl, hF⟩ := hrel
            by_cases hlt3 : i < n
            · have eg3 : decide (i < n) = true := by simpa using hlt3
              obtain ⟨xd, rfl, cx⟩ := (HS1.out.fr0 hF).num (k := i) (by have := HXl.out; omega)
              have hbx := (HXb.out i hlt3).1
              unfold numAt at hbx
              obtain ⟨u, hu⟩ : ∃ u, u = X.getD i 0 := ⟨_, rfl⟩
              rw [← hu] at cx hbx
              have e2 : decide (u < -4 * M) = false := decide_eq_false (by omega)
              have e3 : decide (4 * M < u) = false := decide_eq_false (by omega)
              have HF := Lib.hid hF
              clear hF hu hbx
              go_wp2_with fail
              exact ⟨⟨i + 1, by omega, by simp, HF.out⟩, by simp [intOf]; omega⟩
            · have eg3 : decide (i < n) = false := by simpa using hlt3
              have HF := Lib.hid hF
              clear hF
              go_wp2_with fail
              refine (HA.out _).mono ?_
              rintro e w4' ⟨rfl, hf4⟩
              obtain ⟨xd, rfl, cx⟩ := ((HS1.out.fr0 HF.out).fr0 hf4).num (k := 0) (by have := HXl.out; omega)
              have hbx := (HXb.out 0 (by omega)).2 rfl
              unfold numAt at hbx
              obtain ⟨u, hu⟩ : ∃ u, u = X.getD 0 0 := ⟨_, rfl⟩
              rw [← hu] at cx hbx
              have cx0 : w4'.cell? xd = some (.int .i64 u) := by simpa [Addr.add] using cx
              have e2 : decide (-M ≤ u) = true := decide_eq_true (by omega)
              have e3 : decide (u ≤ M) = true := decide_eq_true (by omega)
              have HF4 := Lib.hid ((HF1.out.trans HF.out (by simp)).trans hf4 (by simp))
              clear hf4 cx hu hbx HF
              go_wp2_with fail
              go_ret
              exact ⟨rfl, HF4.out⟩
end Go.Proofs.Ytednjpgibbnieaa

/-
  The statement LiftBounds out of the contracts.
-/
namespace Go.Proofs.Ytednjpgibbnieaa
open Go.ChangeShapes Go.WideShapes Go.ChangeAt Go.RowKit

set_option maxRecDepth 100000 in
theorem bounds7_lifted (Z : LiftSpec) (os : Os) (started : os.Started) (H : Type) (enc : TypeId × Value → H) :
    ReturnsInHanded {} Try.checked os 6 .any (Rows.liftBoundsSpec.pre6 enc Try.prog Try.f6 Rows.liftBoundsRow.domain false) (Rows.liftBoundsSpec.post enc Try.prog Try.f6 false true false false) := by
  refine law_lift (C := Try.checked) own_knob started (by kernel_rfl) Try.func6
    (ChangeSpec.witness6 (enc := enc) (C := Try.checked) false ⟨#[], #[.slice none 0 0], []⟩ 8 (by kernel_rfl) (by kernel_rfl) (by kernel_rfl) (by kernel_rfl))
    laid_out rfl rfl Try.underlying4 (of_decide_eq_true (by kernel_rfl)) ?_
  intro W base args ds before hval0 hA0 hlt
  have hval : ∀ (j : Nat) t v, Try.f6.params[j]? = some t → args[j]? = some v → Value.okWide Try.prog W .any base t v := hval0
  have hA : DataW.TrodAll enc Try.prog W 0 (fun _ => true) true Try.f6.params.toList args.toList ds before := hA0
  rw [Try.params6] at hA hval
  obtain ⟨v0, d0, rfl, rfl, fuel0, h0⟩ := trodAll_one hA
  obtain ⟨A0, l0, c0, rfl⟩ := okWide_slice Try.underlying22 (hval 0 _ _ rfl rfl)
  obtain ⟨S0, n0, k0, b0, e0, hb0, hn0, hs0, hj0⟩ := open_ints (v := .slice A0 l0 c0) h0
  rw [e0]
  simp only [maxLen] at hn0
  subst hb0
  exact ⟨rfl, (bounds7_law Z S0 k0 b0 W hs0 hj0 (by omega)).mono fun e W' ⟨he, hf⟩ => ⟨he, hf.below (by simp) (Nat.le_refl _)⟩⟩

theorem bounds7_holds_of (Z : LiftSpec) : Rows.LiftBoundsSaid :=
  OpenClaim.holds_of_wide 6 Try.f6 rfl rfl rfl rfl rfl rfl rfl ⟨rfl, rfl, rfl, rfl, rfl⟩ rfl rfl rfl rfl rfl (by kernel_rfl) Try.func6 (by kernel_rfl)
    (of_decide_eq_true (by kernel_rfl)) (by unfold Func.isWrapper; first | (rw [if_pos (by decide +kernel)]; kernel_rfl) | (rw [if_neg (by decide +kernel)]; exact ⟨rfl, rfl⟩))
    (fun os started H enc _ => bounds7_lifted Z os started H enc)
end Go.Proofs.Ytednjpgibbnieaa

/-
  The law LiftBounds answers true whatever its input, and leaves its arguments as they were; no condition.
-/
namespace Go.Proofs.Ytednjpgibbnieaa
open Go.RowKit

theorem bounds7_holds : Rows.LiftBoundsSaid := bounds7_holds_of liftI
#print axioms bounds7_holds
end Go.Proofs.Ytednjpgibbnieaa
