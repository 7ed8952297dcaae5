/-
  The law QuantSteps answers true whatever its input, and leaves its arguments as they were; no condition.
-/
import Derived.OpenShut
import Derived.Test.YtendcmdpmohacaaAll1
import Derived.Test.YtendcmdpmohacaaAll2
import Derived.Test.YtendcmdpmohacaaAll3
import Derived.Test.YtendcmdpmohacaaAll4
import Derived.Test.YtendcmdpmohacaaAll5
/-
  The law QuantSteps, out of the contracts: true whatever its input.
-/
namespace Go.Proofs.Ytendcmdpmohacaa
open Go.RowKit

set_option maxRecDepth 20000 in
set_option maxHeartbeats 8000000 in
theorem steps8_law {X : EncSpec} {Y : DecSpec} (Z : QuantSpec X Y) (q a0 a1 v0 v1 : Int) (w : World) (jq : InI q) (ja0 : InI a0) (ja1 : InI a1) (_jv0 : InI v0) (jv1 : InI v1) :
    Calls Try.prog 3 #[.int .i64 q, .agg #[.int .i64 a0, .int .i64 a1], .agg #[.int .i64 v0, .int .i64 v1]] w fun e w' => e = .returned (.bool true) ∧ Fr [] w w' := by
  have HA := Lib.hid fun W => alive8_any Z W
  have H1 := Lib.hid fun W => Z.step W q a0 a1 jq ja0 ja1
  have H2 := Lib.hid fun W => rstep_any q a0 a1 W
  obtain ⟨⟨S1, S2⟩, hS⟩ : ∃ S, S = stepR q a0 a1 := ⟨_, rfl⟩
  rw [← hS] at H1 H2
  have H3 := Lib.hid fun W (h1 : -1099511627776 ≤ v0) (h2 : v0 ≤ 1099511627776) (h3 : v1 ≤ 1099511627776) => Z.level W v0 v1 h1 h2 jv1 h3
  have H4 := Lib.hid fun W (h1 : -1099511627776 ≤ v0) (h2 : v0 ≤ 1099511627776) (h3 : v1 ≤ 1099511627776) => rlevel_any v0 v1 W (by omega) (by omega) h3
  have H5 := Lib.hid fun W (h1 : -1099511627776 ≤ v0) (h2 : v0 ≤ 1099511627776) (h3 : v1 ≤ 1099511627776) => Z.value W v0 v1 h1 h2 jv1 h3
  obtain ⟨L, hL⟩ : ∃ L, L = levelOf v0 v1 := ⟨_, rfl⟩
  rw [← hL] at H3 H4
  clear hS hL jq ja0 ja1
  have t1 : (S1 == S1) = true := by simp
  have t2 : (S2 == S2) = true := by simp
  have t3 : (L == L) = true := by simp
  go_enter Try.func3, Try.ntmps3
  go_wp2_with fail
  generalize hw : (w.alloc (.cells #[.int .i64 a0, .int .i64 a1] 22)).alloc (.cells #[.int .i64 v0, .int .i64 v1] 22) = w1
  have hB0 : Blk w1 w.heap.size 22 #[.int .i64 a0, .int .i64 a1] := by rw [← hw]; exact (Blk.new _ _ _).alloc _
  have hB1 : Blk w1 (w.heap.size + 1) 22 #[.int .i64 v0, .int .i64 v1] := by
    have h := Blk.new (w.alloc (.cells #[.int .i64 a0, .int .i64 a1] 22)) 22 #[.int .i64 v0, .int .i64 v1]
    have e : (w.alloc (.cells #[.int .i64 a0, .int .i64 a1] 22)).heap.size = w.heap.size + 1 := by simp [go_sem]
    rw [hw, e] at h
    exact h
  have hF : Fr [] w w1 := by rw [← hw]; exact ((Fr.refl _ _).alloc _).alloc _
  generalize w.heap.size + 1 = g1 at hB1 ⊢
  generalize w.heap.size = g0 at hB0 ⊢
  have HB0 := Lib.hid hB0; have HB1 := Lib.hid hB1; have HF := Lib.hid hF
  clear hB0 hB1 hF hw
  refine (H1.out _).mono ?_
  rintro e w2 ⟨rfl, hF2⟩
  have hb := HB0.out.fr hF2 (by simp)
  have c0 := hb.cell 0
  have c1 := hb.cell 1
  simp at c0 c1
  have HB12 := Lib.hid (HB1.out.fr hF2 (by simp)); have HF2 := Lib.hid (HF.out.trans hF2 (by simp))
  clear hb hF2 HB0 HB1 HF H1
  go_wp2_with fail
  refine (H2.out _).mono ?_
  rintro e w3 ⟨rfl, hw3⟩
  have hw3' := hw3.symm
  clear hw3
  subst hw3'
  clear c0 c1 H2
  have d0 := HB12.out.cell 0
  have d1 := HB12.out.cell 1
  simp at d0 d1
  have hwant : (decide (1 ≤ v1) = true ∧ valueR v0 v1 = IntKind.i64.wrap (v0 * v1)) ∨ (decide (1 ≤ v1) = false ∧ valueR v0 v1 = 0) := by
    unfold valueR
    by_cases h : v1 < 1
    · exact .inr ⟨by simp; omega, if_pos h⟩
    · exact .inl ⟨by simp; omega, if_neg h⟩
  have hout : (decide (v0 < -1099511627776) = true) ∨ (decide (v0 < -1099511627776) = false ∧ decide (1099511627776 < v0) = true) ∨ (decide (v0 < -1099511627776) = false ∧ decide (1099511627776 < v0) = false ∧ decide (1099511627776 < v1) = true) ∨ (decide (v0 < -1099511627776) = false ∧ decide (1099511627776 < v0) = false ∧ decide (1099511627776 < v1) = false) := by
    simp only [decide_eq_true_eq, decide_eq_false_iff_not]
    omega
  clear _jv0 jv1
  rcases hwant with ⟨x1, x2⟩ | ⟨x1, x2⟩
  all_goals rw [x2] at H5
  case' inl =>
    obtain ⟨M, hM⟩ : ∃ M, M = IntKind.i64.wrap (v0 * v1) := ⟨_, rfl⟩
    rw [← hM] at H5
    have eM := hM.symm
    clear hM
    have t4 : (M == M) = true := by simp
  all_goals
    clear x2
    rcases hout with y1 | ⟨y1, y2⟩ | ⟨y1, y2, y3⟩ | ⟨y1, y2, y3⟩
  case' inl.inr.inr.inr =>
    have hin : -1099511627776 ≤ v0 ∧ v0 ≤ 1099511627776 ∧ v1 ≤ 1099511627776 := by
      simp only [decide_eq_false_iff_not] at y1 y2 y3
      omega
    have K3 := Lib.hid fun W => H3.out W hin.1 hin.2.1 hin.2.2
    have K4 := Lib.hid fun W => H4.out W hin.1 hin.2.1 hin.2.2
    have K5 := Lib.hid fun W => H5.out W hin.1 hin.2.1 hin.2.2
    clear hin H3 H4 H5
  case' inr.inr.inr.inr =>
    have hin : -1099511627776 ≤ v0 ∧ v0 ≤ 1099511627776 ∧ v1 ≤ 1099511627776 := by
      simp only [decide_eq_false_iff_not] at y1 y2 y3
      omega
    have K3 := Lib.hid fun W => H3.out W hin.1 hin.2.1 hin.2.2
    have K4 := Lib.hid fun W => H4.out W hin.1 hin.2.1 hin.2.2
    have K5 := Lib.hid fun W => H5.out W hin.1 hin.2.1 hin.2.2
    clear hin H3 H4 H5
  all_goals go_wp2_with fail
  all_goals first
    | (refine (HA.out _).mono ?_; rintro e w4 ⟨rfl, hF4⟩; have HF4 := Lib.hid (HF2.out.trans hF4 (by simp)); clear hF4; go_wp2_with fail; go_ret; exact ⟨rfl, HF4.out⟩)
    | skip
  all_goals
    have HBA := Lib.hid (HB12.out.fr ((Fr.refl [] w2).drew) (by simp)); have HFA := Lib.hid (HF2.out.trans ((Fr.refl [] w2).drew) (by simp))
    clear HB12 HF2
    refine wp_region_held_drew (S := fun W => W.cell? ⟨g1, 0, none⟩ = some (.int .i64 v0) ∧ W.cell? ⟨g1, 1, none⟩ = some (.int .i64 v1)) (by kernel_rfl) ?_ (fun hHeld => ?_)
    · (repeat' (first | trivial | assumption | refine ⟨?_, ?_⟩))
    refine wpAnyH_ready (rs := [0]) (by kernel_rfl) (by simp) ?_
    refine AllReadyH_pick rfl (fun K hK => ?_) (AllReadyH.nil)
    go_simp
    refine (HA.out _).mono ?_
    rintro e wL ⟨rfl, fL⟩
    have hbL := HBA.out.fr fL (by simp)
    have l0 := hbL.cell 0
    have l1 := hbL.cell 1
    simp at l0 l1
    have HBL := Lib.hid hbL; have HFL := Lib.hid (HFA.out.trans fL (by simp))
    clear hbL fL
    go_wp2_with fail
    refine hK.out _ _ ?_ (fun hHeld => ?_)
    · (repeat' (first | trivial | assumption | refine ⟨?_, ?_⟩))
    clear hK K
    (try simp only [Act.put, List.setIfInBounds_toArray, List.set_cons_zero, List.set_cons_succ])
    refine wpAnyH_pick 1 (v := ?_) rfl (by kernel_rfl) (by kernel_rfl) (by kernel_rfl) (fun _ _ _ h => h) (by assumption) (by rfl) ?_ ?_
    rotate_left
    · (intro w hSw; (try dsimp only at hSw); go_simp) <;> (with_reducible rfl)
    (try simp only [Act.put, List.setIfInBounds_toArray, List.set_cons_zero, List.set_cons_succ])
    refine wpAnyH_pick 2 (v := ?_) rfl (by kernel_rfl) (by kernel_rfl) (by kernel_rfl) (fun _ _ _ h => h) (by assumption) (by rfl) ?_ ?_
    rotate_left
    · (intro w hSw; (try dsimp only at hSw); go_simp) <;> (with_reducible rfl)
    (try simp only [Act.put, List.setIfInBounds_toArray, List.set_cons_zero, List.set_cons_succ])
    refine wpAnyH_pick 3 (v := ?_) rfl (by kernel_rfl) (by kernel_rfl) (by kernel_rfl) (fun _ _ _ h => h) (by assumption) (by rfl) ?_ ?_
    rotate_left
    · (intro w hSw; (try dsimp only at hSw); go_simp) <;> (with_reducible rfl)
    (try simp only [Act.put, List.setIfInBounds_toArray, List.set_cons_zero, List.set_cons_succ])
    refine wpAnyH_pick 4 (v := ?_) rfl (by kernel_rfl) (by kernel_rfl) (by kernel_rfl) (fun _ _ _ h => h) (by assumption) (by rfl) ?_ ?_
    rotate_left
    · (intro w hSw; (try dsimp only at hSw); go_simp) <;> (with_reducible rfl)
    (try simp only [Act.put, List.setIfInBounds_toArray, List.set_cons_zero, List.set_cons_succ])
    refine wpAnyH_pick 5 (v := ?_) rfl (by kernel_rfl) (by kernel_rfl) (by kernel_rfl) (fun _ _ _ h => h) (by assumption) (by rfl) ?_ ?_
    rotate_left
    · (intro w hSw; (try dsimp only at hSw); go_simp) <;> (with_reducible rfl)
    (try simp only [Act.put, List.setIfInBounds_toArray, List.set_cons_zero, List.set_cons_succ])
    refine wpAnyH_pick 6 (v := ?_) rfl (by kernel_rfl) (by kernel_rfl) (by kernel_rfl) (fun _ _ _ h => h) (by assumption) (by rfl) ?_ ?_
    rotate_left
    · (intro w hSw; (try dsimp only at hSw); go_simp) <;> (with_reducible rfl)
    (try simp only [Act.put, List.setIfInBounds_toArray, List.set_cons_zero, List.set_cons_succ])
    refine wpAnyH_pick 7 (v := ?_) rfl (by kernel_rfl) (by kernel_rfl) (by kernel_rfl) (fun _ _ _ h => h) (by assumption) (by rfl) ?_ ?_
    rotate_left
    · (intro w hSw; (try dsimp only at hSw); go_simp) <;> (with_reducible rfl)
    (try simp only [Act.put, List.setIfInBounds_toArray, List.set_cons_zero, List.set_cons_succ])
    refine wpAnyH_pick 8 (v := ?_) rfl (by kernel_rfl) (by kernel_rfl) (by kernel_rfl) (fun _ _ _ h => h) (by assumption) (by rfl) ?_ ?_
    rotate_left
    · (intro w hSw; (try dsimp only at hSw); go_simp) <;> (with_reducible rfl)
    (try simp only [Act.put, List.setIfInBounds_toArray, List.set_cons_zero, List.set_cons_succ])
    refine wpAnyH_pick 9 (v := ?_) rfl (by kernel_rfl) (by kernel_rfl) (by kernel_rfl) (fun _ _ _ h => h) (by assumption) (by rfl) ?_ ?_
    rotate_left
    · (intro w hSw; (try dsimp only at hSw); go_simp) <;> (with_reducible rfl)
    (try simp only [Act.put, List.setIfInBounds_toArray, List.set_cons_zero, List.set_cons_succ])
    refine wpAnyH_pick 10 (v := ?_) rfl (by kernel_rfl) (by kernel_rfl) (by kernel_rfl) (fun _ _ _ h => h) (by assumption) (by rfl) ?_ ?_
    rotate_left
    · (intro w hSw; (try dsimp only at hSw); go_simp) <;> (with_reducible rfl)
    (try simp only [Act.put, List.setIfInBounds_toArray, List.set_cons_zero, List.set_cons_succ])
    refine wpAnyH_pick 11 (v := ?_) rfl (by kernel_rfl) (by kernel_rfl) (by kernel_rfl) (fun _ _ _ h => h) (by assumption) (by rfl) ?_ ?_
    rotate_left
    · (intro w hSw; (try dsimp only at hSw); go_simp) <;> (with_reducible rfl)
    (try simp only [Act.put, List.setIfInBounds_toArray, List.set_cons_zero, List.set_cons_succ])
    refine wpAnyH_pick 12 (v := ?_) rfl (by kernel_rfl) (by kernel_rfl) (by kernel_rfl) (fun _ _ _ h => h) (by assumption) (by rfl) ?_ ?_
    rotate_left
    · (intro w hSw; (try dsimp only at hSw); go_simp) <;> (with_reducible rfl)
    (try simp only [Act.put, List.setIfInBounds_toArray, List.set_cons_zero, List.set_cons_succ])
    refine wpAnyH_pick 13 (v := ?_) rfl (by kernel_rfl) (by kernel_rfl) (by kernel_rfl) (fun _ _ _ h => h) (by assumption) (by rfl) ?_ ?_
    rotate_left
    · (intro w hSw; (try dsimp only at hSw); go_simp) <;> (with_reducible rfl)
    (try simp only [Act.put, List.setIfInBounds_toArray, List.set_cons_zero, List.set_cons_succ])
    refine wpAnyH_pick 14 (v := ?_) rfl (by kernel_rfl) (by kernel_rfl) (by kernel_rfl) (fun _ _ _ h => h) (by assumption) (by rfl) ?_ ?_
    rotate_left
    · (intro w hSw; (try dsimp only at hSw); go_simp) <;> (with_reducible rfl)
    (try simp only [Act.put, List.setIfInBounds_toArray, List.set_cons_zero, List.set_cons_succ])
    refine wpAnyH_pick 15 (v := ?_) rfl (by kernel_rfl) (by kernel_rfl) (by kernel_rfl) (fun _ _ _ h => h) (by assumption) (by rfl) ?_ ?_
    rotate_left
    · (intro w hSw; (try dsimp only at hSw); go_simp) <;> (with_reducible rfl)
    (try simp only [Act.put, List.setIfInBounds_toArray, List.set_cons_zero, List.set_cons_succ])
    refine wpAnyH_pick 17 (v := ?_) rfl (by kernel_rfl) (by kernel_rfl) (by kernel_rfl) (fun _ _ _ h => h) (by assumption) (by rfl) ?_ ?_
    rotate_left
    · (intro w hSw; (try dsimp only at hSw); go_simp) <;> (with_reducible rfl)
    (try simp only [Act.put, List.setIfInBounds_toArray, List.set_cons_zero, List.set_cons_succ])
    refine wpAnyH_pick 18 (v := ?_) rfl (by kernel_rfl) (by kernel_rfl) (by kernel_rfl) (fun _ _ _ h => h) (by assumption) (by rfl) ?_ ?_
    rotate_left
    · (intro w hSw; (try dsimp only at hSw); go_simp) <;> (with_reducible rfl)
    (try simp only [Act.put, List.setIfInBounds_toArray, List.set_cons_zero, List.set_cons_succ])
    refine wpAnyH_pick 19 (v := ?_) rfl (by kernel_rfl) (by kernel_rfl) (by kernel_rfl) (fun _ _ _ h => h) (by assumption) (by rfl) ?_ ?_
    rotate_left
    · (intro w hSw; (try dsimp only at hSw); go_simp) <;> (with_reducible rfl)
    (try simp only [Act.put, List.setIfInBounds_toArray, List.set_cons_zero, List.set_cons_succ])
    refine wpAnyH_pick 20 (v := ?_) rfl (by kernel_rfl) (by kernel_rfl) (by kernel_rfl) (fun _ _ _ h => h) (by assumption) (by rfl) ?_ ?_
    rotate_left
    · (intro w hSw; (try dsimp only at hSw); go_simp) <;> (with_reducible rfl)
    (try simp only [Act.put, List.setIfInBounds_toArray, List.set_cons_zero, List.set_cons_succ])
    refine wpAnyH_ready (rs := [16]) (by kernel_rfl) (by simp) ?_
    refine AllReadyH_pick rfl (fun K hK => ?_) (AllReadyH.nil)
    go_simp
    refine (K3.out _).mono ?_
    rintro e wE ⟨rfl, fE⟩
    have hbE := HBL.out.fr fE (by simp)
    have m0 := hbE.cell 0
    have m1 := hbE.cell 1
    simp at m0 m1
    have HBE := Lib.hid hbE; have HFE := Lib.hid (HFL.out.trans fE (by simp))
    clear hbE fE
    go_wp2_with fail
    refine hK.out _ _ ?_ (fun hHeld => ?_)
    · (repeat' (first | trivial | assumption | refine ⟨?_, ?_⟩))
    clear hK K
    (try simp only [Act.put, List.setIfInBounds_toArray, List.set_cons_zero, List.set_cons_succ])
    refine wpAnyH_ready (rs := [21]) (by kernel_rfl) (by simp) ?_
    refine AllReadyH_pick rfl (fun K hK => ?_) (AllReadyH.nil)
    go_simp
    refine (K4.out _).mono ?_
    rintro e wM ⟨rfl, hwM⟩
    have fM : Fr [] wE wM := by rw [hwM]; exact Fr.refl [] _
    have hbM := HBE.out.fr fM (by simp)
    have n0 := hbM.cell 0
    have n1 := hbM.cell 1
    simp at n0 n1
    have HBM := Lib.hid hbM; have HFM := Lib.hid (HFE.out.trans fM (by simp))
    clear hbM fM hwM
    go_wp2_with fail
    refine hK.out _ _ ?_ (fun hHeld => ?_)
    · (repeat' (first | trivial | assumption | refine ⟨?_, ?_⟩))
    clear hK K
    (try simp only [Act.put, List.setIfInBounds_toArray, List.set_cons_zero, List.set_cons_succ])
    refine wpAnyH_pick 22 (v := ?_) rfl (by kernel_rfl) (by kernel_rfl) (by kernel_rfl) (fun _ _ _ h => h) (by assumption) (by rfl) ?_ ?_
    rotate_left
    · (intro w hSw; (try dsimp only at hSw); go_simp) <;> (with_reducible rfl)
    (try simp only [Act.put, List.setIfInBounds_toArray, List.set_cons_zero, List.set_cons_succ])
    refine wpAnyH_pick 23 (v := ?_) rfl (by kernel_rfl) (by kernel_rfl) (by kernel_rfl) (fun _ _ _ h => h) (by assumption) (by rfl) ?_ ?_
    rotate_left
    · (intro w hSw; (try dsimp only at hSw); go_simp) <;> (with_reducible rfl)
    (try simp only [Act.put, List.setIfInBounds_toArray, List.set_cons_zero, List.set_cons_succ])
    refine wpAnyH_pick 24 (v := ?_) rfl (by kernel_rfl) (by kernel_rfl) (by kernel_rfl) (fun _ _ _ h => h) (by assumption) (by rfl) ?_ ?_
    rotate_left
    · (intro w hSw; (try dsimp only at hSw); go_simp) <;> (with_reducible rfl)
    (try simp only [Act.put, List.setIfInBounds_toArray, List.set_cons_zero, List.set_cons_succ])
    refine wpAnyH_pick 25 (v := ?_) rfl (by kernel_rfl) (by kernel_rfl) (by kernel_rfl) (fun _ _ _ h => h) (by assumption) (by rfl) ?_ ?_
    rotate_left
    · (intro w hSw; (try dsimp only at hSw); go_simp) <;> (with_reducible rfl)
    (try simp only [Act.put, List.setIfInBounds_toArray, List.set_cons_zero, List.set_cons_succ])
    refine wpAnyH_pick 26 (v := ?_) rfl (by kernel_rfl) (by kernel_rfl) (by kernel_rfl) (fun _ _ _ h => h) (by assumption) (by rfl) ?_ ?_
    rotate_left
    · (intro w hSw; (try dsimp only at hSw); go_simp) <;> (with_reducible rfl)
    (try simp only [Act.put, List.setIfInBounds_toArray, List.set_cons_zero, List.set_cons_succ])
    refine wpAnyH_pick 27 (v := ?_) rfl (by kernel_rfl) (by kernel_rfl) (by kernel_rfl) (fun _ _ _ h => h) (by assumption) (by rfl) ?_ ?_
    rotate_left
    · (intro w hSw; (try dsimp only at hSw); go_simp) <;> (with_reducible rfl)
    (try simp only [Act.put, List.setIfInBounds_toArray, List.set_cons_zero, List.set_cons_succ])
    refine wpAnyH_pick 28 (v := ?_) rfl (by kernel_rfl) (by kernel_rfl) (by kernel_rfl) (fun _ _ _ h => h) (by assumption) (by rfl) ?_ ?_
    rotate_left
    · (intro w hSw; (try dsimp only at hSw); go_simp) <;> (with_reducible rfl)
    (try simp only [Act.put, List.setIfInBounds_toArray, List.set_cons_zero, List.set_cons_succ])
    refine wpAnyH_pick 30 (v := ?_) rfl (by kernel_rfl) (by kernel_rfl) (by kernel_rfl) (fun _ _ _ h => h) (by assumption) (by rfl) ?_ ?_
    rotate_left
    · (intro w hSw; (try dsimp only at hSw); go_simp) <;> (with_reducible rfl)
    (try simp only [Act.put, List.setIfInBounds_toArray, List.set_cons_zero, List.set_cons_succ])
    refine wpAnyH_ready (rs := [29]) (by kernel_rfl) (by simp) ?_
    refine AllReadyH_pick rfl (fun K hK => ?_) (AllReadyH.nil)
    go_simp
    refine (K5.out _).mono ?_
    rintro e wV ⟨rfl, fV⟩
    have hbV := HBM.out.fr fV (by simp)
    have o0 := hbV.cell 0
    have o1 := hbV.cell 1
    simp at o0 o1
    have HBV := Lib.hid hbV; have HFV := Lib.hid (HFM.out.trans fV (by simp))
    clear hbV fV
    go_wp2_with fail
    refine hK.out _ _ ?_ (fun hHeld => ?_)
    · (repeat' (first | trivial | assumption | refine ⟨?_, ?_⟩))
    clear hK K
    (try simp only [Act.put, List.setIfInBounds_toArray, List.set_cons_zero, List.set_cons_succ])
    refine wpAnyH_pick 31 (v := ?_) rfl (by kernel_rfl) (by kernel_rfl) (by kernel_rfl) (fun _ _ _ h => h) (by assumption) (by rfl) ?_ ?_
    rotate_left
    · (intro w hSw; (try dsimp only at hSw); go_simp) <;> (with_reducible rfl)
    (try simp only [Act.put, List.setIfInBounds_toArray, List.set_cons_zero, List.set_cons_succ])
    refine wpAnyH_pick 32 (v := ?_) rfl (by kernel_rfl) (by kernel_rfl) (by kernel_rfl) (fun _ _ _ h => h) (by assumption) (by rfl) ?_ ?_
    rotate_left
    · (intro w hSw; (try dsimp only at hSw); go_simp) <;> (with_reducible rfl)
    (try simp only [Act.put, List.setIfInBounds_toArray, List.set_cons_zero, List.set_cons_succ])
    refine wpAnyH_pick 33 (v := ?_) rfl (by kernel_rfl) (by kernel_rfl) (by kernel_rfl) (fun _ _ _ h => h) (by assumption) (by rfl) ?_ ?_
    rotate_left
    · (intro w hSw; (try dsimp only at hSw); go_simp) <;> (with_reducible rfl)
    (try simp only [Act.put, List.setIfInBounds_toArray, List.set_cons_zero, List.set_cons_succ])
    refine wpAnyH_done (by kernel_rfl) ?_ _
    skip
    go_wp2_with fail
    go_ret
    exact ⟨rfl, HFV.out⟩
end Go.Proofs.Ytendcmdpmohacaa

/-
  Two numbers as an argument: what they read as. No condition.
-/
namespace Go.Proofs.Ytendcmdpmohacaa
open Go.RowKit Go.ChangeShapes Go.WideShapes Go.ChangeAt Go.Deep

theorem okWide_two {P : Program} {w : World} {r : Reach} {base : Nat} {t e : TypeId} {n : Nat} {v : Value} (ht : P.underlying t = some (.array n e)) (h : Value.okWide P w r base t v) : ∃ l : List Value, v = .agg ⟨l⟩ := by
  simp only [Value.okWide, ht] at h
  obtain ⟨⟨l⟩, h1, -⟩ := h
  exact ⟨l, h1⟩
section
variable {H : Type} {enc : TypeId × Value → H} {w : World} {base : Nat} {spare : Nat → Bool} {held : Bool}
theorem trod_in {n : Nat} {c : Value} {y : DataW H × List MemPlace} (h : DataW.trod enc Try.prog w base spare held n 3 [c] = some y) : ∃ z, c = .int .i64 z ∧ InI z := by
  obtain ⟨z, h0, -, v0⟩ := DataW.trod_int Try.underlying3 h
  simp [Lit.wf, IntKind.min, IntKind.max, IntKind.signed, IntKind.bits] at v0
  simp at h0
  exact ⟨z, h0, by unfold InI; omega⟩
set_option maxRecDepth 20000 in
theorem open_two {n : Nat} {cs : List Value} {x : DataW H × List MemPlace} (h : DataW.trod enc Try.prog w base spare held n 22 cs = some x) :
    ∃ z0 z1, cs = [.int .i64 z0, .int .i64 z1] ∧ InI z0 ∧ InI z1 := by
  obtain ⟨xs, m, -, -, hl, hx, hf⟩ := DataW.trod_array Try.underlying22 h
  have hl2 : cs.length = 2 := hl.trans (by kernel_rfl)
  match cs, hl2, xs, hx with
  | [c0, c1], _, [y0, y1], _ =>
    have e0 : Try.prog.cellsOf 3 = 1 := by kernel_rfl
    have g0 := hf 0 (by omega)
    have g1 := hf 1 (by omega)
    rw [e0] at g0 g1
    obtain ⟨z0, rfl, j0⟩ := trod_in (c := c0) (y := y0) g0
    obtain ⟨z1, rfl, j1⟩ := trod_in (c := c1) (y := y1) g1
    exact ⟨z0, z1, rfl, j0, j1⟩
end
end Go.Proofs.Ytendcmdpmohacaa

/-
  The statement QuantSteps out of the contracts.
-/
namespace Go.Proofs.Ytendcmdpmohacaa
open Go.ChangeShapes Go.WideShapes Go.ChangeAt Go.RowKit

set_option maxRecDepth 100000 in
theorem steps8_lifted {X : EncSpec} {Y : DecSpec} (Z : QuantSpec X Y) (os : Os) (started : os.Started) (H : Type) (enc : TypeId × Value → H) :
    ReturnsInHanded {} Try.checked os 3 .any (Rows.quantStepsSpec.pre6 enc Try.prog Try.f3 Rows.quantStepsRow.domain false) (Rows.quantStepsSpec.post enc Try.prog Try.f3 false true false false) := by
  refine law_lift (C := Try.checked) own_knob started (by kernel_rfl) Try.func3
    (ChangeSpec.witness6 (enc := enc) (C := Try.checked) false ⟨#[], #[.int .i64 0, .agg #[.int .i64 0, .int .i64 0], .agg #[.int .i64 0, .int .i64 0]], []⟩ 8 (by kernel_rfl) (by kernel_rfl) (by kernel_rfl) (by kernel_rfl))
    laid_out rfl rfl Try.underlying4 (of_decide_eq_true (by kernel_rfl)) ?_
  intro W base args ds before hval0 hA0 hlt
  have hval : ∀ (j : Nat) t v, Try.f3.params[j]? = some t → args[j]? = some v → Value.okWide Try.prog W .any base t v := hval0
  have hA : DataW.TrodAll enc Try.prog W 0 (fun _ => true) true Try.f3.params.toList args.toList ds before := hA0
  rw [Try.params3] at hA hval
  obtain ⟨v0, v1, v2, d0, d1, d2, p0, p1, p2, rfl, rfl, -, h0, ⟨fuel1, h1⟩, ⟨fuel2, h2⟩⟩ := trodAll_three hA
  obtain ⟨z0, rfl, -, -, wz0⟩ := open_int Try.underlying3 (hval 0 _ _ rfl rfl) h0
  simp [Lit.wf, IntKind.min, IntKind.max, IntKind.signed, IntKind.bits] at wz0
  have j0 : InI z0 := by unfold InI; omega
  obtain ⟨l1, rfl⟩ := okWide_two Try.underlying22 (hval 1 _ _ rfl rfl)
  obtain ⟨i1, j1, e1, ji1, jj1⟩ := open_two h1
  have e1' : l1 = [.int .i64 i1, .int .i64 j1] := e1
  rw [e1']
  obtain ⟨l2, rfl⟩ := okWide_two Try.underlying22 (hval 2 _ _ rfl rfl)
  obtain ⟨i2, j2, e2, ji2, jj2⟩ := open_two h2
  have e2' : l2 = [.int .i64 i2, .int .i64 j2] := e2
  rw [e2']
  exact ⟨rfl, (steps8_law Z z0 i1 j1 i2 j2 W j0 ji1 jj1 ji2 jj2).mono fun e W' ⟨he, hf⟩ => ⟨he, hf.below (by simp) (Nat.le_refl _)⟩⟩

theorem steps8_holds_of {X : EncSpec} {Y : DecSpec} (Z : QuantSpec X Y) : Rows.QuantStepsSaid :=
  OpenClaim.holds_of_wide 3 Try.f3 rfl rfl rfl rfl rfl rfl rfl ⟨rfl, rfl, rfl, rfl, rfl⟩ rfl rfl rfl rfl rfl (by kernel_rfl) Try.func3 (by kernel_rfl)
    (of_decide_eq_true (by kernel_rfl)) (by unfold Func.isWrapper; first | (rw [if_pos (by decide +kernel)]; kernel_rfl) | (rw [if_neg (by decide +kernel)]; exact ⟨rfl, rfl⟩))
    (fun os started H enc _ => steps8_lifted Z os started H enc)
end Go.Proofs.Ytendcmdpmohacaa

/-
  The law QuantSteps answers true whatever its input, and leaves its arguments as they were; no condition.
-/
namespace Go.Proofs.Ytendcmdpmohacaa
open Go.RowKit

theorem steps8_holds : Rows.QuantStepsSaid := steps8_holds_of quantI
#print axioms steps8_holds
end Go.Proofs.Ytendcmdpmohacaa
