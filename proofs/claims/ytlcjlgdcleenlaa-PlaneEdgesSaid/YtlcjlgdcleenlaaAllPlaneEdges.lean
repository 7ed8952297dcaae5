/-
  The law PlaneEdges answers true whatever its input, and leaves its arguments as they were; no condition.
-/
import Derived.Test.YtlcjlgdcleenlaaAll1
import Derived.Test.YtlcjlgdcleenlaaAll2
import Derived.Test.YtlcjlgdcleenlaaAll3
/-
  The law PlaneEdges, out of the contracts.
-/
namespace Go.Proofs.Ytlcjlgdcleenlaa
open Go.RowKit

attribute [local go_sem] cv_rule

set_option maxRecDepth 20000 in
set_option maxHeartbeats 4000000 in
theorem edges6_law (Z : PlaneSpec) (a : FrAt) (P : Pl) (x0 x1 z : Int) (w : World) (hp : a.has w P)
    (n1 : P.pix.length ≤ 9223372036854775807) (j0 : InJ x0) (j1 : InJ x1) :
    Calls Try.prog 9 #[a.val, .agg #[.int .i64 x0, .int .i64 x1], .int .i64 z] w fun e w' => e = .returned (.bool true) ∧ Fr [] w w' := by
  have HA := Lib.hid fun W => alive6_any Z W
  have HN := Lib.hid n1
  have HJ := Lib.hid (And.intro j0 j1)
  have HE := Lib.hid (And.intro hp.1 (And.intro hp.2.1 hp.2.2.1))
  obtain ⟨w1, ga, ewa, ega, ba, na, Fa⟩ := hp.put (Fr.refl [] w)
  obtain ⟨w2, go, ewo, ego, bo, no, Fo⟩ := Held.put w w1 50 #[.int .i64 x0, .int .i64 x1] Fa
  have Ba := Lib.hid (ba.fr0 no); have Bo := Lib.hid bo; have HF := Lib.hid Fo
  clear ba bo na no Fa Fo hp n1 j0 j1
  obtain ⟨aW, aH, aA, an, ac⟩ := a
  simp only [FrAt.val] at ewa ⊢
  go_enter Try.func9, Try.ntmps9
  have ca0 := Ba.out.bk.cell 0
  have ca1 := Ba.out.bk.cell 1
  have ca2 := Ba.out.bk.cell 2
  have la := Ba.out.bk.lt
  simp at ca0 ca1 ca2
  go_wp2_with fail
  clear ewa ewo ega ego
  refine (law6_fits _ _ _ Ba.out.has HN.out).mono ?_
  rintro e w3 ⟨rfl, hf⟩
  replace Ba := Lib.hid (Ba.out.fr0 hf)
  replace Bo := Lib.hid (Bo.out.fr0 hf)
  replace HF := Lib.hid (HF.out.trans hf (by simp))
  clear hf
  clear ca0 ca1 ca2 la
  have ca0 := Ba.out.bk.cell 0
  have ca1 := Ba.out.bk.cell 1
  have ca2 := Ba.out.bk.cell 2
  have la := Ba.out.bk.lt
  simp at ca0 ca1 ca2
  cases f1 : P.fits
  all_goals go_wp2_with fail
  all_goals first
    | (refine (HA.out _).mono ?_; rintro e w1 ⟨rfl, hf⟩; replace HF := Lib.hid (HF.out.trans hf (by simp)); clear hf; go_wp2_with fail; go_ret; exact ⟨rfl, HF.out⟩)
    | skip
  have S1 := Lib.hid (Pl.fits.small f1)
  clear f1
  refine (Z.right _ _ _ Ba.out.has S1.out).mono ?_
  rintro e w4 ⟨rfl, hf⟩
  replace Ba := Lib.hid (Ba.out.fr0 hf)
  replace Bo := Lib.hid (Bo.out.fr0 hf)
  replace HF := Lib.hid (HF.out.trans hf (by simp))
  clear hf
  clear ca0 ca1 ca2 la
  have ca0 := Ba.out.bk.cell 0
  have ca1 := Ba.out.bk.cell 1
  have ca2 := Ba.out.bk.cell 2
  have la := Ba.out.bk.lt
  simp at ca0 ca1 ca2
  have co0 := Bo.out.bk.cell 0
  have co1 := Bo.out.bk.cell 1
  have lo := Bo.out.bk.lt
  simp at co0 co1
  have hz3 : decide (z < 1) = true ∨ (decide (z < 1) = false ∧ decide (16 < z) = true) ∨ (decide (z < 1) = false ∧ decide (16 < z) = false) := by
    by_cases h : z < 1
    · exact .inl (by simpa using h)
    · by_cases h' : 16 < z
      · exact .inr (.inl ⟨by simpa using h, by simpa using h'⟩)
      · exact .inr (.inr ⟨by simpa using h, by simpa using h'⟩)
  cases f2 : P.ok
  · clear hz3
    go_wp2_with fail
    first
      | (refine (HA.out _).mono ?_; rintro e w1 ⟨rfl, hf⟩; replace HF := Lib.hid (HF.out.trans hf (by simp)); clear hf; go_wp2_with fail; go_ret; exact ⟨rfl, HF.out⟩)
  rcases hz3 with e1 | ⟨e1, e2⟩ | ⟨e1, e2⟩
  · go_wp2_with fail
    first
      | (refine (HA.out _).mono ?_; rintro e w1 ⟨rfl, hf⟩; replace HF := Lib.hid (HF.out.trans hf (by simp)); clear hf; go_wp2_with fail; go_ret; exact ⟨rfl, HF.out⟩)
  · go_wp2_with fail
    first
      | (refine (HA.out _).mono ?_; rintro e w1 ⟨rfl, hf⟩; replace HF := Lib.hid (HF.out.trans hf (by simp)); clear hf; go_wp2_with fail; go_ret; exact ⟨rfl, HF.out⟩)
  have K0 := Lib.hid f2
  have hq := Pl.ok_iff.1 f2
  obtain ⟨n, rfl⟩ : ∃ n : Nat, z = (n : Int) := ⟨z.toNat, by simp at e1; omega⟩
  have hn1 : 1 ≤ n := by simp at e1; omega
  have hn2 : n ≤ 16 := by simp at e2; omega
  obtain ⟨m, hm⟩ : ∃ m, m = n * n := ⟨_, rfl⟩
  have hmm : (n : Int) * (n : Int) = (m : Int) := by rw [hm]; simp
  have hmw : IntKind.i64.wrap (m : Int) = (m : Int) := by
    have : n * n ≤ 16 * 16 := Nat.mul_le_mul hn2 hn2
    exact IntWalk.i64_in _ (by omega)
  have hm16 : m ≤ 256 := by rw [hm]; exact Nat.mul_le_mul hn2 hn2
  obtain ⟨⟨hW1, hW2⟩, ⟨hH1, hH2⟩, -⟩ := hq
  have eW := HE.out.1
  have eH := HE.out.2.1
  rw [← eW] at hW1 hW2
  rw [← eH] at hH1 hH2
  have jj0 := HJ.out.1; have jj1 := HJ.out.2
  unfold InJ at jj0 jj1
  obtain ⟨M0, hM0⟩ : ∃ M, (if x0 < 0 then 0 else x0) = M := ⟨_, rfl⟩
  obtain ⟨X, hX⟩ : ∃ X, (if aW - 1 < M0 then aW - 1 else M0) = X := ⟨_, rfl⟩
  obtain ⟨M1, hM1⟩ : ∃ M, (if x1 < 0 then 0 else x1) = M := ⟨_, rfl⟩
  obtain ⟨Y, hY⟩ : ∃ Y, (if aH - 1 < M1 then aH - 1 else M1) = Y := ⟨_, rfl⟩
  have eX : X = nearI x0 P.w := by rw [nearI_minmax _ _ (by omega), ← eW, ← hX, ← hM0]; omega
  have eY : Y = nearI x1 P.h := by rw [nearI_minmax _ _ (by omega), ← eH, ← hY, ← hM1]; omega
  have jX : InJ X := by unfold InJ; rw [← hX, ← hM0]; omega
  have jY : InJ Y := by unfold InJ; rw [← hY, ← hM1]; omega
  obtain ⟨u0, hu0⟩ : ∃ u, u = P.at_ x0 x1 := ⟨_, rfl⟩
  obtain ⟨u1, hu1⟩ : ∃ u, u = P.at_ (P.w - 1) 0 := ⟨_, rfl⟩
  obtain ⟨u2, hu2⟩ : ∃ u, u = P.at_ 0 (P.h - 1) := ⟨_, rfl⟩
  obtain ⟨L1, hL1⟩ : ∃ L, L = P.block 1099511627776 (-1099511627776) (n : Int) := ⟨_, rfl⟩
  obtain ⟨L2, hL2⟩ : ∃ L, L = P.block (-(n : Int)) P.h (n : Int) := ⟨_, rfl⟩
  have l1 : L1.length = m := by rw [hL1, hm]; exact block_length f2 hn1 (by omega) _ _
  have l2 : L2.length = m := by rw [hL2, hm]; exact block_length f2 hn1 (by omega) _ _
  have g1 : ∀ k, k < m → L1[k]? = some u1 := fun k hk => by rw [hL1, block_get f2 hn1 (by omega) _ _ (by omega), corner_right f2 hn1 hn2 (by omega), hu1]
  have g2 : ∀ k, k < m → L2[k]? = some u2 := fun k hk => by rw [hL2, block_get f2 hn1 (by omega) _ _ (by omega), corner_left f2 hn1 hn2 (by omega), hu2]
  have T1 : Hid (∀ W (a : FrAt), a.has W P → Calls Try.prog 30 #[a.val, .int .i64 1099511627776, .int .i64 (-1099511627776), .int .i64 (n : Int)] W fun e w' => ∃ A c, e = .returned (.slice A m c) ∧ Src w' (.slice A m c) (L1.map B8) ∧ Fr [] W w') := Lib.hid fun W a h => by
    have := Z.block W a P 1099511627776 (-1099511627776) (n : Int) h S1.out (by unfold InJ; omega) (by unfold InJ; omega) (by unfold InJ; omega)
    rw [← hL1] at this
    unfold BsPost at this
    rw [l1] at this
    exact this
  have T2 : Hid (∀ W (a : FrAt), a.has W P → Calls Try.prog 30 #[a.val, .int .i64 (-(n : Int)), .int .i64 aH, .int .i64 (n : Int)] W fun e w' => ∃ A c, e = .returned (.slice A m c) ∧ Src w' (.slice A m c) (L2.map B8) ∧ Fr [] W w') := Lib.hid fun W a h => by
    have := Z.block W a P (-(n : Int)) P.h (n : Int) h S1.out (by unfold InJ; omega) (by unfold InJ; omega) (by unfold InJ; omega)
    rw [← hL2] at this
    unfold BsPost at this
    rw [l2, ← eH] at this
    exact this
  have T3 : Hid (∀ W (a : FrAt), a.has W P → Calls Try.prog 31 #[a.val, .int .i64 x0, .int .i64 x1] W fun e w' => e = .returned (.int .u8 (u0.toNat : Int)) ∧ Fr [] W w') := Lib.hid fun W a h => by rw [hu0]; exact Z.at_ W a P x0 x1 h S1.out jj0 jj1
  have T4 : Hid (∀ W (a : FrAt), a.has W P → Calls Try.prog 31 #[a.val, .int .i64 X, .int .i64 Y] W fun e w' => e = .returned (.int .u8 (u0.toNat : Int)) ∧ Fr [] W w') := Lib.hid fun W a h => by
    have e := at_near f2 x0 x1
    rw [← eX, ← eY] at e
    rw [hu0, ← e]
    exact Z.at_ W a P X Y h S1.out jX jY
  have T5 : Hid (∀ W (a : FrAt), a.has W P → Calls Try.prog 31 #[a.val, .int .i64 (aW - 1), .int .i64 0] W fun e w' => e = .returned (.int .u8 (u1.toNat : Int)) ∧ Fr [] W w') := Lib.hid fun W a h => by rw [hu1, ← eW]; exact Z.at_ W a P (aW - 1) 0 h S1.out (by unfold InJ; omega) (by unfold InJ; omega)
  have T6 : Hid (∀ W (a : FrAt), a.has W P → Calls Try.prog 31 #[a.val, .int .i64 0, .int .i64 (aH - 1)] W fun e w' => e = .returned (.int .u8 (u2.toNat : Int)) ∧ Fr [] W w') := Lib.hid fun W a h => by rw [hu2, ← eH]; exact Z.at_ W a P 0 (aH - 1) h S1.out (by unfold InJ; omega) (by unfold InJ; omega)
  have T7 : Hid (∀ W (a : FrAt) (A : Option Addr) (c : Nat), a.has W P → Src W (.slice A m c) (L1.map B8) → Calls Try.prog 18 #[a.val, .int .i64 (-(n : Int)), .int .i64 0, .int .i64 (n : Int), .slice A m c] W (PlPost W (P, 0))) := Lib.hid fun W a A c h k => by
    rw [← lay_out f2 (x := -(n : Int)) (y := 0) hn1 (by omega) (b := L1) (by rw [l1, hm]) (.inl (by omega)), ← l1]
    exact Z.lay W a P _ 0 (n : Int) A c L1 h S1.out (by rw [l1]; exact k) (by omega) (by unfold InJ; omega) (by unfold InJ; omega) (by unfold InJ; omega)
  have T8 : Hid (∀ W (a : FrAt) (A : Option Addr) (c : Nat), a.has W P → Src W (.slice A m c) (L1.map B8) → Calls Try.prog 18 #[a.val, .int .i64 1099511627776, .int .i64 1099511627776, .int .i64 (n : Int), .slice A m c] W (PlPost W (P, 0))) := Lib.hid fun W a A c h k => by
    rw [← lay_out f2 (x := 1099511627776) (y := 1099511627776) hn1 (by omega) (b := L1) (by rw [l1, hm]) (.inr (by omega)), ← l1]
    exact Z.lay W a P _ _ (n : Int) A c L1 h S1.out (by rw [l1]; exact k) (by omega) (by unfold InJ; omega) (by unfold InJ; omega) (by unfold InJ; omega)
  have G1 := Lib.hid g1; have G2 := Lib.hid g2
  have c1 : decide ((n : Int) < 1) = false := e1
  have aw : IntKind.i64.wrap (aW - 1) = aW - 1 := IntWalk.i64_in _ (by omega)
  have ah : IntKind.i64.wrap (aH - 1) = aH - 1 := IntWalk.i64_in _ (by omega)
  have wn : IntKind.i64.wrap (-(n : Int)) = -(n : Int) := IntWalk.i64_in _ (by omega)
  have AWH := Lib.hid (And.intro aw ah)
  clear f2 g1 g2 l1 l2 hL1 hL2 hu0 hu1 hu2 eX eY jX jY hm eW eH jj0 jj1 aw ah hn1
  go_upto_region 7 with fail
  clear hM0 hX hM1 hY
  go_wp2_with fail
  refine (T1.out _ _ Ba.out.has).mono ?_
  rintro e w5 ⟨bA, bc, rfl, hs, hf⟩
  replace Ba := Lib.hid (Ba.out.fr0 hf)
  replace Bo := Lib.hid (Bo.out.fr0 hf)
  replace HF := Lib.hid (HF.out.trans hf (by simp))
  have Hb := Lib.hid hs
  clear hs hf
  clear ca0 ca1 ca2 la co0 co1 lo
  have ca0 := Ba.out.bk.cell 0
  have ca1 := Ba.out.bk.cell 1
  have ca2 := Ba.out.bk.cell 2
  have la := Ba.out.bk.lt
  simp at ca0 ca1 ca2
  clear T1
  go_wp2_with fail
  refine (T2.out _ _ Ba.out.has).mono ?_
  rintro e w6 ⟨dA, dc, rfl, hs, hf⟩
  replace Ba := Lib.hid (Ba.out.fr0 hf)
  replace Bo := Lib.hid (Bo.out.fr0 hf)
  replace Hb := Lib.hid (Hb.out.fr0 hf)
  replace HF := Lib.hid (HF.out.trans hf (by simp))
  have Hd := Lib.hid hs
  clear hs hf
  clear ca0 ca1 ca2 la
  have ca0 := Ba.out.bk.cell 0
  have ca1 := Ba.out.bk.cell 1
  have ca2 := Ba.out.bk.cell 2
  have la := Ba.out.bk.lt
  simp at ca0 ca1 ca2
  have co0 := Bo.out.bk.cell 0
  have co1 := Bo.out.bk.cell 1
  have lo := Bo.out.bk.lt
  simp at co0 co1
  clear T2 wn
  go_upto_region 9 with fail
  have hf := (Fr.refl [] w6).drew
  replace Ba := Lib.hid (Ba.out.fr0 hf)
  replace Bo := Lib.hid (Bo.out.fr0 hf)
  replace Hb := Lib.hid (Hb.out.fr0 hf)
  replace Hd := Lib.hid (Hd.out.fr0 hf)
  replace HF := Lib.hid (HF.out.trans hf (by simp))
  clear hf
  have ia0 := Ba.out.bk.cell 0
  have ia1 := Ba.out.bk.cell 1
  have ia2 := Ba.out.bk.cell 2
  have io0 := Bo.out.bk.cell 0
  have io1 := Bo.out.bk.cell 1
  simp at ia0 ia1 ia2 io0 io1
  clear ca0 ca1 ca2 la co0 co1 lo
  refine wp_region_held_drew (S := fun W => W.cell? ⟨ga, 0, none⟩ = some (.int .i64 aW) ∧ W.cell? ⟨ga, 1, none⟩ = some (.int .i64 aH) ∧ W.cell? ⟨ga, 2, none⟩ = some (.slice aA an ac) ∧ W.cell? ⟨go, 0, none⟩ = some (.int .i64 x0) ∧ W.cell? ⟨go, 1, none⟩ = some (.int .i64 x1)) (by kernel_rfl) ?_ (fun hHeld => ?_)
  · (first | exact ⟨ka0, ka1, ka2, ko0, ko1⟩ | exact ⟨ja0, ja1, ja2, jo0, jo1⟩ | exact ⟨ia0, ia1, ia2, io0, io1⟩)
  refine wpAnyH_pick 0 (v := ?_) rfl (by kernel_rfl) (by kernel_rfl) (by kernel_rfl) (fun _ _ _ h => h) (by assumption) (by rfl) ?_ ?_
  rotate_left
  · (intro w hSw; (try dsimp only at hSw); go_simp) <;> (with_reducible rfl)
  (try simp only [Act.put, List.setIfInBounds_toArray, List.set_cons_zero, List.set_cons_succ])
  refine wpAnyH_pick 1 (v := ?_) rfl (by kernel_rfl) (by kernel_rfl) (by kernel_rfl) (fun _ _ _ h => h) (by assumption) (by rfl) ?_ ?_
  rotate_left
  · (intro w hSw; (try dsimp only at hSw); go_simp) <;> (with_reducible rfl)
  (try simp only [Act.put, List.setIfInBounds_toArray, List.set_cons_zero, List.set_cons_succ])
  refine wpAnyH_pick 2 (v := ?_) rfl (by kernel_rfl) (by kernel_rfl) (by kernel_rfl) (fun _ _ _ h => h) (by assumption) (by rfl) ?_ ?_
  rotate_left
  · (intro w hSw; (try dsimp only at hSw); go_simp) <;> (with_reducible rfl)
  (try simp only [Act.put, List.setIfInBounds_toArray, List.set_cons_zero, List.set_cons_succ])
  refine wpAnyH_pick 3 (v := ?_) rfl (by kernel_rfl) (by kernel_rfl) (by kernel_rfl) (fun _ _ _ h => h) (by assumption) (by rfl) ?_ ?_
  rotate_left
  · (intro w hSw; (try dsimp only at hSw); go_simp) <;> (with_reducible rfl)
  (try simp only [Act.put, List.setIfInBounds_toArray, List.set_cons_zero, List.set_cons_succ])
  refine wpAnyH_pick 4 (v := ?_) rfl (by kernel_rfl) (by kernel_rfl) (by kernel_rfl) (fun _ _ _ h => h) (by assumption) (by rfl) ?_ ?_
  rotate_left
  · (intro w hSw; (try dsimp only at hSw); go_simp) <;> (with_reducible rfl)
  (try simp only [Act.put, List.setIfInBounds_toArray, List.set_cons_zero, List.set_cons_succ])
  refine wpAnyH_pick 6 (v := ?_) rfl (by kernel_rfl) (by kernel_rfl) (by kernel_rfl) (fun _ _ _ h => h) (by assumption) (by rfl) ?_ ?_
  rotate_left
  · (intro w hSw; (try dsimp only at hSw); go_simp) <;> (with_reducible rfl)
  (try simp only [Act.put, List.setIfInBounds_toArray, List.set_cons_zero, List.set_cons_succ])
  refine wpAnyH_pick 7 (v := ?_) rfl (by kernel_rfl) (by kernel_rfl) (by kernel_rfl) (fun _ _ _ h => h) (by assumption) (by rfl) ?_ ?_
  rotate_left
  · (intro w hSw; (try dsimp only at hSw); go_simp) <;> (with_reducible rfl)
  (try simp only [Act.put, List.setIfInBounds_toArray, List.set_cons_zero, List.set_cons_succ])
  refine wpAnyH_pick 8 (v := ?_) rfl (by kernel_rfl) (by kernel_rfl) (by kernel_rfl) (fun _ _ _ h => h) (by assumption) (by rfl) ?_ ?_
  rotate_left
  · (intro w hSw; (try dsimp only at hSw); go_simp) <;> (with_reducible rfl)
  (try simp only [Act.put, List.setIfInBounds_toArray, List.set_cons_zero, List.set_cons_succ])
  refine wpAnyH_ready (rs := [5]) (by kernel_rfl) (by simp) ?_
  refine AllReadyH_pick rfl (fun K hK => ?_) (AllReadyH.nil)
  go_simp
  refine (T3.out _ _ Ba.out.has).mono ?_
  rintro e w7 ⟨rfl, hf⟩
  replace Ba := Lib.hid (Ba.out.fr0 hf)
  replace Bo := Lib.hid (Bo.out.fr0 hf)
  replace Hb := Lib.hid (Hb.out.fr0 hf)
  replace Hd := Lib.hid (Hd.out.fr0 hf)
  replace HF := Lib.hid (HF.out.trans hf (by simp))
  clear hf
  have ja0 := Ba.out.bk.cell 0
  have ja1 := Ba.out.bk.cell 1
  have ja2 := Ba.out.bk.cell 2
  have jo0 := Bo.out.bk.cell 0
  have jo1 := Bo.out.bk.cell 1
  simp at ja0 ja1 ja2 jo0 jo1
  go_wp2_with fail
  refine hK.out _ _ ?_ (fun hHeld => ?_)
  · (first | exact ⟨ka0, ka1, ka2, ko0, ko1⟩ | exact ⟨ja0, ja1, ja2, jo0, jo1⟩ | exact ⟨ia0, ia1, ia2, io0, io1⟩)
  clear hK K
  (try simp only [Act.put, List.setIfInBounds_toArray, List.set_cons_zero, List.set_cons_succ])
  refine wpAnyH_ready (rs := [9]) (by kernel_rfl) (by simp) ?_
  refine AllReadyH_pick rfl (fun K hK => ?_) (AllReadyH.nil)
  go_simp
  refine (T4.out _ _ Ba.out.has).mono ?_
  rintro e w8 ⟨rfl, hf⟩
  replace Ba := Lib.hid (Ba.out.fr0 hf)
  replace Bo := Lib.hid (Bo.out.fr0 hf)
  replace Hb := Lib.hid (Hb.out.fr0 hf)
  replace Hd := Lib.hid (Hd.out.fr0 hf)
  replace HF := Lib.hid (HF.out.trans hf (by simp))
  clear hf
  have ka0 := Ba.out.bk.cell 0
  have ka1 := Ba.out.bk.cell 1
  have ka2 := Ba.out.bk.cell 2
  have ko0 := Bo.out.bk.cell 0
  have ko1 := Bo.out.bk.cell 1
  simp at ka0 ka1 ka2 ko0 ko1
  go_wp2_with fail
  refine hK.out _ _ ?_ (fun hHeld => ?_)
  · (first | exact ⟨ka0, ka1, ka2, ko0, ko1⟩ | exact ⟨ja0, ja1, ja2, jo0, jo1⟩ | exact ⟨ia0, ia1, ia2, io0, io1⟩)
  clear hK K
  (try simp only [Act.put, List.setIfInBounds_toArray, List.set_cons_zero, List.set_cons_succ])
  refine wpAnyH_pick 10 (v := ?_) rfl (by kernel_rfl) (by kernel_rfl) (by kernel_rfl) (fun _ _ _ h => h) (by assumption) (by rfl) ?_ ?_
  rotate_left
  · (intro w hSw; (try dsimp only at hSw); go_simp) <;> (with_reducible rfl)
  (try simp only [Act.put, List.setIfInBounds_toArray, List.set_cons_zero, List.set_cons_succ])
  refine wpAnyH_pick 11 (v := ?_) rfl (by kernel_rfl) (by kernel_rfl) (by kernel_rfl) (fun _ _ _ h => h) (by assumption) (by rfl) ?_ ?_
  rotate_left
  · (intro w hSw; (try dsimp only at hSw); go_simp) <;> (with_reducible rfl)
  (try simp only [Act.put, List.setIfInBounds_toArray, List.set_cons_zero, List.set_cons_succ])
  refine wpAnyH_pick 12 (v := ?_) rfl (by kernel_rfl) (by kernel_rfl) (by kernel_rfl) (fun _ _ _ h => h) (by assumption) (by rfl) ?_ ?_
  rotate_left
  · (intro w hSw; (try dsimp only at hSw); go_simp) <;> (with_reducible rfl)
  (try simp only [Act.put, List.setIfInBounds_toArray, List.set_cons_zero, List.set_cons_succ])
  refine wpAnyH_pick 13 (v := ?_) rfl (by kernel_rfl) (by kernel_rfl) (by kernel_rfl) (fun _ _ _ h => h) (by assumption) (by rfl) ?_ ?_
  rotate_left
  · (intro w hSw; (try dsimp only at hSw); go_simp) <;> (with_reducible rfl)
  (try simp only [Act.put, List.setIfInBounds_toArray, List.set_cons_zero, List.set_cons_succ])
  refine wpAnyH_pick 14 (v := ?_) rfl (by kernel_rfl) (by kernel_rfl) (by kernel_rfl) (fun _ _ _ h => h) (by assumption) (by rfl) ?_ ?_
  rotate_left
  · (intro w hSw; (try dsimp only at hSw); go_simp) <;> (with_reducible rfl)
  (try simp only [Act.put, List.setIfInBounds_toArray, List.set_cons_zero, List.set_cons_succ])
  refine wpAnyH_pick 15 (v := ?_) rfl (by kernel_rfl) (by kernel_rfl) (by kernel_rfl) (fun _ _ _ h => h) (by assumption) (by rfl) ?_ ?_
  rotate_left
  · (intro w hSw; (try dsimp only at hSw); go_simp) <;> (with_reducible rfl)
  (try simp only [Act.put, List.setIfInBounds_toArray, List.set_cons_zero, List.set_cons_succ])
  refine wpAnyH_pick 16 (v := ?_) rfl (by kernel_rfl) (by kernel_rfl) (by kernel_rfl) (fun _ _ _ h => h) (by assumption) (by rfl) ?_ ?_
  rotate_left
  · (intro w hSw; (try dsimp only at hSw); go_simp) <;> (with_reducible rfl)
  (try simp only [Act.put, List.setIfInBounds_toArray, List.set_cons_zero, List.set_cons_succ])
  refine wpAnyH_pick 17 (v := ?_) rfl (by kernel_rfl) (by kernel_rfl) (by kernel_rfl) (fun _ _ _ h => h) (by assumption) (by rfl) ?_ ?_
  rotate_left
  · (intro w hSw; (try dsimp only at hSw); go_simp) <;> (with_reducible rfl)
  (try simp only [Act.put, List.setIfInBounds_toArray, List.set_cons_zero, List.set_cons_succ])
  refine wpAnyH_pick 18 (v := ?_) rfl (by kernel_rfl) (by kernel_rfl) (by kernel_rfl) (fun _ _ _ h => h) (by assumption) (by rfl) ?_ ?_
  rotate_left
  · (intro w hSw; (try dsimp only at hSw); go_simp) <;> (with_reducible rfl)
  (try simp only [Act.put, List.setIfInBounds_toArray, List.set_cons_zero, List.set_cons_succ])
  refine wpAnyH_pick 19 (v := ?_) rfl (by kernel_rfl) (by kernel_rfl) (by kernel_rfl) (fun _ _ _ h => h) (by assumption) (by rfl) ?_ ?_
  rotate_left
  · (intro w hSw; (try dsimp only at hSw); go_simp) <;> (with_reducible rfl)
  (try simp only [Act.put, List.setIfInBounds_toArray, List.set_cons_zero, List.set_cons_succ])
  refine wpAnyH_pick 20 (v := ?_) rfl (by kernel_rfl) (by kernel_rfl) (by kernel_rfl) (fun _ _ _ h => h) (by assumption) (by rfl) ?_ ?_
  rotate_left
  · (intro w hSw; (try dsimp only at hSw); go_simp) <;> (with_reducible rfl)
  (try simp only [Act.put, List.setIfInBounds_toArray, List.set_cons_zero, List.set_cons_succ])
  refine wpAnyH_pick 21 (v := ?_) rfl (by kernel_rfl) (by kernel_rfl) (by kernel_rfl) (fun _ _ _ h => h) (by assumption) (by rfl) ?_ ?_
  rotate_left
  · (intro w hSw; (try dsimp only at hSw); go_simp) <;> (with_reducible rfl)
  (try simp only [Act.put, List.setIfInBounds_toArray, List.set_cons_zero, List.set_cons_succ])
  refine wpAnyH_pick 22 (v := ?_) rfl (by kernel_rfl) (by kernel_rfl) (by kernel_rfl) (fun _ _ _ h => h) (by assumption) (by rfl) ?_ ?_
  rotate_left
  · (intro w hSw; (try dsimp only at hSw); go_simp) <;> (with_reducible rfl)
  (try simp only [Act.put, List.setIfInBounds_toArray, List.set_cons_zero, List.set_cons_succ])
  refine wpAnyH_pick 23 (v := ?_) rfl (by kernel_rfl) (by kernel_rfl) (by kernel_rfl) (fun _ _ _ h => h) (by assumption) (by rfl) ?_ ?_
  rotate_left
  · (intro w hSw; (try dsimp only at hSw); go_simp) <;> (with_reducible rfl)
  (try simp only [Act.put, List.setIfInBounds_toArray, List.set_cons_zero, List.set_cons_succ])
  refine wpAnyH_pick 24 (v := ?_) rfl (by kernel_rfl) (by kernel_rfl) (by kernel_rfl) (fun _ _ _ h => h) (by assumption) (by rfl) ?_ ?_
  rotate_left
  · (intro w hSw; (try dsimp only at hSw); go_simp) <;> (with_reducible rfl)
  (try simp only [Act.put, List.setIfInBounds_toArray, List.set_cons_zero, List.set_cons_succ])
  refine wpAnyH_pick 25 (v := ?_) rfl (by kernel_rfl) (by kernel_rfl) (by kernel_rfl) (fun _ _ _ h => h) (by assumption) (by rfl) ?_ ?_
  rotate_left
  · (intro w hSw; (try dsimp only at hSw); go_simp) <;> (with_reducible rfl)
  (try simp only [Act.put, List.setIfInBounds_toArray, List.set_cons_zero, List.set_cons_succ])
  refine wpAnyH_pick 26 (v := ?_) rfl (by kernel_rfl) (by kernel_rfl) (by kernel_rfl) (fun _ _ _ h => h) (by assumption) (by rfl) ?_ ?_
  rotate_left
  · (intro w hSw; (try dsimp only at hSw); go_simp) <;> (with_reducible rfl)
  (try simp only [Act.put, List.setIfInBounds_toArray, List.set_cons_zero, List.set_cons_succ])
  refine wpAnyH_done (by kernel_rfl) ?_ _
  skip
  clear T3 T4 HJ ia0 ia1 ia2 io0 io1 ja0 ja1 ja2 jo0 jo1 ka0 ka1 ka2 ko0 ko1
  go_wp2_with fail
  clear Bo
  go_loopw [13] (fun s13 wr => ∃ i : Nat, i ≤ m ∧ s13 = .int .i64 (i : Int) ∧ PlBk wr ga ⟨aW, aH, aA, an, ac⟩ P ∧ Src wr (.slice bA m bc) (L1.map B8) ∧ Src wr (.slice dA m dc) (L2.map B8) ∧ Fr [] w wr) (fun s13 _ => m - (intOf s13).toNat)
  case atStart => exact ⟨0, by omega, rfl, Ba.out, Hb.out, Hd.out, HF.out⟩
  case round =>
    obtain ⟨i, hi, rfl, hBa, hHb, hHd, hF⟩ := hrel
    clear Ba Hb Hd HF
    have Ba := Lib.hid hBa; have Hb := Lib.hid hHb; have Hd := Lib.hid hHd; have HF := Lib.hid hF
    clear hBa hHb hHd hF
    by_cases him : i < m
    · have ei : decide (i < m) = true := by simpa using him
      go_upto_region 14 with fail
      obtain ⟨adb, rb, cb⟩ := Hb.out.cellAt (G1.out i him)
      obtain ⟨add, rd, cd⟩ := Hd.out.cellAt (G2.out i him)
      subst rb rd
      have qi : (i : Int) < (m : Int) := by omega
      obtain ⟨aw, ah⟩ := AWH.out
      simp only [B8] at cb cd
      have hf := (Fr.refl [] wr).drew
      replace Ba := Lib.hid (Ba.out.fr0 hf)
      replace Hb := Lib.hid (Hb.out.fr0 hf)
      replace Hd := Lib.hid (Hd.out.fr0 hf)
      replace HF := Lib.hid (HF.out.trans hf (by simp))
      clear hf
      clear cb cd
      have ia0 := Ba.out.bk.cell 0
      have ia1 := Ba.out.bk.cell 1
      have ia2 := Ba.out.bk.cell 2
      simp at ia0 ia1 ia2
      have ib : _ = some (Value.int .u8 (u1.toNat : Int)) := (Hb.out.cellAt' (G1.out i him))
      have ie : _ = some (Value.int .u8 (u2.toNat : Int)) := (Hd.out.cellAt' (G2.out i him))
      refine wp_region_held_drew (S := fun W => W.cell? ⟨ga, 0, none⟩ = some (.int .i64 aW) ∧ W.cell? ⟨ga, 1, none⟩ = some (.int .i64 aH) ∧ W.cell? ⟨ga, 2, none⟩ = some (.slice aA an ac) ∧ W.cell? (adb.add i) = some (.int .u8 (u1.toNat : Int)) ∧ W.cell? (add.add i) = some (.int .u8 (u2.toNat : Int))) (by kernel_rfl) ?_ (fun hHeld => ?_)
      · (first | exact ⟨ka0, ka1, ka2, kb, ke⟩ | exact ⟨ja0, ja1, ja2, jb, je⟩ | exact ⟨ia0, ia1, ia2, ib, ie⟩)
      refine wpAnyH_pick 0 (v := ?_) rfl (by kernel_rfl) (by kernel_rfl) (by kernel_rfl) (fun _ _ _ h => h) (by assumption) (by rfl) ?_ ?_
      rotate_left
      · (intro w hSw; (try dsimp only at hSw); go_simp) <;> (with_reducible rfl)
      (try simp only [Act.put, List.setIfInBounds_toArray, List.set_cons_zero, List.set_cons_succ])
      refine wpAnyH_pick 1 (v := ?_) rfl (by kernel_rfl) (by kernel_rfl) (by kernel_rfl) (fun _ _ _ h => h) (by assumption) (by rfl) ?_ ?_
      rotate_left
      · (intro w hSw; (try dsimp only at hSw); go_simp) <;> (with_reducible rfl)
      (try simp only [Act.put, List.setIfInBounds_toArray, List.set_cons_zero, List.set_cons_succ])
      refine wpAnyH_pick 2 (v := ?_) rfl (by kernel_rfl) (by kernel_rfl) (by kernel_rfl) (fun _ _ _ h => h) (by assumption) (by rfl) ?_ ?_
      rotate_left
      · (intro w hSw; (try dsimp only at hSw); go_simp) <;> (with_reducible rfl)
      (try simp only [Act.put, List.setIfInBounds_toArray, List.set_cons_zero, List.set_cons_succ])
      refine wpAnyH_pick 3 (v := ?_) rfl (by kernel_rfl) (by kernel_rfl) (by kernel_rfl) (fun _ _ _ h => h) (by assumption) (by rfl) ?_ ?_
      rotate_left
      · (intro w hSw; (try dsimp only at hSw); go_simp) <;> (with_reducible rfl)
      (try simp only [Act.put, List.setIfInBounds_toArray, List.set_cons_zero, List.set_cons_succ])
      refine wpAnyH_pick 4 (v := ?_) rfl (by kernel_rfl) (by kernel_rfl) (by kernel_rfl) (fun _ _ _ h => h) (by assumption) (by rfl) ?_ ?_
      rotate_left
      · (intro w hSw; (try dsimp only at hSw); go_simp) <;> (with_reducible rfl)
      (try simp only [Act.put, List.setIfInBounds_toArray, List.set_cons_zero, List.set_cons_succ])
      refine wpAnyH_pick 5 (v := ?_) rfl (by kernel_rfl) (by kernel_rfl) (by kernel_rfl) (fun _ _ _ h => h) (by assumption) (by rfl) ?_ ?_
      rotate_left
      · (intro w hSw; (try dsimp only at hSw); go_simp) <;> (with_reducible rfl)
      (try simp only [Act.put, List.setIfInBounds_toArray, List.set_cons_zero, List.set_cons_succ])
      refine wpAnyH_pick 6 (v := ?_) rfl (by kernel_rfl) (by kernel_rfl) (by kernel_rfl) (fun _ _ _ h => h) (by assumption) (by rfl) ?_ ?_
      rotate_left
      · (intro w hSw; (try dsimp only at hSw); go_simp) <;> (with_reducible rfl)
      (try simp only [Act.put, List.setIfInBounds_toArray, List.set_cons_zero, List.set_cons_succ])
      refine wpAnyH_pick 7 (v := ?_) rfl (by kernel_rfl) (by kernel_rfl) (by kernel_rfl) (fun _ _ _ h => h) (by assumption) (by rfl) ?_ ?_
      rotate_left
      · (intro w hSw; (try dsimp only at hSw); go_simp) <;> (with_reducible rfl)
      (try simp only [Act.put, List.setIfInBounds_toArray, List.set_cons_zero, List.set_cons_succ])
      refine wpAnyH_ready (rs := [8]) (by kernel_rfl) (by simp) ?_
      refine AllReadyH_pick rfl (fun K hK => ?_) (AllReadyH.nil)
      go_simp
      refine (T5.out _ _ Ba.out.has).mono ?_
      rintro e w9 ⟨rfl, hf⟩
      replace Ba := Lib.hid (Ba.out.fr0 hf)
      replace Hb := Lib.hid (Hb.out.fr0 hf)
      replace Hd := Lib.hid (Hd.out.fr0 hf)
      replace HF := Lib.hid (HF.out.trans hf (by simp))
      clear hf
      have ja0 := Ba.out.bk.cell 0
      have ja1 := Ba.out.bk.cell 1
      have ja2 := Ba.out.bk.cell 2
      simp at ja0 ja1 ja2
      have jb : _ = some (Value.int .u8 (u1.toNat : Int)) := (Hb.out.cellAt' (G1.out i him))
      have je : _ = some (Value.int .u8 (u2.toNat : Int)) := (Hd.out.cellAt' (G2.out i him))
      go_wp2_with fail
      refine hK.out _ _ ?_ (fun hHeld => ?_)
      · (first | exact ⟨ka0, ka1, ka2, kb, ke⟩ | exact ⟨ja0, ja1, ja2, jb, je⟩ | exact ⟨ia0, ia1, ia2, ib, ie⟩)
      clear hK K
      (try simp only [Act.put, List.setIfInBounds_toArray, List.set_cons_zero, List.set_cons_succ])
      refine wpAnyH_pick 9 (v := ?_) rfl (by kernel_rfl) (by kernel_rfl) (by kernel_rfl) (fun _ _ _ h => h) (by assumption) (by rfl) ?_ ?_
      rotate_left
      · (intro w hSw; (try dsimp only at hSw); go_simp) <;> (with_reducible rfl)
      (try simp only [Act.put, List.setIfInBounds_toArray, List.set_cons_zero, List.set_cons_succ])
      refine wpAnyH_pick 10 (v := ?_) rfl (by kernel_rfl) (by kernel_rfl) (by kernel_rfl) (fun _ _ _ h => h) (by assumption) (by rfl) ?_ ?_
      rotate_left
      · (intro w hSw; (try dsimp only at hSw); go_simp) <;> (with_reducible rfl)
      (try simp only [Act.put, List.setIfInBounds_toArray, List.set_cons_zero, List.set_cons_succ])
      refine wpAnyH_pick 11 (v := ?_) rfl (by kernel_rfl) (by kernel_rfl) (by kernel_rfl) (fun _ _ _ h => h) (by assumption) (by rfl) ?_ ?_
      rotate_left
      · (intro w hSw; (try dsimp only at hSw); go_simp) <;> (with_reducible rfl)
      (try simp only [Act.put, List.setIfInBounds_toArray, List.set_cons_zero, List.set_cons_succ])
      refine wpAnyH_pick 12 (v := ?_) rfl (by kernel_rfl) (by kernel_rfl) (by kernel_rfl) (fun _ _ _ h => h) (by assumption) (by rfl) ?_ ?_
      rotate_left
      · (intro w hSw; (try dsimp only at hSw); go_simp) <;> (with_reducible rfl)
      (try simp only [Act.put, List.setIfInBounds_toArray, List.set_cons_zero, List.set_cons_succ])
      refine wpAnyH_pick 13 (v := ?_) rfl (by kernel_rfl) (by kernel_rfl) (by kernel_rfl) (fun _ _ _ h => h) (by assumption) (by rfl) ?_ ?_
      rotate_left
      · (intro w hSw; (try dsimp only at hSw); go_simp) <;> (with_reducible rfl)
      (try simp only [Act.put, List.setIfInBounds_toArray, List.set_cons_zero, List.set_cons_succ])
      refine wpAnyH_pick 14 (v := ?_) rfl (by kernel_rfl) (by kernel_rfl) (by kernel_rfl) (fun _ _ _ h => h) (by assumption) (by rfl) ?_ ?_
      rotate_left
      · (intro w hSw; (try dsimp only at hSw); go_simp) <;> (with_reducible rfl)
      (try simp only [Act.put, List.setIfInBounds_toArray, List.set_cons_zero, List.set_cons_succ])
      refine wpAnyH_pick 15 (v := ?_) rfl (by kernel_rfl) (by kernel_rfl) (by kernel_rfl) (fun _ _ _ h => h) (by assumption) (by rfl) ?_ ?_
      rotate_left
      · (intro w hSw; (try dsimp only at hSw); go_simp) <;> (with_reducible rfl)
      (try simp only [Act.put, List.setIfInBounds_toArray, List.set_cons_zero, List.set_cons_succ])
      refine wpAnyH_pick 16 (v := ?_) rfl (by kernel_rfl) (by kernel_rfl) (by kernel_rfl) (fun _ _ _ h => h) (by assumption) (by rfl) ?_ ?_
      rotate_left
      · (intro w hSw; (try dsimp only at hSw); go_simp) <;> (with_reducible rfl)
      (try simp only [Act.put, List.setIfInBounds_toArray, List.set_cons_zero, List.set_cons_succ])
      refine wpAnyH_pick 17 (v := ?_) rfl (by kernel_rfl) (by kernel_rfl) (by kernel_rfl) (fun _ _ _ h => h) (by assumption) (by rfl) ?_ ?_
      rotate_left
      · (intro w hSw; (try dsimp only at hSw); go_simp) <;> (with_reducible rfl)
      (try simp only [Act.put, List.setIfInBounds_toArray, List.set_cons_zero, List.set_cons_succ])
      refine wpAnyH_pick 18 (v := ?_) rfl (by kernel_rfl) (by kernel_rfl) (by kernel_rfl) (fun _ _ _ h => h) (by assumption) (by rfl) ?_ ?_
      rotate_left
      · (intro w hSw; (try dsimp only at hSw); go_simp) <;> (with_reducible rfl)
      (try simp only [Act.put, List.setIfInBounds_toArray, List.set_cons_zero, List.set_cons_succ])
      refine wpAnyH_ready (rs := [19]) (by kernel_rfl) (by simp) ?_
      refine AllReadyH_pick rfl (fun K hK => ?_) (AllReadyH.nil)
      go_simp
      refine (T6.out _ _ Ba.out.has).mono ?_
      rintro e w10 ⟨rfl, hf⟩
      replace Ba := Lib.hid (Ba.out.fr0 hf)
      replace Hb := Lib.hid (Hb.out.fr0 hf)
      replace Hd := Lib.hid (Hd.out.fr0 hf)
      replace HF := Lib.hid (HF.out.trans hf (by simp))
      clear hf
      have ka0 := Ba.out.bk.cell 0
      have ka1 := Ba.out.bk.cell 1
      have ka2 := Ba.out.bk.cell 2
      simp at ka0 ka1 ka2
      have kb : _ = some (Value.int .u8 (u1.toNat : Int)) := (Hb.out.cellAt' (G1.out i him))
      have ke : _ = some (Value.int .u8 (u2.toNat : Int)) := (Hd.out.cellAt' (G2.out i him))
      go_wp2_with fail
      refine hK.out _ _ ?_ (fun hHeld => ?_)
      · (first | exact ⟨ka0, ka1, ka2, kb, ke⟩ | exact ⟨ja0, ja1, ja2, jb, je⟩ | exact ⟨ia0, ia1, ia2, ib, ie⟩)
      clear hK K
      (try simp only [Act.put, List.setIfInBounds_toArray, List.set_cons_zero, List.set_cons_succ])
      refine wpAnyH_pick 20 (v := ?_) rfl (by kernel_rfl) (by kernel_rfl) (by kernel_rfl) (fun _ _ _ h => h) (by assumption) (by rfl) ?_ ?_
      rotate_left
      · (intro w hSw; (try dsimp only at hSw); go_simp) <;> (with_reducible rfl)
      (try simp only [Act.put, List.setIfInBounds_toArray, List.set_cons_zero, List.set_cons_succ])
      refine wpAnyH_pick 21 (v := ?_) rfl (by kernel_rfl) (by kernel_rfl) (by kernel_rfl) (fun _ _ _ h => h) (by assumption) (by rfl) ?_ ?_
      rotate_left
      · (intro w hSw; (try dsimp only at hSw); go_simp) <;> (with_reducible rfl)
      (try simp only [Act.put, List.setIfInBounds_toArray, List.set_cons_zero, List.set_cons_succ])
      refine wpAnyH_done (by kernel_rfl) ?_ _
      skip
      go_wp2_with fail
      exact ⟨⟨i + 1, by omega, by simp, Ba.out, Hb.out, Hd.out, HF.out⟩, by simp [intOf]; omega⟩
    · have ei : decide (i < m) = false := by simpa using him
      clear T5 T6 G1 G2
      generalize wr = w11 at Ba Hb Hd HF ⊢
      have ca0 := Ba.out.bk.cell 0
      have ca1 := Ba.out.bk.cell 1
      have ca2 := Ba.out.bk.cell 2
      have la := Ba.out.bk.lt
      simp at ca0 ca1 ca2
      go_upto_region 16 with fail
      go_wp2_with fail
      clear ca0 ca1 ca2 la
      refine (T7.out _ _ _ _ Ba.out.has Hb.out).mono ?_
      rintro e w12 ⟨q, rfl, hq, hf⟩
      obtain ⟨w13, gq, ew, eg, hbk, hn, hF⟩ := hq.put (HF.out.trans hf (by simp))
      have hqq := hf.trans hn (by simp)
      replace Ba := Lib.hid (Ba.out.fr0 hqq)
      replace Hb := Lib.hid (Hb.out.fr0 hqq)
      replace Hd := Lib.hid (Hd.out.fr0 hqq)
      have Bq := Lib.hid hbk; simp only at Bq; replace HF := Lib.hid hF
      clear hq hf hbk hn hF hqq
      obtain ⟨qW, qH, qA, qn, qc⟩ := q
      simp only [FrAt.val] at ew ⊢
      have ca0 := Ba.out.bk.cell 0
      have ca1 := Ba.out.bk.cell 1
      have ca2 := Ba.out.bk.cell 2
      have la := Ba.out.bk.lt
      simp at ca0 ca1 ca2
      go_wp2_with fail
      try rw [ew]
      try rw [eg]
      clear ew eg
      clear ca0 ca1 ca2 la
      clear T7
      refine (T8.out _ _ _ _ Ba.out.has Hb.out).mono ?_
      rintro e w14 ⟨r, rfl, hr, hf⟩
      obtain ⟨w15, gr, ew, eg, hbk, hn, hF⟩ := hr.put (HF.out.trans hf (by simp))
      have hqq := hf.trans hn (by simp)
      replace Ba := Lib.hid (Ba.out.fr0 hqq)
      replace Hb := Lib.hid (Hb.out.fr0 hqq)
      replace Hd := Lib.hid (Hd.out.fr0 hqq)
      replace Bq := Lib.hid (Bq.out.fr0 hqq)
      have Br := Lib.hid hbk; simp only at Br; replace HF := Lib.hid hF
      clear hr hf hbk hn hF hqq
      obtain ⟨rW, rH, rA, rn, rc⟩ := r
      simp only [FrAt.val] at ew ⊢
      go_wp2_with fail
      try rw [ew]
      try rw [eg]
      clear ew eg
      clear T8
      refine (HA.out _).mono ?_
      rintro e w16 ⟨rfl, hf⟩
      replace Ba := Lib.hid (Ba.out.fr0 hf)
      replace Hb := Lib.hid (Hb.out.fr0 hf)
      replace Hd := Lib.hid (Hd.out.fr0 hf)
      replace Bq := Lib.hid (Bq.out.fr0 hf)
      replace Br := Lib.hid (Br.out.fr0 hf)
      replace HF := Lib.hid (HF.out.trans hf (by simp))
      clear hf
      have ca0 := Ba.out.bk.cell 0
      have ca1 := Ba.out.bk.cell 1
      have ca2 := Ba.out.bk.cell 2
      have la := Ba.out.bk.lt
      simp at ca0 ca1 ca2
      have cq0 := Bq.out.bk.cell 0
      have cq1 := Bq.out.bk.cell 1
      have cq2 := Bq.out.bk.cell 2
      have lq := Bq.out.bk.lt
      simp at cq0 cq1 cq2
      have cr0 := Br.out.bk.cell 0
      have cr1 := Br.out.bk.cell 1
      have cr2 := Br.out.bk.cell 2
      have lr := Br.out.bk.lt
      simp at cr0 cr1 cr2
      have s1 := run_cv Ba.out.has.2.2.2; have s2 := run_cv Bq.out.has.2.2.2; have s3 := run_cv Br.out.has.2.2.2
      go_wp2_with fail
      go_ret
      exact ⟨by simp, HF.out⟩
end Go.Proofs.Ytlcjlgdcleenlaa

/-
  The statement PlaneEdges out of the contracts.
-/
namespace Go.Proofs.Ytlcjlgdcleenlaa
open Go.ChangeShapes Go.WideShapes Go.ChangeAt Go.RowKit

set_option maxRecDepth 100000 in
theorem edges6_lifted (Z : PlaneSpec) (os : Os) (started : os.Started) (H : Type) (enc : TypeId × Value → H) :
    ReturnsInHanded {} Try.checked os 9 .any (Rows.planeEdgesSpec.pre6 enc Try.prog Try.f9 Rows.planeEdgesRow.domain false) (Rows.planeEdgesSpec.post enc Try.prog Try.f9 false true false false) := by
  refine law_lift (C := Try.checked) own_knob started (by kernel_rfl) Try.func9
    (ChangeSpec.witness6 (enc := enc) (C := Try.checked) false ⟨#[], #[.agg #[.int .i64 0, .int .i64 0, .slice none 0 0], .agg #[.int .i64 0, .int .i64 0], .int .i64 0], []⟩ 8 (by kernel_rfl) (by kernel_rfl) (by kernel_rfl) (by kernel_rfl))
    laid_out rfl rfl Try.underlying4 (of_decide_eq_true (by kernel_rfl)) ?_
  intro W base args ds before hval0 hA0 hlt
  have hval : ∀ (j : Nat) t v, Try.f9.params[j]? = some t → args[j]? = some v → Value.okWide Try.prog W .any base t v := hval0
  have hA : DataW.TrodAll enc Try.prog W 0 (fun _ => true) true Try.f9.params.toList args.toList ds before := hA0
  rw [Try.params9] at hA hval
  obtain ⟨v0, v1, v2, d0, d1, d2, p0, p1, p2, rfl, rfl, -, ⟨fuel0, h0⟩, ⟨fuel1, h1⟩, h2⟩ := trodAll_three hA
  obtain ⟨l0, rfl⟩ := okWide_structN Try.underlying25 (hval 0 _ _ rfl rfl)
  obtain ⟨a0, P0, e0, hp0, n0⟩ := open_plane h0
  have e0' : l0 = [.int .i64 a0.W, .int .i64 a0.H, .slice a0.A a0.n a0.c] := e0
  rw [e0']
  obtain ⟨l1, rfl⟩ := okWide_rowN Try.underlying50 (hval 1 _ _ rfl rfl)
  obtain ⟨i1, j1, e1, ji1, jj1⟩ := open_arr2 h1
  have e1' : l1 = [.int .i64 i1, .int .i64 j1] := e1
  rw [e1']
  obtain ⟨z2, rfl, -, -, wz2⟩ := open_int Try.underlying3 (hval 2 _ _ rfl rfl) h2
  simp [Lit.wf, IntKind.min, IntKind.max, IntKind.signed, IntKind.bits] at wz2
  have j2 : InJ z2 := by unfold InJ; omega
  exact ⟨rfl, (edges6_law Z a0 P0 i1 j1 z2 W hp0 n0 ji1 jj1).mono fun e W' ⟨he, hf⟩ => ⟨he, hf.below (by simp) (Nat.le_refl _)⟩⟩

theorem edges6_holds_of (Z : PlaneSpec) : Rows.PlaneEdgesSaid :=
  OpenClaim.holds_of_wide 9 Try.f9 rfl rfl rfl rfl rfl rfl rfl ⟨rfl, rfl, rfl, rfl, rfl⟩ rfl rfl rfl rfl rfl (by kernel_rfl) Try.func9 (by kernel_rfl)
    (of_decide_eq_true (by kernel_rfl)) (by unfold Func.isWrapper; first | (rw [if_pos (by decide +kernel)]; kernel_rfl) | (rw [if_neg (by decide +kernel)]; exact ⟨rfl, rfl⟩))
    (fun os started H enc _ => edges6_lifted Z os started H enc)
end Go.Proofs.Ytlcjlgdcleenlaa

/-
  The law PlaneEdges answers true whatever its input, and leaves its arguments as they were; no condition.
-/
namespace Go.Proofs.Ytlcjlgdcleenlaa
open Go.RowKit

theorem edges6_holds : Rows.PlaneEdgesSaid := edges6_holds_of planeI
#print axioms edges6_holds
end Go.Proofs.Ytlcjlgdcleenlaa
