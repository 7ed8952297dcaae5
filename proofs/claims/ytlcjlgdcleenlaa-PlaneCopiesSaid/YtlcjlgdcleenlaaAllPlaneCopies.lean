/-
  The law PlaneCopies answers true whatever its input, and leaves its arguments as they were; no condition.
-/
import Derived.Test.YtlcjlgdcleenlaaAll1
import Derived.Test.YtlcjlgdcleenlaaAll2
import Derived.Test.YtlcjlgdcleenlaaAll3
/-
  The law PlaneCopies, out of the contracts.
-/
namespace Go.Proofs.Ytlcjlgdcleenlaa
open Go.RowKit

set_option maxRecDepth 20000 in
set_option maxHeartbeats 4000000 in
theorem copies6_law (Z : PlaneSpec) (y u v a b c : FrAt) (F G : Frm) (w : World) (hf : FrAt3 y u v w F) (hg : FrAt3 a b c w G)
    (n1 : F.y.pix.length ≤ 9223372036854775807) (n2 : F.u.pix.length ≤ 9223372036854775807) (n3 : F.v.pix.length ≤ 9223372036854775807) (n4 : G.y.pix.length ≤ 9223372036854775807) (n5 : G.u.pix.length ≤ 9223372036854775807) (n6 : G.v.pix.length ≤ 9223372036854775807) :
    Calls Try.prog 8 #[frV y u v, frV a b c] w fun e w' => e = .returned (.bool true) ∧ Fr [] w w' := by
  have HA := Lib.hid fun W => alive6_any Z W
  have HN := Lib.hid (And.intro n1 (And.intro n2 (And.intro n3 (And.intro n4 (And.intro n5 n6)))))
  have HY := Lib.hid hf.y.2.2.1
  have HV := Lib.hid hf.v.2.2.1
  obtain ⟨w1, gf, ewf, egf, bf, nf, Ff⟩ := hf.put (Fr.refl [] w)
  obtain ⟨w2, gg, ewg, egg, bg, ng, Fg⟩ := (hg.fr0 Ff).put Ff
  have Bf := Lib.hid (bf.fr0 ng); have Bg := Lib.hid bg; have HF := Lib.hid Fg
  clear bf bg nf ng Ff Fg hf hg n1 n2 n3 n4 n5 n6
  obtain ⟨B, eB⟩ : ∃ B, B = sameFr F G := ⟨_, rfl⟩
  have EB := Lib.hid eB
  clear eB
  have hBB : (B != B) = false := by cases B <;> rfl
  have hBB2 : (!(B == B)) = false := by cases B <;> rfl
  obtain ⟨yW, yH, yA, yn, yc⟩ := y
  obtain ⟨uW, uH, uA, un, uc⟩ := u
  obtain ⟨vW, vH, vA, vn, vc⟩ := v
  obtain ⟨aW, aH, aA, an, ac⟩ := a
  obtain ⟨bW, bH, bA, bn, bc⟩ := b
  obtain ⟨cW, cH, cA, cn, cc⟩ := c
  unfold frV FrAt.cells
  simp only at ewf ewg HY HV
  go_enter Try.func8, Try.ntmps8
  have cf0 := Bf.out.bk.cell 0
  have cf1 := Bf.out.bk.cell 1
  have cf2 := Bf.out.bk.cell 2
  have cf3 := Bf.out.bk.cell 3
  have cf4 := Bf.out.bk.cell 4
  have cf5 := Bf.out.bk.cell 5
  have cf6 := Bf.out.bk.cell 6
  have cf7 := Bf.out.bk.cell 7
  have cf8 := Bf.out.bk.cell 8
  have lf := Bf.out.bk.lt
  simp [FrAt.cells] at cf0 cf1 cf2 cf3 cf4 cf5 cf6 cf7 cf8
  go_wp2_with fail
  clear ewf ewg egf egg
  refine (law6_fitsF _ _ _ _ _ Bf.out.has HN.out.1 HN.out.2.1 HN.out.2.2.1).mono ?_
  rintro e w3 ⟨rfl, hf⟩
  replace Bf := Lib.hid (Bf.out.fr0 hf)
  replace Bg := Lib.hid (Bg.out.fr0 hf)
  replace HF := Lib.hid (HF.out.trans hf (by simp))
  clear hf
  clear cf0 cf1 cf2 cf3 cf4 cf5 cf6 cf7 cf8 lf
  have cg0 := Bg.out.bk.cell 0
  have cg1 := Bg.out.bk.cell 1
  have cg2 := Bg.out.bk.cell 2
  have cg3 := Bg.out.bk.cell 3
  have cg4 := Bg.out.bk.cell 4
  have cg5 := Bg.out.bk.cell 5
  have cg6 := Bg.out.bk.cell 6
  have cg7 := Bg.out.bk.cell 7
  have cg8 := Bg.out.bk.cell 8
  have lg := Bg.out.bk.lt
  simp [FrAt.cells] at cg0 cg1 cg2 cg3 cg4 cg5 cg6 cg7 cg8
  go_wp2_with fail
  refine (law6_fitsF _ _ _ _ _ Bg.out.has HN.out.2.2.2.1 HN.out.2.2.2.2.1 HN.out.2.2.2.2.2).mono ?_
  rintro e w4 ⟨rfl, hf⟩
  replace Bf := Lib.hid (Bf.out.fr0 hf)
  replace Bg := Lib.hid (Bg.out.fr0 hf)
  replace HF := Lib.hid (HF.out.trans hf (by simp))
  clear hf
  clear cg0 cg1 cg2 cg3 cg4 cg5 cg6 cg7 cg8 lg
  have cf0 := Bf.out.bk.cell 0
  have cf1 := Bf.out.bk.cell 1
  have cf2 := Bf.out.bk.cell 2
  have cf3 := Bf.out.bk.cell 3
  have cf4 := Bf.out.bk.cell 4
  have cf5 := Bf.out.bk.cell 5
  have cf6 := Bf.out.bk.cell 6
  have cf7 := Bf.out.bk.cell 7
  have cf8 := Bf.out.bk.cell 8
  have lf := Bf.out.bk.lt
  simp [FrAt.cells] at cf0 cf1 cf2 cf3 cf4 cf5 cf6 cf7 cf8
  cases f1 : F.fits <;> cases f2 : G.fits
  all_goals go_wp2_with fail
  all_goals first
    | (refine (HA.out _).mono ?_; rintro e w1 ⟨rfl, hf⟩; replace HF := Lib.hid (HF.out.trans hf (by simp)); clear hf; go_wp2_with fail; go_ret; exact ⟨rfl, HF.out⟩)
    | skip
  have S1 := Lib.hid (Frm.fits.small f1); have S2 := Lib.hid (Frm.fits.small f2)
  clear f1 f2 HN
  refine (ref6_copy _ _ _ _ _ Bf.out.has S1.out).mono ?_
  rintro e w5 ⟨ky, ku, kv, rfl, hk, hf⟩
  obtain ⟨w6, gk, ew, eg, hbk, hn, hF⟩ := hk.put (HF.out.trans hf (by simp))
  have hqq := hf.trans hn (by simp)
  replace Bf := Lib.hid (Bf.out.fr0 hqq)
  replace Bg := Lib.hid (Bg.out.fr0 hqq)
  have Bk := Lib.hid hbk; (try simp only at Bk); replace HF := Lib.hid hF
  clear hk hf hbk hn hF hqq
  obtain ⟨kyW, kyH, kyA, kyn, kyc⟩ := ky
  obtain ⟨kuW, kuH, kuA, kun, kuc⟩ := ku
  obtain ⟨kvW, kvH, kvA, kvn, kvc⟩ := kv
  clear cf0 cf1 cf2 cf3 cf4 cf5 cf6 cf7 cf8 lf
  unfold frV FrAt.cells
  (try simp only at ew)
  (try simp only)
  have cf0 := Bf.out.bk.cell 0
  have cf1 := Bf.out.bk.cell 1
  have cf2 := Bf.out.bk.cell 2
  have cf3 := Bf.out.bk.cell 3
  have cf4 := Bf.out.bk.cell 4
  have cf5 := Bf.out.bk.cell 5
  have cf6 := Bf.out.bk.cell 6
  have cf7 := Bf.out.bk.cell 7
  have cf8 := Bf.out.bk.cell 8
  have lf := Bf.out.bk.lt
  simp [FrAt.cells] at cf0 cf1 cf2 cf3 cf4 cf5 cf6 cf7 cf8
  go_wp2_with fail
  try rw [ew]
  try rw [eg]
  clear ew eg
  have Bf0 := Bf; have Bk0 := Bk; have HF0 := HF
  refine (Z.copy _ _ _ _ _ Bf.out.has S1.out).mono ?_
  rintro e w7 ⟨cy, cu, cv', rfl, hy, hu, hv, ayu, ayv, auv⟩
  have hf := hy.2.2.2.fr
  clear cf0 cf1 cf2 cf3 cf4 cf5 cf6 cf7 cf8 lf
  have hal : Fr [] w7 (w7.alloc (.cells (FrAt.cells cy cu cv') 30)) := (Fr.refl _ _).alloc _
  have hC := Cop.new hy hu hv ayu ayv auv hal rfl
  have hq := hf.trans hal (by simp)
  generalize ew : w7.alloc (.cells (FrAt.cells cy cu cv') 30) = w8 at hC hq
  generalize eg : w7.heap.size = gc at hC
  clear hy hu hv ayu ayv auv hal hf
  replace Bf := Lib.hid (Bf.out.fr0 hq)
  replace Bg := Lib.hid (Bg.out.fr0 hq)
  replace Bk := Lib.hid (Bk.out.fr0 hq)
  replace HF := Lib.hid (HF.out.trans hq (by simp))
  have HC := Lib.hid hC
  clear hC hq
  obtain ⟨cyW, cyH, cyA, cyn, cyc⟩ := cy
  obtain ⟨cuW, cuH, cuA, cun, cuc⟩ := cu
  obtain ⟨cvW, cvH, cvA, cvn, cvc⟩ := cv'
  unfold FrAt.cells at ew
  unfold frV FrAt.cells
  simp only at ew
  (try simp only)
  go_upto_region 7 with fail
  try rw [ew]
  try rw [eg]
  clear ew eg
  have hf := (Fr.refl [] w8).drew
  replace Bf := Lib.hid (Bf.out.fr0 hf)
  replace Bg := Lib.hid (Bg.out.fr0 hf)
  replace Bk := Lib.hid (Bk.out.fr0 hf)
  replace HC := Lib.hid (HC.out.fr0 hf)
  replace HF := Lib.hid (HF.out.trans hf (by simp))
  clear hf
  have hc0 := HC.out.bk; have hf0 := Bf.out.bk; have hg0 := Bg.out.bk
  refine wp_region_held_drew (S := fun W => Blk W gc 30 (FrAt.cells ⟨cyW, cyH, cyA, cyn, cyc⟩ ⟨cuW, cuH, cuA, cun, cuc⟩ ⟨cvW, cvH, cvA, cvn, cvc⟩) ∧ Blk W gf 30 (FrAt.cells ⟨yW, yH, yA, yn, yc⟩ ⟨uW, uH, uA, un, uc⟩ ⟨vW, vH, vA, vn, vc⟩) ∧ Blk W gg 30 (FrAt.cells ⟨aW, aH, aA, an, ac⟩ ⟨bW, bH, bA, bn, bc⟩ ⟨cW, cH, cA, cn, cc⟩)) (by kernel_rfl) ?_ (fun hHeld => ?_)
  · (first | exact ⟨hc5, hf5, hg5⟩ | exact ⟨hc4, hf4, hg4⟩ | exact ⟨hc3, hf3, hg3⟩ | exact ⟨hc2, hf2, hg2⟩ | exact ⟨hc1, hf1, hg1⟩ | exact ⟨hc0, hf0, hg0⟩)
  refine wpAnyH_pick 0 rfl (by kernel_rfl) (by kernel_rfl) (by kernel_rfl) (fun _ _ _ h => h) (by assumption) (by rfl) (fun w hSw => exec_loadF hSw.1 (cells_size _ _ _) rfl rfl) ?_
  (try simp only [Act.put, List.setIfInBounds_toArray, List.set_cons_zero, List.set_cons_succ])
  refine wpAnyH_pick 1 rfl (by kernel_rfl) (by kernel_rfl) (by kernel_rfl) (fun _ _ _ h => h) (by assumption) (by rfl) (fun w hSw => exec_loadF hSw.2.1 (cells_size _ _ _) rfl rfl) ?_
  (try simp only [Act.put, List.setIfInBounds_toArray, List.set_cons_zero, List.set_cons_succ])
  refine wpAnyH_ready (rs := [2]) (by kernel_rfl) (by simp) ?_
  refine AllReadyH_pick rfl (fun K hK => ?_) (AllReadyH.nil)
  go_simp
  refine (Z.same _ _ _ _ _ _ _ F F (by have := HC.out.has; rw [bumped_zero] at this; exact this) Bf.out.has S1.out S1.out).mono ?_
  rw [sameFr_refl]
  rintro e w9 ⟨rfl, hf⟩
  replace Bf := Lib.hid (Bf.out.fr0 hf)
  replace Bg := Lib.hid (Bg.out.fr0 hf)
  replace Bk := Lib.hid (Bk.out.fr0 hf)
  replace HC := Lib.hid (HC.out.fr0 hf)
  replace HF := Lib.hid (HF.out.trans hf (by simp))
  clear hf
  have hc1 := HC.out.bk; have hf1 := Bf.out.bk; have hg1 := Bg.out.bk
  go_wp2_with fail
  refine hK.out _ _ ?_ (fun hHeld => ?_)
  · (first | exact ⟨hc5, hf5, hg5⟩ | exact ⟨hc4, hf4, hg4⟩ | exact ⟨hc3, hf3, hg3⟩ | exact ⟨hc2, hf2, hg2⟩ | exact ⟨hc1, hf1, hg1⟩ | exact ⟨hc0, hf0, hg0⟩)
  clear hK K
  (try simp only [Act.put, List.setIfInBounds_toArray, List.set_cons_zero, List.set_cons_succ])
  refine wpAnyH_pick 3 (v := ?_) rfl (by kernel_rfl) (by kernel_rfl) (by kernel_rfl) (fun _ _ _ h => h) (by assumption) (by rfl) ?_ ?_
  rotate_left
  · (intro w hSw; (try dsimp only at hSw); go_simp) <;> (with_reducible rfl)
  (try simp only [Act.put, List.setIfInBounds_toArray, List.set_cons_zero, List.set_cons_succ])
  refine wpAnyH_pick 4 (v := ?_) rfl (by kernel_rfl) (by kernel_rfl) (by kernel_rfl) (fun _ _ _ h => h) (by assumption) (by rfl) ?_ ?_
  rotate_left
  · (intro w hSw; (try dsimp only at hSw); go_simp) <;> (with_reducible rfl)
  (try simp only [Act.put, List.setIfInBounds_toArray, List.set_cons_zero, List.set_cons_succ])
  refine wpAnyH_pick 5 rfl (by kernel_rfl) (by kernel_rfl) (by kernel_rfl) (fun _ _ _ h => h) (by assumption) (by rfl) (fun w hSw => exec_loadF hSw.2.1 (cells_size _ _ _) rfl rfl) ?_
  (try simp only [Act.put, List.setIfInBounds_toArray, List.set_cons_zero, List.set_cons_succ])
  refine wpAnyH_pick 6 rfl (by kernel_rfl) (by kernel_rfl) (by kernel_rfl) (fun _ _ _ h => h) (by assumption) (by rfl) (fun w hSw => exec_loadF hSw.2.2 (cells_size _ _ _) rfl rfl) ?_
  (try simp only [Act.put, List.setIfInBounds_toArray, List.set_cons_zero, List.set_cons_succ])
  refine wpAnyH_pick 8 rfl (by kernel_rfl) (by kernel_rfl) (by kernel_rfl) (fun _ _ _ h => h) (by assumption) (by rfl) (fun w hSw => exec_loadF hSw.2.1 (cells_size _ _ _) rfl rfl) ?_
  (try simp only [Act.put, List.setIfInBounds_toArray, List.set_cons_zero, List.set_cons_succ])
  refine wpAnyH_pick 9 rfl (by kernel_rfl) (by kernel_rfl) (by kernel_rfl) (fun _ _ _ h => h) (by assumption) (by rfl) (fun w hSw => exec_loadF hSw.2.2 (cells_size _ _ _) rfl rfl) ?_
  (try simp only [Act.put, List.setIfInBounds_toArray, List.set_cons_zero, List.set_cons_succ])
  refine wpAnyH_ready (rs := [7]) (by kernel_rfl) (by simp) ?_
  refine AllReadyH_pick rfl (fun K hK => ?_) (AllReadyH.nil)
  go_simp
  refine (Z.same _ _ _ _ _ _ _ F G Bf.out.has Bg.out.has S1.out S2.out).mono ?_
  rw [← EB.out]
  rintro e w10 ⟨rfl, hf⟩
  replace Bf := Lib.hid (Bf.out.fr0 hf)
  replace Bg := Lib.hid (Bg.out.fr0 hf)
  replace Bk := Lib.hid (Bk.out.fr0 hf)
  replace HC := Lib.hid (HC.out.fr0 hf)
  replace HF := Lib.hid (HF.out.trans hf (by simp))
  clear hf
  have hc2 := HC.out.bk; have hf2 := Bf.out.bk; have hg2 := Bg.out.bk
  go_wp2_with fail
  refine hK.out _ _ ?_ (fun hHeld => ?_)
  · (first | exact ⟨hc5, hf5, hg5⟩ | exact ⟨hc4, hf4, hg4⟩ | exact ⟨hc3, hf3, hg3⟩ | exact ⟨hc2, hf2, hg2⟩ | exact ⟨hc1, hf1, hg1⟩ | exact ⟨hc0, hf0, hg0⟩)
  clear hK K
  (try simp only [Act.put, List.setIfInBounds_toArray, List.set_cons_zero, List.set_cons_succ])
  refine wpAnyH_ready (rs := [10]) (by kernel_rfl) (by simp) ?_
  refine AllReadyH_pick rfl (fun K hK => ?_) (AllReadyH.nil)
  go_simp
  refine (ref6_same _ _ _ _ _ _ _ F G Bf.out.has Bg.out.has).mono ?_
  rw [← EB.out]
  rintro e w11 ⟨rfl, hf⟩
  replace Bf := Lib.hid (Bf.out.fr0 hf)
  replace Bg := Lib.hid (Bg.out.fr0 hf)
  replace Bk := Lib.hid (Bk.out.fr0 hf)
  replace HC := Lib.hid (HC.out.fr0 hf)
  replace HF := Lib.hid (HF.out.trans hf (by simp))
  clear hf
  have hc3 := HC.out.bk; have hf3 := Bf.out.bk; have hg3 := Bg.out.bk
  go_wp2_with fail
  refine hK.out _ _ ?_ (fun hHeld => ?_)
  · (first | exact ⟨hc5, hf5, hg5⟩ | exact ⟨hc4, hf4, hg4⟩ | exact ⟨hc3, hf3, hg3⟩ | exact ⟨hc2, hf2, hg2⟩ | exact ⟨hc1, hf1, hg1⟩ | exact ⟨hc0, hf0, hg0⟩)
  clear hK K
  (try simp only [Act.put, List.setIfInBounds_toArray, List.set_cons_zero, List.set_cons_succ])
  refine wpAnyH_pick 11 (v := ?_) rfl (by kernel_rfl) (by kernel_rfl) (by kernel_rfl) (fun _ _ _ h => h) (by assumption) (by rfl) ?_ ?_
  rotate_left
  · (intro w hSw; (try dsimp only at hSw); go_simp) <;> (with_reducible rfl)
  (try simp only [Act.put, List.setIfInBounds_toArray, List.set_cons_zero, List.set_cons_succ])
  refine wpAnyH_pick 12 (v := ?_) rfl (by kernel_rfl) (by kernel_rfl) (by kernel_rfl) (fun _ _ _ h => h) (by assumption) (by rfl) ?_ ?_
  rotate_left
  · (intro w hSw; (try dsimp only at hSw); go_simp) <;> (with_reducible rfl)
  (try simp only [Act.put, List.setIfInBounds_toArray, List.set_cons_zero, List.set_cons_succ])
  refine wpAnyH_pick 13 (v := ?_) rfl (by kernel_rfl) (by kernel_rfl) (by kernel_rfl) (fun _ _ _ h => h) (by assumption) (by rfl) ?_ ?_
  rotate_left
  · (intro w hSw; (try dsimp only at hSw); go_simp) <;> (with_reducible rfl)
  (try simp only [Act.put, List.setIfInBounds_toArray, List.set_cons_zero, List.set_cons_succ])
  refine wpAnyH_pick 14 rfl (by kernel_rfl) (by kernel_rfl) (by kernel_rfl) (fun _ _ _ h => h) (by assumption) (by rfl) (fun w hSw => exec_loadF hSw.2.1 (cells_size _ _ _) rfl rfl) ?_
  (try simp only [Act.put, List.setIfInBounds_toArray, List.set_cons_zero, List.set_cons_succ])
  refine wpAnyH_pick 15 rfl (by kernel_rfl) (by kernel_rfl) (by kernel_rfl) (fun _ _ _ h => h) (by assumption) (by rfl) (fun w hSw => exec_loadF hSw.2.2 (cells_size _ _ _) rfl rfl) ?_
  (try simp only [Act.put, List.setIfInBounds_toArray, List.set_cons_zero, List.set_cons_succ])
  refine wpAnyH_pick 17 rfl (by kernel_rfl) (by kernel_rfl) (by kernel_rfl) (fun _ _ _ h => h) (by assumption) (by rfl) (fun w hSw => exec_loadF hSw.2.2 (cells_size _ _ _) rfl rfl) ?_
  (try simp only [Act.put, List.setIfInBounds_toArray, List.set_cons_zero, List.set_cons_succ])
  refine wpAnyH_pick 18 rfl (by kernel_rfl) (by kernel_rfl) (by kernel_rfl) (fun _ _ _ h => h) (by assumption) (by rfl) (fun w hSw => exec_loadF hSw.2.1 (cells_size _ _ _) rfl rfl) ?_
  (try simp only [Act.put, List.setIfInBounds_toArray, List.set_cons_zero, List.set_cons_succ])
  refine wpAnyH_ready (rs := [16]) (by kernel_rfl) (by simp) ?_
  refine AllReadyH_pick rfl (fun K hK => ?_) (AllReadyH.nil)
  go_simp
  refine (Z.same _ _ _ _ _ _ _ F G Bf.out.has Bg.out.has S1.out S2.out).mono ?_
  rw [← EB.out]
  rintro e w12 ⟨rfl, hf⟩
  replace Bf := Lib.hid (Bf.out.fr0 hf)
  replace Bg := Lib.hid (Bg.out.fr0 hf)
  replace Bk := Lib.hid (Bk.out.fr0 hf)
  replace HC := Lib.hid (HC.out.fr0 hf)
  replace HF := Lib.hid (HF.out.trans hf (by simp))
  clear hf
  have hc4 := HC.out.bk; have hf4 := Bf.out.bk; have hg4 := Bg.out.bk
  go_wp2_with fail
  refine hK.out _ _ ?_ (fun hHeld => ?_)
  · (first | exact ⟨hc5, hf5, hg5⟩ | exact ⟨hc4, hf4, hg4⟩ | exact ⟨hc3, hf3, hg3⟩ | exact ⟨hc2, hf2, hg2⟩ | exact ⟨hc1, hf1, hg1⟩ | exact ⟨hc0, hf0, hg0⟩)
  clear hK K
  (try simp only [Act.put, List.setIfInBounds_toArray, List.set_cons_zero, List.set_cons_succ])
  refine wpAnyH_ready (rs := [19]) (by kernel_rfl) (by simp) ?_
  refine AllReadyH_pick rfl (fun K hK => ?_) (AllReadyH.nil)
  go_simp
  refine (Z.same _ _ _ _ _ _ _ G F Bg.out.has Bf.out.has S2.out S1.out).mono ?_
  rw [sameFr_symm, ← EB.out]
  rintro e w13 ⟨rfl, hf⟩
  replace Bf := Lib.hid (Bf.out.fr0 hf)
  replace Bg := Lib.hid (Bg.out.fr0 hf)
  replace Bk := Lib.hid (Bk.out.fr0 hf)
  replace HC := Lib.hid (HC.out.fr0 hf)
  replace HF := Lib.hid (HF.out.trans hf (by simp))
  clear hf
  have hc5 := HC.out.bk; have hf5 := Bf.out.bk; have hg5 := Bg.out.bk
  go_wp2_with fail
  refine hK.out _ _ ?_ (fun hHeld => ?_)
  · (first | exact ⟨hc5, hf5, hg5⟩ | exact ⟨hc4, hf4, hg4⟩ | exact ⟨hc3, hf3, hg3⟩ | exact ⟨hc2, hf2, hg2⟩ | exact ⟨hc1, hf1, hg1⟩ | exact ⟨hc0, hf0, hg0⟩)
  clear hK K
  (try simp only [Act.put, List.setIfInBounds_toArray, List.set_cons_zero, List.set_cons_succ])
  refine wpAnyH_pick 20 (v := ?_) rfl (by kernel_rfl) (by kernel_rfl) (by kernel_rfl) (fun _ _ _ h => h) (by assumption) (by rfl) ?_ ?_
  rotate_left
  · (intro w hSw; (try dsimp only at hSw); go_simp) <;> (with_reducible rfl)
  (try simp only [Act.put, List.setIfInBounds_toArray, List.set_cons_zero, List.set_cons_succ])
  refine wpAnyH_pick 21 (v := ?_) rfl (by kernel_rfl) (by kernel_rfl) (by kernel_rfl) (fun _ _ _ h => h) (by assumption) (by rfl) ?_ ?_
  rotate_left
  · (intro w hSw; (try dsimp only at hSw); go_simp) <;> (with_reducible rfl)
  (try simp only [Act.put, List.setIfInBounds_toArray, List.set_cons_zero, List.set_cons_succ])
  refine wpAnyH_done (by kernel_rfl) ?_ _
  skip
  clear hc0 hc1 hc2 hc3 hc4 hc5 hf0 hf1 hf2 hf3 hf4 hf5 hg0 hg1 hg2 hg3 hg4 hg5
  go_wp2_with fail
  clear Bf Bg Bk HF hBB hBB2 EB S2
  have hcy : cyn = F.y.pix.length := by have := HC.out.ym.2.2.1; rw [incl_length] at this; exact this
  have hcv : cvn = F.v.pix.length := by have := HC.out.vm.2.2.1; rw [incl_length] at this; exact this
  have hsy : cyn ≤ 20000 := by rw [hcy]; exact S1.out.1
  have hsv : cvn ≤ 20000 := by rw [hcv]; exact S1.out.2.2
  have Hcy := Lib.hid hcy; have Hcv := Lib.hid hcv
  clear hcy hcv
  go_loopw [9] (fun s9 wr => ∃ i : Nat, i ≤ cyn ∧ s9 = .int .i64 (i : Int) ∧ Cop w6 wr gc ⟨cyW, cyH, cyA, cyn, cyc⟩ ⟨cuW, cuH, cuA, cun, cuc⟩ ⟨cvW, cvH, cvA, cvn, cvc⟩ F i 0) (fun s9 _ => cyn - (intOf s9).toNat)
  case atStart => exact ⟨0, by omega, rfl, HC.out⟩
  case round =>
    obtain ⟨i, hi, rfl, hC⟩ := hrel
    clear HC
    have HC := Lib.hid hC
    clear hC
    have c0 := HC.out.bk.cell 2
    have l0 := HC.out.bk.lt
    simp [FrAt.cells] at c0
    by_cases hin : i < cyn
    · have ei : decide (i < cyn) = true := by simpa using hin
      have hC1 := HC.out.fr0 (Fr.refl [] wr).drew
      obtain ⟨g, hA, hcell, hfz, hC2⟩ := hC1.stepY (i := i) (by have := Hcy.out; omega)
      have hA : cyA = some ⟨g, 0, none⟩ := hA
      subst hA
      generalize F.y.pix.getD i 0 = xb at hcell hC2
      obtain ⟨zb, hzb⟩ : ∃ zb, zb = xb + 1 := ⟨_, rfl⟩
      rw [← hzb] at hC2
      have hz : IntKind.u8.wrap ((xb.toNat : Int) + 1) = (zb.toNat : Int) := by rw [hzb, IntKind.wrap_u8, UInt8.toNat_add]; simp
      have hz2 : ((xb.toNat : Int) + 1) % 256 = (zb.toNat : Int) := by rw [hzb, UInt8.toNat_add]; simp
      have HC2 := Lib.hid hC2
      have qi : (i : Int) < (cyn : Int) := by omega
      have c1 := hC1.bk.cell 2
      simp [FrAt.cells] at c1
      go_upto_region 12 with fail
      have c0' : wr.drew.cell? ⟨gc, 2, none⟩ = some (.slice (some ⟨g, 0, none⟩) cyn cyc) := c0
      have c2' : (wr.drew.setCell ⟨g, i, none⟩ (.int .u8 (zb.toNat : Int))).cell? ⟨gc, 2, none⟩ = some (.slice (some ⟨g, 0, none⟩) cyn cyc) := by have := hC2.bk.cell 2; simp [FrAt.cells] at this; exact this
      clear hC1 hC2 hzb c0 HC
      refine wp_region_held_drew (S := fun W => W.cell? ⟨gc, 2, none⟩ = some (.slice (some ⟨g, 0, none⟩) cyn cyc)) (by kernel_rfl) ?_ (fun hHeld => ?_)
      · (first | exact c0' | exact c2')
      refine wpAnyH_pick 0 (v := ?_) rfl (by kernel_rfl) (by kernel_rfl) (by kernel_rfl) (fun _ _ _ h => h) (by assumption) (by rfl) ?_ ?_
      rotate_left
      · (intro w hSw; (try dsimp only at hSw); go_simp) <;> (with_reducible rfl)
      (try simp only [Act.put, List.setIfInBounds_toArray, List.set_cons_zero, List.set_cons_succ])
      refine wpAnyH_pick 1 (v := ?_) rfl (by kernel_rfl) (by kernel_rfl) (by kernel_rfl) (fun _ _ _ h => h) (by assumption) (by rfl) ?_ ?_
      rotate_left
      · (intro w hSw; (try dsimp only at hSw); go_simp) <;> (with_reducible rfl)
      (try simp only [Act.put, List.setIfInBounds_toArray, List.set_cons_zero, List.set_cons_succ])
      refine wpAnyH_pick 2 (v := ?_) rfl (by kernel_rfl) (by kernel_rfl) (by kernel_rfl) (fun _ _ _ h => h) (by assumption) (by rfl) ?_ ?_
      rotate_left
      · (intro w hSw; (try dsimp only at hSw); go_simp) <;> (with_reducible rfl)
      (try simp only [Act.put, List.setIfInBounds_toArray, List.set_cons_zero, List.set_cons_succ])
      refine wpAnyH_pick 3 (v := ?_) rfl (by kernel_rfl) (by kernel_rfl) (by kernel_rfl) (fun _ _ _ h => h) (by assumption) (by rfl) ?_ ?_
      rotate_left
      · (intro w hSw; (try dsimp only at hSw); go_simp) <;> (with_reducible rfl)
      (try simp only [Act.put, List.setIfInBounds_toArray, List.set_cons_zero, List.set_cons_succ])
      refine wpAnyH_pick 4 (v := ?_) rfl (by kernel_rfl) (by kernel_rfl) (by kernel_rfl) (fun _ _ _ h => h) (by assumption) (by rfl) ?_ ?_
      rotate_left
      · (intro w hSw; (try dsimp only at hSw); go_simp) <;> (with_reducible rfl)
      (try simp only [Act.put, List.setIfInBounds_toArray, List.set_cons_zero, List.set_cons_succ])
      refine wpAnyH_pick 5 (v := ?_) rfl (by kernel_rfl) (by kernel_rfl) (by kernel_rfl) (fun _ _ _ h => h) (by assumption) (by rfl) ?_ ?_
      rotate_left
      · (intro w hSw; (try dsimp only at hSw); go_simp) <;> (with_reducible rfl)
      (try simp only [Act.put, List.setIfInBounds_toArray, List.set_cons_zero, List.set_cons_succ])
      refine wpAnyH_pick 6 (v := ?_) rfl (by kernel_rfl) (by kernel_rfl) (by kernel_rfl) (fun _ _ _ h => h) (by assumption) (by rfl) ?_ ?_
      rotate_left
      · (intro w hSw; (try dsimp only at hSw); go_simp) <;> (with_reducible rfl)
      (try simp only [Act.put, List.setIfInBounds_toArray, List.set_cons_zero, List.set_cons_succ])
      refine wpAnyH_pick 7 (v := ?_) rfl (by kernel_rfl) (by kernel_rfl) (by kernel_rfl) (fun _ _ _ h => h) (by assumption) (by rfl) ?_ ?_
      rotate_left
      · (intro w hSw; (try dsimp only at hSw); go_simp) <;> (with_reducible rfl)
      (try simp only [Act.put, List.setIfInBounds_toArray, List.set_cons_zero, List.set_cons_succ])
      refine wpAnyH_pick 8 (v := ?_) rfl (by kernel_rfl) (by kernel_rfl) (by kernel_rfl) (fun _ _ _ h => h) (by assumption) (by rfl) ?_ ?_
      rotate_left
      · (intro w hSw; (try dsimp only at hSw); go_simp) <;> (with_reducible rfl)
      (try simp only [Act.put, List.setIfInBounds_toArray, List.set_cons_zero, List.set_cons_succ])
      refine wpAnyH_ready (rs := [9]) (by kernel_rfl) (by simp) ?_
      refine AllReadyH_pick rfl (fun K hK => ?_) (AllReadyH.nil)
      skip
      go_simp
      refine hK.out _ _ ?_ (fun hHeld => ?_)
      · (first | exact c0' | exact c2')
      clear hK K
      (try simp only [Act.put, List.setIfInBounds_toArray, List.set_cons_zero, List.set_cons_succ])
      refine wpAnyH_pick 10 (v := ?_) rfl (by kernel_rfl) (by kernel_rfl) (by kernel_rfl) (fun _ _ _ h => h) (by assumption) (by rfl) ?_ ?_
      rotate_left
      · (intro w hSw; (try dsimp only at hSw); go_simp) <;> (with_reducible rfl)
      (try simp only [Act.put, List.setIfInBounds_toArray, List.set_cons_zero, List.set_cons_succ])
      refine wpAnyH_pick 11 (v := ?_) rfl (by kernel_rfl) (by kernel_rfl) (by kernel_rfl) (fun _ _ _ h => h) (by assumption) (by rfl) ?_ ?_
      rotate_left
      · (intro w hSw; (try dsimp only at hSw); go_simp) <;> (with_reducible rfl)
      (try simp only [Act.put, List.setIfInBounds_toArray, List.set_cons_zero, List.set_cons_succ])
      refine wpAnyH_ready (rs := [12]) (by kernel_rfl) (by simp) ?_
      refine AllReadyH_pick rfl (fun K hK => ?_) (AllReadyH.nil)
      skip
      go_simp
      refine hK.out _ _ ?_ (fun hHeld => ?_)
      · (first | exact c0' | exact c2')
      clear hK K
      (try simp only [Act.put, List.setIfInBounds_toArray, List.set_cons_zero, List.set_cons_succ])
      refine wpAnyH_done (by kernel_rfl) ?_ _
      skip
      go_wp2_with fail
      exact ⟨⟨i + 1, by omega, by simp, HC2.out⟩, by simp [intOf]; omega⟩
    · have ei : decide (i < cyn) = false := by simpa using hin
      have hin2 : i = cyn := by omega
      rw [hin2] at HC
      clear hin2
      go_wp2_with fail
      clear c0 l0
      go_loopw [10] (fun s10 wx => ∃ j : Nat, j ≤ cvn ∧ s10 = .int .i64 (j : Int) ∧ Cop w6 wx gc ⟨cyW, cyH, cyA, cyn, cyc⟩ ⟨cuW, cuH, cuA, cun, cuc⟩ ⟨cvW, cvH, cvA, cvn, cvc⟩ F cyn j) (fun s10 _ => cvn - (intOf s10).toNat)
      case atStart => exact ⟨0, by omega, rfl, HC.out⟩
      case round =>
        clear ei hin hi
        obtain ⟨i, hi, rfl, hC⟩ := hrel
        clear HC
        have HC := Lib.hid hC
        clear hC
        have c0 := HC.out.bk.cell 8
        have l0 := HC.out.bk.lt
        simp [FrAt.cells] at c0
        by_cases hin : i < cvn
        · have ei : decide (i < cvn) = true := by simpa using hin
          have hC1 := HC.out.fr0 (Fr.refl [] wr).drew
          obtain ⟨g, hA, hcell, hfz, hC2⟩ := hC1.stepV (j := i) (by have := Hcv.out; omega)
          have hA : cvA = some ⟨g, 0, none⟩ := hA
          subst hA
          generalize F.v.pix.getD i 0 = xb at hcell hC2
          obtain ⟨zb, hzb⟩ : ∃ zb, zb = xb + 1 := ⟨_, rfl⟩
          rw [← hzb] at hC2
          have hz : IntKind.u8.wrap ((xb.toNat : Int) + 1) = (zb.toNat : Int) := by rw [hzb, IntKind.wrap_u8, UInt8.toNat_add]; simp
          have hz2 : ((xb.toNat : Int) + 1) % 256 = (zb.toNat : Int) := by rw [hzb, UInt8.toNat_add]; simp
          have HC2 := Lib.hid hC2
          have qi : (i : Int) < (cvn : Int) := by omega
          have c1 := hC1.bk.cell 8
          simp [FrAt.cells] at c1
          go_upto_region 16 with fail
          have c0' : wr.drew.cell? ⟨gc, 8, none⟩ = some (.slice (some ⟨g, 0, none⟩) cvn cvc) := c0
          have c2' : (wr.drew.setCell ⟨g, i, none⟩ (.int .u8 (zb.toNat : Int))).cell? ⟨gc, 8, none⟩ = some (.slice (some ⟨g, 0, none⟩) cvn cvc) := by have := hC2.bk.cell 8; simp [FrAt.cells] at this; exact this
          clear hC1 hC2 hzb c0 HC
          refine wp_region_held_drew (S := fun W => W.cell? ⟨gc, 8, none⟩ = some (.slice (some ⟨g, 0, none⟩) cvn cvc)) (by kernel_rfl) ?_ (fun hHeld => ?_)
          · (first | exact c0' | exact c2')
          refine wpAnyH_pick 0 (v := ?_) rfl (by kernel_rfl) (by kernel_rfl) (by kernel_rfl) (fun _ _ _ h => h) (by assumption) (by rfl) ?_ ?_
          rotate_left
          · (intro w hSw; (try dsimp only at hSw); go_simp) <;> (with_reducible rfl)
          (try simp only [Act.put, List.setIfInBounds_toArray, List.set_cons_zero, List.set_cons_succ])
          refine wpAnyH_pick 1 (v := ?_) rfl (by kernel_rfl) (by kernel_rfl) (by kernel_rfl) (fun _ _ _ h => h) (by assumption) (by rfl) ?_ ?_
          rotate_left
          · (intro w hSw; (try dsimp only at hSw); go_simp) <;> (with_reducible rfl)
          (try simp only [Act.put, List.setIfInBounds_toArray, List.set_cons_zero, List.set_cons_succ])
          refine wpAnyH_pick 2 (v := ?_) rfl (by kernel_rfl) (by kernel_rfl) (by kernel_rfl) (fun _ _ _ h => h) (by assumption) (by rfl) ?_ ?_
          rotate_left
          · (intro w hSw; (try dsimp only at hSw); go_simp) <;> (with_reducible rfl)
          (try simp only [Act.put, List.setIfInBounds_toArray, List.set_cons_zero, List.set_cons_succ])
          refine wpAnyH_pick 3 (v := ?_) rfl (by kernel_rfl) (by kernel_rfl) (by kernel_rfl) (fun _ _ _ h => h) (by assumption) (by rfl) ?_ ?_
          rotate_left
          · (intro w hSw; (try dsimp only at hSw); go_simp) <;> (with_reducible rfl)
          (try simp only [Act.put, List.setIfInBounds_toArray, List.set_cons_zero, List.set_cons_succ])
          refine wpAnyH_pick 4 (v := ?_) rfl (by kernel_rfl) (by kernel_rfl) (by kernel_rfl) (fun _ _ _ h => h) (by assumption) (by rfl) ?_ ?_
          rotate_left
          · (intro w hSw; (try dsimp only at hSw); go_simp) <;> (with_reducible rfl)
          (try simp only [Act.put, List.setIfInBounds_toArray, List.set_cons_zero, List.set_cons_succ])
          refine wpAnyH_pick 5 (v := ?_) rfl (by kernel_rfl) (by kernel_rfl) (by kernel_rfl) (fun _ _ _ h => h) (by assumption) (by rfl) ?_ ?_
          rotate_left
          · (intro w hSw; (try dsimp only at hSw); go_simp) <;> (with_reducible rfl)
          (try simp only [Act.put, List.setIfInBounds_toArray, List.set_cons_zero, List.set_cons_succ])
          refine wpAnyH_pick 6 (v := ?_) rfl (by kernel_rfl) (by kernel_rfl) (by kernel_rfl) (fun _ _ _ h => h) (by assumption) (by rfl) ?_ ?_
          rotate_left
          · (intro w hSw; (try dsimp only at hSw); go_simp) <;> (with_reducible rfl)
          (try simp only [Act.put, List.setIfInBounds_toArray, List.set_cons_zero, List.set_cons_succ])
          refine wpAnyH_pick 7 (v := ?_) rfl (by kernel_rfl) (by kernel_rfl) (by kernel_rfl) (fun _ _ _ h => h) (by assumption) (by rfl) ?_ ?_
          rotate_left
          · (intro w hSw; (try dsimp only at hSw); go_simp) <;> (with_reducible rfl)
          (try simp only [Act.put, List.setIfInBounds_toArray, List.set_cons_zero, List.set_cons_succ])
          refine wpAnyH_pick 8 (v := ?_) rfl (by kernel_rfl) (by kernel_rfl) (by kernel_rfl) (fun _ _ _ h => h) (by assumption) (by rfl) ?_ ?_
          rotate_left
          · (intro w hSw; (try dsimp only at hSw); go_simp) <;> (with_reducible rfl)
          (try simp only [Act.put, List.setIfInBounds_toArray, List.set_cons_zero, List.set_cons_succ])
          refine wpAnyH_ready (rs := [9]) (by kernel_rfl) (by simp) ?_
          refine AllReadyH_pick rfl (fun K hK => ?_) (AllReadyH.nil)
          skip
          go_simp
          refine hK.out _ _ ?_ (fun hHeld => ?_)
          · (first | exact c0' | exact c2')
          clear hK K
          (try simp only [Act.put, List.setIfInBounds_toArray, List.set_cons_zero, List.set_cons_succ])
          refine wpAnyH_pick 10 (v := ?_) rfl (by kernel_rfl) (by kernel_rfl) (by kernel_rfl) (fun _ _ _ h => h) (by assumption) (by rfl) ?_ ?_
          rotate_left
          · (intro w hSw; (try dsimp only at hSw); go_simp) <;> (with_reducible rfl)
          (try simp only [Act.put, List.setIfInBounds_toArray, List.set_cons_zero, List.set_cons_succ])
          refine wpAnyH_pick 11 (v := ?_) rfl (by kernel_rfl) (by kernel_rfl) (by kernel_rfl) (fun _ _ _ h => h) (by assumption) (by rfl) ?_ ?_
          rotate_left
          · (intro w hSw; (try dsimp only at hSw); go_simp) <;> (with_reducible rfl)
          (try simp only [Act.put, List.setIfInBounds_toArray, List.set_cons_zero, List.set_cons_succ])
          refine wpAnyH_ready (rs := [12]) (by kernel_rfl) (by simp) ?_
          refine AllReadyH_pick rfl (fun K hK => ?_) (AllReadyH.nil)
          skip
          go_simp
          refine hK.out _ _ ?_ (fun hHeld => ?_)
          · (first | exact c0' | exact c2')
          clear hK K
          (try simp only [Act.put, List.setIfInBounds_toArray, List.set_cons_zero, List.set_cons_succ])
          refine wpAnyH_done (by kernel_rfl) ?_ _
          skip
          go_wp2_with fail
          exact ⟨⟨i + 1, by omega, by simp, HC2.out⟩, by simp [intOf]; omega⟩
        · have ei : decide (i < cvn) = false := by simpa using hin
          have hin2 : i = cvn := by omega
          rw [hin2] at HC
          clear hin2
          have Bf := Lib.hid (Bf0.out.fr0 HC.out.fr); have Bk := Lib.hid (Bk0.out.fr0 HC.out.fr); have HF := Lib.hid (HF0.out.trans HC.out.fr (by simp))
          have hO : yn ≠ 0 → sameFr (bumped F cyn cvn) F = false := fun h => by
            rw [Hcy.out]
            exact bumped_other (fun e => h (by have := HY.out; rw [e] at this; exact this)) cvn
          have HO := Lib.hid hO
          clear hO Bf0 Bk0 HF0
          go_wp2_with fail
          clear c0 l0
          refine (HA.out _).mono ?_
          rintro e w14 ⟨rfl, hf⟩
          replace Bf := Lib.hid (Bf.out.fr0 hf)
          replace Bk := Lib.hid (Bk.out.fr0 hf)
          replace HC := Lib.hid (HC.out.fr0 hf)
          replace HF := Lib.hid (HF.out.trans hf (by simp))
          clear hf
          have cf0 := Bf.out.bk.cell 0
          have cf1 := Bf.out.bk.cell 1
          have cf2 := Bf.out.bk.cell 2
          have cf3 := Bf.out.bk.cell 3
          have cf4 := Bf.out.bk.cell 4
          have cf5 := Bf.out.bk.cell 5
          have cf6 := Bf.out.bk.cell 6
          have cf7 := Bf.out.bk.cell 7
          have cf8 := Bf.out.bk.cell 8
          have lf := Bf.out.bk.lt
          simp [FrAt.cells] at cf0 cf1 cf2 cf3 cf4 cf5 cf6 cf7 cf8
          have ck0 := Bk.out.bk.cell 0
          have ck1 := Bk.out.bk.cell 1
          have ck2 := Bk.out.bk.cell 2
          have ck3 := Bk.out.bk.cell 3
          have ck4 := Bk.out.bk.cell 4
          have ck5 := Bk.out.bk.cell 5
          have ck6 := Bk.out.bk.cell 6
          have ck7 := Bk.out.bk.cell 7
          have ck8 := Bk.out.bk.cell 8
          have lk := Bk.out.bk.lt
          simp [FrAt.cells] at ck0 ck1 ck2 ck3 ck4 ck5 ck6 ck7 ck8
          go_wp2_with fail
          refine (Z.same _ _ _ _ _ _ _ F F Bf.out.has Bk.out.has S1.out S1.out).mono ?_
          rw [sameFr_refl]
          rintro e w15 ⟨rfl, hf⟩
          replace Bf := Lib.hid (Bf.out.fr0 hf)
          replace Bk := Lib.hid (Bk.out.fr0 hf)
          replace HC := Lib.hid (HC.out.fr0 hf)
          replace HF := Lib.hid (HF.out.trans hf (by simp))
          clear hf
          clear cf0 cf1 cf2 cf3 cf4 cf5 cf6 cf7 cf8 lf ck0 ck1 ck2 ck3 ck4 ck5 ck6 ck7 ck8 lk
          have cf0 := Bf.out.bk.cell 0
          have cf1 := Bf.out.bk.cell 1
          have cf2 := Bf.out.bk.cell 2
          have cf3 := Bf.out.bk.cell 3
          have cf4 := Bf.out.bk.cell 4
          have cf5 := Bf.out.bk.cell 5
          have cf6 := Bf.out.bk.cell 6
          have cf7 := Bf.out.bk.cell 7
          have cf8 := Bf.out.bk.cell 8
          have lf := Bf.out.bk.lt
          simp [FrAt.cells] at cf0 cf1 cf2 cf3 cf4 cf5 cf6 cf7 cf8
          have d0 := HC.out.bk.cell 0
          have d1 := HC.out.bk.cell 1
          have d2 := HC.out.bk.cell 2
          have d3 := HC.out.bk.cell 3
          have d4 := HC.out.bk.cell 4
          have d5 := HC.out.bk.cell 5
          have d6 := HC.out.bk.cell 6
          have d7 := HC.out.bk.cell 7
          have d8 := HC.out.bk.cell 8
          have ld := HC.out.bk.lt
          simp [FrAt.cells] at d0 d1 d2 d3 d4 d5 d6 d7 d8
          by_cases hy0 : yn = 0
          · have e0 : ((yn : Int) == 0) = true := by simp; omega
            go_wp2_with fail
            go_ret
            exact ⟨rfl, HF.out⟩
          · have e0 : ((yn : Int) == 0) = false := by simp; omega
            have hO := HO.out hy0
            have HO2 := Lib.hid hO
            clear hO hy0
            go_wp2_with fail
            refine (Z.same _ _ _ _ _ _ _ (bumped F cyn cvn) F HC.out.has Bf.out.has (bumped_small S1.out _ _) S1.out).mono ?_
            rw [HO2.out]
            rintro e w16 ⟨rfl, hf⟩
            replace Bf := Lib.hid (Bf.out.fr0 hf)
            replace Bk := Lib.hid (Bk.out.fr0 hf)
            replace HC := Lib.hid (HC.out.fr0 hf)
            replace HF := Lib.hid (HF.out.trans hf (by simp))
            clear hf
            go_wp2_with fail
            go_ret
            exact ⟨rfl, HF.out⟩
end Go.Proofs.Ytlcjlgdcleenlaa

/-
  The statement PlaneCopies out of the contracts.
-/
namespace Go.Proofs.Ytlcjlgdcleenlaa
open Go.ChangeShapes Go.WideShapes Go.ChangeAt Go.RowKit

set_option maxRecDepth 100000 in
theorem copies6_lifted (Z : PlaneSpec) (os : Os) (started : os.Started) (H : Type) (enc : TypeId × Value → H) :
    ReturnsInHanded {} Try.checked os 8 .any (Rows.planeCopiesSpec.pre6 enc Try.prog Try.f8 Rows.planeCopiesRow.domain false) (Rows.planeCopiesSpec.post enc Try.prog Try.f8 false true false false) := by
  refine law_lift (C := Try.checked) own_knob started (by kernel_rfl) Try.func8
    (ChangeSpec.witness6 (enc := enc) (C := Try.checked) false ⟨#[], #[.agg #[.int .i64 0, .int .i64 0, .slice none 0 0, .int .i64 0, .int .i64 0, .slice none 0 0, .int .i64 0, .int .i64 0, .slice none 0 0], .agg #[.int .i64 0, .int .i64 0, .slice none 0 0, .int .i64 0, .int .i64 0, .slice none 0 0, .int .i64 0, .int .i64 0, .slice none 0 0]], []⟩ 8 (by kernel_rfl) (by kernel_rfl) (by kernel_rfl) (by kernel_rfl))
    laid_out rfl rfl Try.underlying4 (of_decide_eq_true (by kernel_rfl)) ?_
  intro W base args ds before hval0 hA0 hlt
  have hval : ∀ (j : Nat) t v, Try.f8.params[j]? = some t → args[j]? = some v → Value.okWide Try.prog W .any base t v := hval0
  have hA : DataW.TrodAll enc Try.prog W 0 (fun _ => true) true Try.f8.params.toList args.toList ds before := hA0
  rw [Try.params8] at hA hval
  obtain ⟨v0, v1, d0, d1, p0, p1, rfl, rfl, -, ⟨fuel0, h0⟩, ⟨fuel1, h1⟩⟩ := trodAll_two hA
  obtain ⟨l0, rfl⟩ := okWide_structN Try.underlying30 (hval 0 _ _ rfl rfl)
  obtain ⟨y0, u0, z0, F0, e0, hf0, ny0, nu0, nv0⟩ := open_frame h0
  have e0' : l0 = (FrAt.cells y0 u0 z0).toList := e0
  rw [e0']
  obtain ⟨l1, rfl⟩ := okWide_structN Try.underlying30 (hval 1 _ _ rfl rfl)
  obtain ⟨y1, u1, z1, F1, e1, hf1, ny1, nu1, nv1⟩ := open_frame h1
  have e1' : l1 = (FrAt.cells y1 u1 z1).toList := e1
  rw [e1']
  exact ⟨rfl, (copies6_law Z y0 u0 z0 y1 u1 z1 F0 F1 W hf0 hf1 ny0 nu0 nv0 ny1 nu1 nv1).mono fun e W' ⟨he, hf⟩ => ⟨he, hf.below (by simp) (Nat.le_refl _)⟩⟩

theorem copies6_holds_of (Z : PlaneSpec) : Rows.PlaneCopiesSaid :=
  OpenClaim.holds_of_wide 8 Try.f8 rfl rfl rfl rfl rfl rfl rfl ⟨rfl, rfl, rfl, rfl, rfl⟩ rfl rfl rfl rfl rfl (by kernel_rfl) Try.func8 (by kernel_rfl)
    (of_decide_eq_true (by kernel_rfl)) (by unfold Func.isWrapper; first | (rw [if_pos (by decide +kernel)]; kernel_rfl) | (rw [if_neg (by decide +kernel)]; exact ⟨rfl, rfl⟩))
    (fun os started H enc _ => copies6_lifted Z os started H enc)
end Go.Proofs.Ytlcjlgdcleenlaa

/-
  The law PlaneCopies answers true whatever its input, and leaves its arguments as they were; no condition.
-/
namespace Go.Proofs.Ytlcjlgdcleenlaa
open Go.RowKit

theorem copies6_holds : Rows.PlaneCopiesSaid := copies6_holds_of planeI
#print axioms copies6_holds
end Go.Proofs.Ytlcjlgdcleenlaa
