/-
  The law PlaneMakes answers true whatever its input, and leaves its arguments as they were; no condition.
-/
import Derived.Test.YtlcjlgdcleenlaaAll1
import Derived.Test.YtlcjlgdcleenlaaAll2
import Derived.Test.YtlcjlgdcleenlaaAll3
/-
  The law PlaneMakes, out of the contracts.
-/
namespace Go.Proofs.Ytlcjlgdcleenlaa
open Go.RowKit

set_option maxRecDepth 20000 in
set_option maxHeartbeats 4000000 in
theorem makes6_law (Z : PlaneSpec) (W H : Int) (v : UInt8) (w : World) (hW : InJ W) (hH : InJ H) :
    Calls Try.prog 3 #[.int .i64 W, .int .i64 H, B8 v] w fun e w' => e = .returned (.bool true) ∧ Fr [] w w' := by
  have HA := Lib.hid fun W => alive6_any Z W
  have H1 := Lib.hid fun w => Z.new w W H v hW hH
  have H2 := Lib.hid fun w => ref6_new w W H v
  have H3 := Lib.hid fun w => Z.blank w W H v hW hH
  have H4 := Lib.hid fun w => rblank_any W H v w
  obtain ⟨P, hP⟩ : ∃ P, P = plNew W H v := ⟨_, rfl⟩
  obtain ⟨F, hF⟩ : ∃ F, F = frBlank W H v := ⟨_, rfl⟩
  rw [← hP] at H1 H2
  rw [← hF] at H3 H4
  clear hP hF
  obtain ⟨P, e1⟩ := P
  obtain ⟨F, e2⟩ := F
  unfold InJ at hW hH
  simp only [B8] at H1 H2 H3 H4 ⊢
  go_enter Try.func3, Try.ntmps3
  go_wp2_with fail
  all_goals first
    | (refine (HA.out _).mono ?_; rintro e w1 ⟨rfl, hf⟩; have HF := Lib.hid hf; clear hf; go_wp2_with fail; go_ret; exact ⟨rfl, HF.out⟩)
    | skip
  all_goals
    refine (H1.out _).mono ?_
    rintro e w1 ⟨a, rfl, ha, hf⟩
    obtain ⟨w2, ga, ew, eg, hbk, hn, hF⟩ := ha.put (hf)
    have hq := hf.trans hn (by simp)
    have Ba := Lib.hid hbk; simp only at Ba; have HF := Lib.hid hF
    clear ha hf hbk hn hF hq
    obtain ⟨aW, aH, aA, an, ac⟩ := a
    simp only [FrAt.val] at ew ⊢
    go_wp2_with fail
    try rw [ew]
    try rw [eg]
    clear ew eg
    refine (H2.out _).mono ?_
    rintro e w3 ⟨b, rfl, hb, hf⟩
    obtain ⟨w4, gb, ew, eg, hbk, hn, hF⟩ := hb.put (HF.out.trans hf (by simp))
    have hq := hf.trans hn (by simp)
    replace Ba := Lib.hid (Ba.out.fr0 hq)
    have Bb := Lib.hid hbk; simp only at Bb; replace HF := Lib.hid hF
    clear hb hf hbk hn hF hq
    obtain ⟨bW, bH, bA, bn, bc⟩ := b
    simp only [FrAt.val] at ew ⊢
    go_wp2_with fail
    try rw [ew]
    try rw [eg]
    clear ew eg
    refine (H3.out _).mono ?_
    rintro e w5 hp
    obtain ⟨cy, cu, cv, rfl, hc, hf⟩ := hp.has
    clear hp
    obtain ⟨w6, gc, ew, eg, hbk, hn, hF⟩ := hc.put (HF.out.trans hf (by simp))
    have hq := hf.trans hn (by simp)
    replace Ba := Lib.hid (Ba.out.fr0 hq)
    replace Bb := Lib.hid (Bb.out.fr0 hq)
    have Bc := Lib.hid hbk; simp only at Bc; replace HF := Lib.hid hF
    clear hc hf hbk hn hF hq
    obtain ⟨cyW, cyH, cyA, cyn, cyc⟩ := cy
    obtain ⟨cuW, cuH, cuA, cun, cuc⟩ := cu
    obtain ⟨cvW, cvH, cvA, cvn, cvc⟩ := cv
    unfold frV FrAt.cells
    simp only at ew ⊢
    go_wp2_with fail
    try rw [ew]
    try rw [eg]
    clear ew eg
    refine (H4.out _).mono ?_
    rintro e w7 hp
    obtain ⟨dy, du, dv, rfl, hd, hf⟩ := hp.has
    clear hp
    obtain ⟨w8, gd, ew, eg, hbk, hn, hF⟩ := hd.put (HF.out.trans hf (by simp))
    have hq := hf.trans hn (by simp)
    replace Ba := Lib.hid (Ba.out.fr0 hq)
    replace Bb := Lib.hid (Bb.out.fr0 hq)
    replace Bc := Lib.hid (Bc.out.fr0 hq)
    have Bd := Lib.hid hbk; simp only at Bd; replace HF := Lib.hid hF
    clear hd hf hbk hn hF hq
    obtain ⟨dyW, dyH, dyA, dyn, dyc⟩ := dy
    obtain ⟨duW, duH, duA, dun, duc⟩ := du
    obtain ⟨dvW, dvH, dvA, dvn, dvc⟩ := dv
    unfold frV FrAt.cells
    simp only at ew ⊢
    have ca0 := Ba.out.bk.cell 0
    have ca1 := Ba.out.bk.cell 1
    have ca2 := Ba.out.bk.cell 2
    have la := Ba.out.bk.lt
    simp at ca0 ca1 ca2
    have cb0 := Bb.out.bk.cell 0
    have cb1 := Bb.out.bk.cell 1
    have cb2 := Bb.out.bk.cell 2
    have lb := Bb.out.bk.lt
    simp at cb0 cb1 cb2
    go_wp2_with fail
    try rw [ew]
    try rw [eg]
    clear ew eg
    refine (ref6_same1 _ _ _ _ _ Ba.out.has Bb.out.has).mono ?_
    rw [samePl_refl]
    rintro e w9 ⟨rfl, hf⟩
    replace Ba := Lib.hid (Ba.out.fr0 hf)
    replace Bb := Lib.hid (Bb.out.fr0 hf)
    replace Bc := Lib.hid (Bc.out.fr0 hf)
    replace Bd := Lib.hid (Bd.out.fr0 hf)
    replace HF := Lib.hid (HF.out.trans hf (by simp))
    clear hf
    clear ca0 ca1 ca2 la cb0 cb1 cb2 lb
    clear Ba Bb
    have cc0 := Bc.out.bk.cell 0
    have cc1 := Bc.out.bk.cell 1
    have cc2 := Bc.out.bk.cell 2
    have cc3 := Bc.out.bk.cell 3
    have cc4 := Bc.out.bk.cell 4
    have cc5 := Bc.out.bk.cell 5
    have cc6 := Bc.out.bk.cell 6
    have cc7 := Bc.out.bk.cell 7
    have cc8 := Bc.out.bk.cell 8
    have lc := Bc.out.bk.lt
    simp [FrAt.cells] at cc0 cc1 cc2 cc3 cc4 cc5 cc6 cc7 cc8
    have cd0 := Bd.out.bk.cell 0
    have cd1 := Bd.out.bk.cell 1
    have cd2 := Bd.out.bk.cell 2
    have cd3 := Bd.out.bk.cell 3
    have cd4 := Bd.out.bk.cell 4
    have cd5 := Bd.out.bk.cell 5
    have cd6 := Bd.out.bk.cell 6
    have cd7 := Bd.out.bk.cell 7
    have cd8 := Bd.out.bk.cell 8
    have ld := Bd.out.bk.lt
    simp [FrAt.cells] at cd0 cd1 cd2 cd3 cd4 cd5 cd6 cd7 cd8
    go_wp2_with fail
    refine (ref6_same _ _ _ _ _ _ _ _ _ Bc.out.has Bd.out.has).mono ?_
    rw [sameFr_refl]
    rintro e w10 ⟨rfl, hf⟩
    replace Bc := Lib.hid (Bc.out.fr0 hf)
    replace Bd := Lib.hid (Bd.out.fr0 hf)
    replace HF := Lib.hid (HF.out.trans hf (by simp))
    clear hf
    clear cc0 cc1 cc2 cc3 cc4 cc5 cc6 cc7 cc8 lc cd0 cd1 cd2 cd3 cd4 cd5 cd6 cd7 cd8 ld
    clear Bc Bd
    go_wp2_with fail
    refine (HA.out _).mono ?_
    rintro e w11 ⟨rfl, hf⟩
    replace HF := Lib.hid (HF.out.trans hf (by simp))
    clear hf
    go_wp2_with fail
    go_ret
    exact ⟨rfl, HF.out⟩
end Go.Proofs.Ytlcjlgdcleenlaa

/-
  The statement PlaneMakes out of the contracts.
-/
namespace Go.Proofs.Ytlcjlgdcleenlaa
open Go.ChangeShapes Go.WideShapes Go.ChangeAt Go.RowKit

set_option maxRecDepth 100000 in
theorem makes6_lifted (Z : PlaneSpec) (os : Os) (started : os.Started) (H : Type) (enc : TypeId × Value → H) :
    ReturnsInHanded {} Try.checked os 3 .any (Rows.planeMakesSpec.pre6 enc Try.prog Try.f3 Rows.planeMakesRow.domain false) (Rows.planeMakesSpec.post enc Try.prog Try.f3 false true false false) := by
  refine law_lift (C := Try.checked) own_knob started (by kernel_rfl) Try.func3
    (ChangeSpec.witness6 (enc := enc) (C := Try.checked) false ⟨#[], #[.int .i64 0, .int .i64 0, .int .u8 0], []⟩ 8 (by kernel_rfl) (by kernel_rfl) (by kernel_rfl) (by kernel_rfl))
    laid_out rfl rfl Try.underlying4 (of_decide_eq_true (by kernel_rfl)) ?_
  intro W base args ds before hval0 hA0 hlt
  have hval : ∀ (j : Nat) t v, Try.f3.params[j]? = some t → args[j]? = some v → Value.okWide Try.prog W .any base t v := hval0
  have hA : DataW.TrodAll enc Try.prog W 0 (fun _ => true) true Try.f3.params.toList args.toList ds before := hA0
  rw [Try.params3] at hA hval
  obtain ⟨v0, v1, v2, d0, d1, d2, p0, p1, p2, rfl, rfl, -, h0, h1, h2⟩ := trodAll_three hA
  obtain ⟨z0, rfl, -, -, wz0⟩ := open_int Try.underlying3 (hval 0 _ _ rfl rfl) h0
  simp [Lit.wf, IntKind.min, IntKind.max, IntKind.signed, IntKind.bits] at wz0
  have j0 : InJ z0 := by unfold InJ; omega
  obtain ⟨z1, rfl, -, -, wz1⟩ := open_int Try.underlying3 (hval 1 _ _ rfl rfl) h1
  simp [Lit.wf, IntKind.min, IntKind.max, IntKind.signed, IntKind.bits] at wz1
  have j1 : InJ z1 := by unfold InJ; omega
  obtain ⟨z2, rfl, -, -, wz2⟩ := open_int Try.underlying5 (hval 2 _ _ rfl rfl) h2
  obtain ⟨b2, eb2⟩ := u8_cell wz2
  rw [eb2]
  exact ⟨rfl, (makes6_law Z z0 z1 b2 W j0 j1).mono fun e W' ⟨he, hf⟩ => ⟨he, hf.below (by simp) (Nat.le_refl _)⟩⟩

theorem makes6_holds_of (Z : PlaneSpec) : Rows.PlaneMakesSaid :=
  OpenClaim.holds_of_wide 3 Try.f3 rfl rfl rfl rfl rfl rfl rfl ⟨rfl, rfl, rfl, rfl, rfl⟩ rfl rfl rfl rfl rfl (by kernel_rfl) Try.func3 (by kernel_rfl)
    (of_decide_eq_true (by kernel_rfl)) (by unfold Func.isWrapper; first | (rw [if_pos (by decide +kernel)]; kernel_rfl) | (rw [if_neg (by decide +kernel)]; exact ⟨rfl, rfl⟩))
    (fun os started H enc _ => makes6_lifted Z os started H enc)
end Go.Proofs.Ytlcjlgdcleenlaa

/-
  The law PlaneMakes answers true whatever its input, and leaves its arguments as they were; no condition.
-/
namespace Go.Proofs.Ytlcjlgdcleenlaa
open Go.RowKit

theorem makes6_holds : Rows.PlaneMakesSaid := makes6_holds_of planeI
#print axioms makes6_holds
end Go.Proofs.Ytlcjlgdcleenlaa
