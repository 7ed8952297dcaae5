/-
  The law PlaneLays answers true whatever its input, and leaves its arguments as they were; no condition.
-/
import Derived.Test.YtlcjlgdcleenlaaAll1
import Derived.Test.YtlcjlgdcleenlaaAll2
import Derived.Test.YtlcjlgdcleenlaaAll3
/-
  The law PlaneLays, out of the contracts.
-/
namespace Go.Proofs.Ytlcjlgdcleenlaa
open Go.RowKit

attribute [local go_sem] cv_rule

set_option maxRecDepth 20000 in
set_option maxHeartbeats 4000000 in
theorem lays6_law (Z : PlaneSpec) (a : FrAt) (P : Pl) (x0 x1 x2 : Int) (bA : Option Addr) (bn bc : Nat) (bs : List UInt8) (w : World) (hp : a.has w P) (hb : Src w (.slice bA bn bc) (bs.map B8)) (hbn : bn = bs.length)
    (n1 : P.pix.length ≤ 9223372036854775807) (n2 : bn ≤ 9223372036854775807) (j0 : InJ x0) (j1 : InJ x1) (j2 : InJ x2) :
    Calls Try.prog 4 #[a.val, .agg #[.int .i64 x0, .int .i64 x1, .int .i64 x2], .slice bA bn bc] w fun e w' => e = .returned (.bool true) ∧ Fr [] w w' := by
  have HA := Lib.hid fun W => alive6_any Z W
  have HN := Lib.hid n1
  have HJ := Lib.hid (And.intro j0 (And.intro j1 j2))
  have HL := Lib.hid hbn
  obtain ⟨w1, ga, ewa, ega, ba, na, Fa⟩ := hp.put (Fr.refl [] w)
  obtain ⟨w2, go, ewo, ego, bo, no, Fo⟩ := Held.put w w1 36 #[.int .i64 x0, .int .i64 x1, .int .i64 x2] Fa
  have Ba := Lib.hid (ba.fr0 no); have Bo := Lib.hid bo; have HF := Lib.hid Fo; have Hb := Lib.hid (hb.fr0 Fo)
  clear ba bo na no Fa Fo hp hb n1 j0 j1 j2 hbn
  obtain ⟨P1, e1⟩ : ∃ R, R = P.lay x0 x1 x2 bs := ⟨_, rfl⟩
  have E1 := Lib.hid e1
  clear e1
  obtain ⟨P1, i1⟩ := P1
  obtain ⟨aW, aH, aA, an, ac⟩ := a
  simp only [FrAt.val] at ewa ⊢
  go_enter Try.func4, Try.ntmps4
  have ca0 := Ba.out.bk.cell 0
  have ca1 := Ba.out.bk.cell 1
  have ca2 := Ba.out.bk.cell 2
  have la := Ba.out.bk.lt
  simp at ca0 ca1 ca2
  go_wp2_with fail
  clear ewa ewo ega ego
  refine (law6_fits _ _ _ Ba.out.has HN.out).mono ?_
  rintro e w3 ⟨rfl, hf⟩
  replace Ba := Lib.hid (Ba.out.fr0 hf)
  replace Bo := Lib.hid (Bo.out.fr0 hf)
  replace Hb := Lib.hid (Hb.out.fr0 hf)
  replace HF := Lib.hid (HF.out.trans hf (by simp))
  clear hf
  clear ca0 ca1 ca2 la
  have ca0 := Ba.out.bk.cell 0
  have ca1 := Ba.out.bk.cell 1
  have ca2 := Ba.out.bk.cell 2
  have la := Ba.out.bk.lt
  simp at ca0 ca1 ca2
  cases f1 : P.fits
  all_goals go_upto_region 4 with fail
  all_goals first
    | (refine (HA.out _).mono ?_; rintro e w1 ⟨rfl, hf⟩; replace HF := Lib.hid (HF.out.trans hf (by simp)); clear hf; go_wp2_with fail; go_ret; exact ⟨rfl, HF.out⟩)
    | skip
  have S1 := Lib.hid (Pl.fits.small f1)
  have S2 : Hid (bs.length ≤ 20000) := Lib.hid (by have := HL.out; omega)
  have T1 : Hid (∀ W (a : FrAt) (A : Option Addr) (c : Nat), a.has W P → Src W (.slice A bn c) (bs.map B8) → Calls Try.prog 18 #[a.val, .int .i64 x0, .int .i64 x1, .int .i64 x2, .slice A bn c] W (PlPost W (P1, i1))) := Lib.hid fun W a A c h k => by
    have hl := HL.out
    subst hl
    rw [E1.out]
    exact Z.lay W a P x0 x1 x2 A c bs h S1.out k S2.out HJ.out.1 HJ.out.2.1 HJ.out.2.2
  have T2 : Hid (∀ W (a : FrAt) (A : Option Addr) (c : Nat), a.has W P → Src W (.slice A bn c) (bs.map B8) → Calls Try.prog 19 #[a.val, .int .i64 x0, .int .i64 x1, .int .i64 x2, .slice A bn c] W (PlPost W (P1, i1))) := Lib.hid fun W a A c h k => by
    have hl := HL.out
    subst hl
    rw [E1.out]
    exact ref6_lay W a P x0 x1 x2 A c bs h S1.out k S2.out HJ.out.1 HJ.out.2.1
  clear f1 E1
  go_wp2_with (at_builtin; refine wp_append_u8 _ _ (.slice (some ⟨w3.heap.size, 0, none⟩) 0 0) [] (.slice aA an ac) P.pix rfl rfl rfl rfl (Own.lit w3 5 #[] 0 rfl (by simp [maxLen])) (Ba.out.has.2.2.2.fr0 ((Fr.refl _ _).alloc _)) (by simp; have := S1.out; unfold Pl.small at this; omega) ?_)
  intro vo w4 hO hG
  obtain ⟨sA, sc, rfl, hS, hf⟩ := copied_mine hO hG
  replace Ba := Lib.hid (Ba.out.fr0 hf)
  replace Bo := Lib.hid (Bo.out.fr0 hf)
  replace Hb := Lib.hid (Hb.out.fr0 hf)
  replace HF := Lib.hid (HF.out.trans hf (by simp))
  have Hs := Lib.hid hS
  clear hO hG hS hf
  clear ca0 ca1 ca2 la
  have ca0 := Ba.out.bk.cell 0
  have ca1 := Ba.out.bk.cell 1
  have ca2 := Ba.out.bk.cell 2
  have la := Ba.out.bk.lt
  simp at ca0 ca1 ca2
  have co0 := Bo.out.bk.cell 0
  have co1 := Bo.out.bk.cell 1
  have co2 := Bo.out.bk.cell 2
  have lo := Bo.out.bk.lt
  simp at co0 co1 co2
  go_upto_region 5 with fail
  go_wp2_with fail
  clear ca0 ca1 ca2 la co0 co1 co2 lo
  refine (T1.out _ _ _ _ Ba.out.has Hb.out).mono ?_
  rintro e w5 ⟨q, rfl, hq, hf⟩
  obtain ⟨w6, gq, ew, eg, hbk, hn, hF⟩ := hq.put (HF.out.trans hf (by simp))
  have hqq := hf.trans hn (by simp)
  replace Ba := Lib.hid (Ba.out.fr0 hqq)
  replace Bo := Lib.hid (Bo.out.fr0 hqq)
  replace Hb := Lib.hid (Hb.out.fr0 hqq)
  replace Hs := Lib.hid (Hs.out.fr0 hqq)
  have Bq := Lib.hid hbk; simp only at Bq; replace HF := Lib.hid hF
  clear hq hf hbk hn hF hqq
  obtain ⟨qW, qH, qA, qn, qc⟩ := q
  simp only [FrAt.val] at ew ⊢
  have ca0 := Ba.out.bk.cell 0
  have ca1 := Ba.out.bk.cell 1
  have ca2 := Ba.out.bk.cell 2
  have la := Ba.out.bk.lt
  simp at ca0 ca1 ca2
  have co0 := Bo.out.bk.cell 0
  have co1 := Bo.out.bk.cell 1
  have co2 := Bo.out.bk.cell 2
  have lo := Bo.out.bk.lt
  simp at co0 co1 co2
  go_wp2_with fail
  try rw [ew]
  try rw [eg]
  clear ew eg
  clear ca0 ca1 ca2 la co0 co1 co2 lo
  refine (T2.out _ _ _ _ Ba.out.has Hb.out).mono ?_
  rintro e w7 ⟨r, rfl, hr, hf⟩
  obtain ⟨w8, gr, ew, eg, hbk, hn, hF⟩ := hr.put (HF.out.trans hf (by simp))
  have hqq := hf.trans hn (by simp)
  replace Ba := Lib.hid (Ba.out.fr0 hqq)
  replace Bo := Lib.hid (Bo.out.fr0 hqq)
  replace Hb := Lib.hid (Hb.out.fr0 hqq)
  replace Hs := Lib.hid (Hs.out.fr0 hqq)
  replace Bq := Lib.hid (Bq.out.fr0 hqq)
  have Br := Lib.hid hbk; simp only at Br; replace HF := Lib.hid hF
  clear hr hf hbk hn hF hqq
  obtain ⟨rW, rH, rA, rn, rc⟩ := r
  simp only [FrAt.val] at ew ⊢
  have cq0 := Bq.out.bk.cell 0
  have cq1 := Bq.out.bk.cell 1
  have cq2 := Bq.out.bk.cell 2
  have lq := Bq.out.bk.lt
  simp at cq0 cq1 cq2
  have cr0 := Br.out.bk.cell 0
  have cr1 := Br.out.bk.cell 1
  have cr2 := Br.out.bk.cell 2
  have lr := Br.out.bk.lt
  simp at cr0 cr1 cr2
  go_wp2_with fail
  try rw [ew]
  try rw [eg]
  clear ew eg
  refine (ref6_same1 _ _ _ _ _ Bq.out.has Br.out.has).mono ?_
  rw [samePl_refl]
  rintro e w9 ⟨rfl, hf⟩
  replace Ba := Lib.hid (Ba.out.fr0 hf)
  replace Bo := Lib.hid (Bo.out.fr0 hf)
  replace Hb := Lib.hid (Hb.out.fr0 hf)
  replace Hs := Lib.hid (Hs.out.fr0 hf)
  replace Bq := Lib.hid (Bq.out.fr0 hf)
  replace Br := Lib.hid (Br.out.fr0 hf)
  replace HF := Lib.hid (HF.out.trans hf (by simp))
  clear hf
  clear Bq Br
  clear cq0 cq1 cq2 lq cr0 cr1 cr2 lr
  have ca0 := Ba.out.bk.cell 0
  have ca1 := Ba.out.bk.cell 1
  have ca2 := Ba.out.bk.cell 2
  have la := Ba.out.bk.lt
  simp at ca0 ca1 ca2
  clear T1 T2
  go_wp2_with fail
  refine (HA.out _).mono ?_
  rintro e w10 ⟨rfl, hf⟩
  replace Ba := Lib.hid (Ba.out.fr0 hf)
  replace Bo := Lib.hid (Bo.out.fr0 hf)
  replace Hb := Lib.hid (Hb.out.fr0 hf)
  replace Hs := Lib.hid (Hs.out.fr0 hf)
  replace HF := Lib.hid (HF.out.trans hf (by simp))
  clear hf
  clear ca0 ca1 ca2 la
  have ca0 := Ba.out.bk.cell 0
  have ca1 := Ba.out.bk.cell 1
  have ca2 := Ba.out.bk.cell 2
  have la := Ba.out.bk.lt
  simp at ca0 ca1 ca2
  have s1 := run_cv Ba.out.has.2.2.2; have s2 := run_cv Hs.out
  go_wp2_with fail
  go_ret
  exact ⟨by simp, HF.out⟩
end Go.Proofs.Ytlcjlgdcleenlaa

/-
  The statement PlaneLays out of the contracts.
-/
namespace Go.Proofs.Ytlcjlgdcleenlaa
open Go.ChangeShapes Go.WideShapes Go.ChangeAt Go.RowKit

set_option maxRecDepth 100000 in
theorem lays6_lifted (Z : PlaneSpec) (os : Os) (started : os.Started) (H : Type) (enc : TypeId × Value → H) :
    ReturnsInHanded {} Try.checked os 4 .any (Rows.planeLaysSpec.pre6 enc Try.prog Try.f4 Rows.planeLaysRow.domain false) (Rows.planeLaysSpec.post enc Try.prog Try.f4 false true false false) := by
  refine law_lift (C := Try.checked) own_knob started (by kernel_rfl) Try.func4
    (ChangeSpec.witness6 (enc := enc) (C := Try.checked) false ⟨#[], #[.agg #[.int .i64 0, .int .i64 0, .slice none 0 0], .agg #[.int .i64 0, .int .i64 0, .int .i64 0], .slice none 0 0], []⟩ 8 (by kernel_rfl) (by kernel_rfl) (by kernel_rfl) (by kernel_rfl))
    laid_out rfl rfl Try.underlying4 (of_decide_eq_true (by kernel_rfl)) ?_
  intro W base args ds before hval0 hA0 hlt
  have hval : ∀ (j : Nat) t v, Try.f4.params[j]? = some t → args[j]? = some v → Value.okWide Try.prog W .any base t v := hval0
  have hA : DataW.TrodAll enc Try.prog W 0 (fun _ => true) true Try.f4.params.toList args.toList ds before := hA0
  rw [Try.params4] at hA hval
  obtain ⟨v0, v1, v2, d0, d1, d2, p0, p1, p2, rfl, rfl, -, ⟨fuel0, h0⟩, ⟨fuel1, h1⟩, ⟨fuel2, h2⟩⟩ := trodAll_three hA
  obtain ⟨l0, rfl⟩ := okWide_structN Try.underlying25 (hval 0 _ _ rfl rfl)
  obtain ⟨a0, P0, e0, hp0, n0⟩ := open_plane h0
  have e0' : l0 = [.int .i64 a0.W, .int .i64 a0.H, .slice a0.A a0.n a0.c] := e0
  rw [e0']
  obtain ⟨l1, rfl⟩ := okWide_rowN Try.underlying36 (hval 1 _ _ rfl rfl)
  obtain ⟨i1, j1, k1, e1, ji1, jj1, jk1⟩ := open_arr3 h1
  have e1' : l1 = [.int .i64 i1, .int .i64 j1, .int .i64 k1] := e1
  rw [e1']
  obtain ⟨A2, l2, c2, rfl⟩ := okWide_slice Try.underlying23 (hval 2 _ _ rfl rfl)
  obtain ⟨S2, n2, k2, bs2, e2, hb2, hn2, hs2⟩ := open_bytes (v := .slice A2 l2 c2) h2
  rw [e2]
  simp only [maxLen] at hn2
  exact ⟨rfl, (lays6_law Z a0 P0 i1 j1 k1 S2 n2 k2 bs2 W hp0 hs2 hb2.symm n0 hn2 ji1 jj1 jk1).mono fun e W' ⟨he, hf⟩ => ⟨he, hf.below (by simp) (Nat.le_refl _)⟩⟩

theorem lays6_holds_of (Z : PlaneSpec) : Rows.PlaneLaysSaid :=
  OpenClaim.holds_of_wide 4 Try.f4 rfl rfl rfl rfl rfl rfl rfl ⟨rfl, rfl, rfl, rfl, rfl⟩ rfl rfl rfl rfl rfl (by kernel_rfl) Try.func4 (by kernel_rfl)
    (of_decide_eq_true (by kernel_rfl)) (by unfold Func.isWrapper; first | (rw [if_pos (by decide +kernel)]; kernel_rfl) | (rw [if_neg (by decide +kernel)]; exact ⟨rfl, rfl⟩))
    (fun os started H enc _ => lays6_lifted Z os started H enc)
end Go.Proofs.Ytlcjlgdcleenlaa

/-
  The law PlaneLays answers true whatever its input, and leaves its arguments as they were; no condition.
-/
namespace Go.Proofs.Ytlcjlgdcleenlaa
open Go.RowKit

theorem lays6_holds : Rows.PlaneLaysSaid := lays6_holds_of planeI
#print axioms lays6_holds
end Go.Proofs.Ytlcjlgdcleenlaa
