/-
  The law PlaneHalves answers true whatever its input, and leaves its arguments as they were; no condition.
-/
import Derived.Test.YtlcjlgdcleenlaaAll1
import Derived.Test.YtlcjlgdcleenlaaAll2
import Derived.Test.YtlcjlgdcleenlaaAll3
/-
  The law PlaneHalves, out of the contracts.
-/
namespace Go.Proofs.Ytlcjlgdcleenlaa
open Go.RowKit

set_option maxRecDepth 20000 in
set_option maxHeartbeats 4000000 in
theorem halves6_law (Z : PlaneSpec) (a b y u v : FrAt) (P Q : Pl) (F : Frm) (w : World) (hp : a.has w P) (hq : b.has w Q) (hF : FrAt3 y u v w F)
    (n1 : P.pix.length ≤ 9223372036854775807) (n2 : Q.pix.length ≤ 9223372036854775807) (n3 : F.y.pix.length ≤ 9223372036854775807) (n4 : F.u.pix.length ≤ 9223372036854775807) (n5 : F.v.pix.length ≤ 9223372036854775807) :
    Calls Try.prog 5 #[a.val, b.val, frV y u v] w fun e w' => e = .returned (.bool true) ∧ Fr [] w w' := by
  have HA := Lib.hid fun W => alive6_any Z W
  have HN := Lib.hid (And.intro n1 (And.intro n2 (And.intro n3 (And.intro n4 n5))))
  obtain ⟨w1, ga, ewa, ega, ba, na, Fa⟩ := hp.put (Fr.refl [] w)
  obtain ⟨w2, gb, ewb, egb, bb, nb, Fb⟩ := (hq.fr0 Fa).put Fa
  obtain ⟨w3, gf, ewf, egf, bf, nf, Ff⟩ := (hF.fr0 Fb).put Fb
  have Ba := Lib.hid (ba.fr0 (nb.trans nf (by simp))); have Bb := Lib.hid (bb.fr0 nf); have Bf := Lib.hid bf; have HF := Lib.hid Ff
  clear ba bb bf na nb nf Fa Fb Ff hp hq hF n1 n2 n3 n4 n5
  obtain ⟨P1, e1⟩ : ∃ R, R = P.half := ⟨_, rfl⟩
  obtain ⟨P2, e2⟩ : ∃ R, R = P.far Q := ⟨_, rfl⟩
  obtain ⟨P3, e3⟩ : ∃ R, R = F.down := ⟨_, rfl⟩
  have E1 := Lib.hid e1; have E2 := Lib.hid e2; have E3 := Lib.hid e3
  clear e1 e2 e3
  obtain ⟨P1, i1⟩ := P1
  obtain ⟨m2, i2⟩ := P2
  obtain ⟨P3, i3⟩ := P3
  obtain ⟨aW, aH, aA, an, ac⟩ := a
  obtain ⟨bW, bH, bA, bn, bc⟩ := b
  obtain ⟨yW, yH, yA, yn, yc⟩ := y
  obtain ⟨uW, uH, uA, un, uc⟩ := u
  obtain ⟨vW, vH, vA, vn, vc⟩ := v
  unfold frV FrAt.cells
  simp only at ewa ewb ewf
  simp only [FrAt.val]
  go_enter Try.func5, Try.ntmps5
  have ca0 := Ba.out.bk.cell 0
  have ca1 := Ba.out.bk.cell 1
  have ca2 := Ba.out.bk.cell 2
  have la := Ba.out.bk.lt
  simp at ca0 ca1 ca2
  have cb0 := Bb.out.bk.cell 0
  have cb1 := Bb.out.bk.cell 1
  have cb2 := Bb.out.bk.cell 2
  have lb := Bb.out.bk.lt
  simp at cb0 cb1 cb2
  go_wp2_with fail
  clear ewa ewb ewf ega egb egf
  refine (law6_fits _ _ _ Ba.out.has HN.out.1).mono ?_
  rintro e w4 ⟨rfl, hf⟩
  replace Ba := Lib.hid (Ba.out.fr0 hf)
  replace Bb := Lib.hid (Bb.out.fr0 hf)
  replace Bf := Lib.hid (Bf.out.fr0 hf)
  replace HF := Lib.hid (HF.out.trans hf (by simp))
  clear hf
  clear ca0 ca1 ca2 la cb0 cb1 cb2 lb
  have cb0 := Bb.out.bk.cell 0
  have cb1 := Bb.out.bk.cell 1
  have cb2 := Bb.out.bk.cell 2
  have lb := Bb.out.bk.lt
  simp at cb0 cb1 cb2
  go_wp2_with fail
  refine (law6_fits _ _ _ Bb.out.has HN.out.2.1).mono ?_
  rintro e w5 ⟨rfl, hf⟩
  replace Ba := Lib.hid (Ba.out.fr0 hf)
  replace Bb := Lib.hid (Bb.out.fr0 hf)
  replace Bf := Lib.hid (Bf.out.fr0 hf)
  replace HF := Lib.hid (HF.out.trans hf (by simp))
  clear hf
  clear cb0 cb1 cb2 lb
  have cf0 := Bf.out.bk.cell 0
  have cf1 := Bf.out.bk.cell 1
  have cf2 := Bf.out.bk.cell 2
  have cf3 := Bf.out.bk.cell 3
  have cf4 := Bf.out.bk.cell 4
  have cf5 := Bf.out.bk.cell 5
  have cf6 := Bf.out.bk.cell 6
  have cf7 := Bf.out.bk.cell 7
  have cf8 := Bf.out.bk.cell 8
  have lf := Bf.out.bk.lt
  simp [FrAt.cells] at cf0 cf1 cf2 cf3 cf4 cf5 cf6 cf7 cf8
  go_wp2_with fail
  refine (law6_fitsF _ _ _ _ _ Bf.out.has HN.out.2.2.1 HN.out.2.2.2.1 HN.out.2.2.2.2).mono ?_
  rintro e w6 ⟨rfl, hf⟩
  replace Ba := Lib.hid (Ba.out.fr0 hf)
  replace Bb := Lib.hid (Bb.out.fr0 hf)
  replace Bf := Lib.hid (Bf.out.fr0 hf)
  replace HF := Lib.hid (HF.out.trans hf (by simp))
  clear hf
  clear cf0 cf1 cf2 cf3 cf4 cf5 cf6 cf7 cf8 lf
  have ca0 := Ba.out.bk.cell 0
  have ca1 := Ba.out.bk.cell 1
  have ca2 := Ba.out.bk.cell 2
  have la := Ba.out.bk.lt
  simp at ca0 ca1 ca2
  have cb0 := Bb.out.bk.cell 0
  have cb1 := Bb.out.bk.cell 1
  have cb2 := Bb.out.bk.cell 2
  have lb := Bb.out.bk.lt
  simp at cb0 cb1 cb2
  cases f1 : P.fits <;> cases f2 : Q.fits <;> cases f3 : F.fits
  all_goals go_wp2_with fail
  all_goals first
    | (refine (HA.out _).mono ?_; rintro e w1 ⟨rfl, hf⟩; replace HF := Lib.hid (HF.out.trans hf (by simp)); clear hf; go_wp2_with fail; go_ret; exact ⟨rfl, HF.out⟩)
    | skip
  have S1 := Lib.hid (Pl.fits.small f1); have S2 := Lib.hid (Pl.fits.small f2); have S3 := Lib.hid (Frm.fits.small f3)
  clear f1 f2 f3 HN
  have T1 : Hid (∀ W (a : FrAt), a.has W P → Calls Try.prog 21 #[a.val] W (PlPost W (P1, i1))) := Lib.hid fun W a h => by rw [E1.out]; exact Z.half W a P h S1.out
  have T2 : Hid (∀ W (a : FrAt), a.has W P → Calls Try.prog 22 #[a.val] W (PlPost W (P1, i1))) := Lib.hid fun W a h => by rw [E1.out]; exact ref6_half W a P h S1.out
  have T3 : Hid (∀ W (a b : FrAt), a.has W P → b.has W Q → Calls Try.prog 23 #[a.val, b.val] W fun e w' => e = .returned (.tuple #[.int .i64 m2, .int .i64 i2]) ∧ Fr [] W w') := Lib.hid fun W a b h k => by have := Z.far W a b P Q h k S1.out S2.out; rw [← E2.out] at this; exact this
  have T4 : Hid (∀ W (a b : FrAt), a.has W P → b.has W Q → Calls Try.prog 24 #[a.val, b.val] W fun e w' => e = .returned (.tuple #[.int .i64 m2, .int .i64 i2]) ∧ Fr [] W w') := Lib.hid fun W a b h k => by have := ref6_far W a b P Q h k S1.out S2.out; rw [← E2.out] at this; exact this
  have T5 : Hid (∀ W (y u v : FrAt), FrAt3 y u v W F → Calls Try.prog 25 #[frV y u v] W (FrPost W (P3, i3))) := Lib.hid fun W y u v h => by rw [E3.out]; exact Z.down W y u v F h S3.out
  have T6 : Hid (∀ W (y u v : FrAt), FrAt3 y u v W F → Calls Try.prog 26 #[frV y u v] W (FrPost W (P3, i3))) := Lib.hid fun W y u v h => by rw [E3.out]; exact ref6_down W y u v F h S3.out
  clear E1 E2 E3
  clear ca0 ca1 ca2 la cb0 cb1 cb2 lb
  refine (T1.out _ _ Ba.out.has).mono ?_
  rintro e w7 ⟨x, rfl, hx, hf⟩
  obtain ⟨w8, gx, ew, eg, hbk, hn, hF⟩ := hx.put (HF.out.trans hf (by simp))
  have hqq := hf.trans hn (by simp)
  replace Ba := Lib.hid (Ba.out.fr0 hqq)
  replace Bb := Lib.hid (Bb.out.fr0 hqq)
  replace Bf := Lib.hid (Bf.out.fr0 hqq)
  have Bx := Lib.hid hbk; simp only at Bx; replace HF := Lib.hid hF
  clear hx hf hbk hn hF hqq
  obtain ⟨xW, xH, xA, xn, xc⟩ := x
  simp only [FrAt.val] at ew ⊢
  have ca0 := Ba.out.bk.cell 0
  have ca1 := Ba.out.bk.cell 1
  have ca2 := Ba.out.bk.cell 2
  have la := Ba.out.bk.lt
  simp at ca0 ca1 ca2
  go_wp2_with fail
  try rw [ew]
  try rw [eg]
  clear ew eg
  clear T1
  clear ca0 ca1 ca2 la
  refine (T2.out _ _ Ba.out.has).mono ?_
  rintro e w9 ⟨z, rfl, hz, hf⟩
  obtain ⟨w10, gz, ew, eg, hbk, hn, hF⟩ := hz.put (HF.out.trans hf (by simp))
  have hqq := hf.trans hn (by simp)
  replace Ba := Lib.hid (Ba.out.fr0 hqq)
  replace Bb := Lib.hid (Bb.out.fr0 hqq)
  replace Bf := Lib.hid (Bf.out.fr0 hqq)
  replace Bx := Lib.hid (Bx.out.fr0 hqq)
  have Bz := Lib.hid hbk; simp only at Bz; replace HF := Lib.hid hF
  clear hz hf hbk hn hF hqq
  obtain ⟨zW, zH, zA, zn, zc⟩ := z
  simp only [FrAt.val] at ew ⊢
  have ca0 := Ba.out.bk.cell 0
  have ca1 := Ba.out.bk.cell 1
  have ca2 := Ba.out.bk.cell 2
  have la := Ba.out.bk.lt
  simp at ca0 ca1 ca2
  have cb0 := Bb.out.bk.cell 0
  have cb1 := Bb.out.bk.cell 1
  have cb2 := Bb.out.bk.cell 2
  have lb := Bb.out.bk.lt
  simp at cb0 cb1 cb2
  go_wp2_with fail
  try rw [ew]
  try rw [eg]
  clear ew eg
  clear T2
  clear ca0 ca1 ca2 la cb0 cb1 cb2 lb
  refine (T3.out _ _ _ Ba.out.has Bb.out.has).mono ?_
  rintro e w11 ⟨rfl, hf⟩
  replace Ba := Lib.hid (Ba.out.fr0 hf)
  replace Bb := Lib.hid (Bb.out.fr0 hf)
  replace Bf := Lib.hid (Bf.out.fr0 hf)
  replace Bx := Lib.hid (Bx.out.fr0 hf)
  replace Bz := Lib.hid (Bz.out.fr0 hf)
  replace HF := Lib.hid (HF.out.trans hf (by simp))
  clear hf
  have ca0 := Ba.out.bk.cell 0
  have ca1 := Ba.out.bk.cell 1
  have ca2 := Ba.out.bk.cell 2
  have la := Ba.out.bk.lt
  simp at ca0 ca1 ca2
  have cb0 := Bb.out.bk.cell 0
  have cb1 := Bb.out.bk.cell 1
  have cb2 := Bb.out.bk.cell 2
  have lb := Bb.out.bk.lt
  simp at cb0 cb1 cb2
  go_wp2_with fail
  refine (T4.out _ _ _ Ba.out.has Bb.out.has).mono ?_
  rintro e w12 ⟨rfl, hf⟩
  replace Ba := Lib.hid (Ba.out.fr0 hf)
  replace Bb := Lib.hid (Bb.out.fr0 hf)
  replace Bf := Lib.hid (Bf.out.fr0 hf)
  replace Bx := Lib.hid (Bx.out.fr0 hf)
  replace Bz := Lib.hid (Bz.out.fr0 hf)
  replace HF := Lib.hid (HF.out.trans hf (by simp))
  clear hf
  clear ca0 ca1 ca2 la cb0 cb1 cb2 lb
  have cf0 := Bf.out.bk.cell 0
  have cf1 := Bf.out.bk.cell 1
  have cf2 := Bf.out.bk.cell 2
  have cf3 := Bf.out.bk.cell 3
  have cf4 := Bf.out.bk.cell 4
  have cf5 := Bf.out.bk.cell 5
  have cf6 := Bf.out.bk.cell 6
  have cf7 := Bf.out.bk.cell 7
  have cf8 := Bf.out.bk.cell 8
  have lf := Bf.out.bk.lt
  simp [FrAt.cells] at cf0 cf1 cf2 cf3 cf4 cf5 cf6 cf7 cf8
  go_wp2_with fail
  clear cf0 cf1 cf2 cf3 cf4 cf5 cf6 cf7 cf8 lf
  clear T3 T4
  clear Ba Bb
  refine (T5.out _ _ _ _ Bf.out.has).mono ?_
  rintro e w13 hp
  obtain ⟨dy, du, dv, rfl, hd, hf⟩ := hp.has
  clear hp
  obtain ⟨w14, gd, ew, eg, hbk, hn, hF⟩ := hd.put (HF.out.trans hf (by simp))
  have hqq := hf.trans hn (by simp)
  replace Bf := Lib.hid (Bf.out.fr0 hqq)
  replace Bx := Lib.hid (Bx.out.fr0 hqq)
  replace Bz := Lib.hid (Bz.out.fr0 hqq)
  have Bd := Lib.hid hbk; simp only at Bd; replace HF := Lib.hid hF
  clear hd hf hbk hn hF hqq
  obtain ⟨dyW, dyH, dyA, dyn, dyc⟩ := dy
  obtain ⟨duW, duH, duA, dun, duc⟩ := du
  obtain ⟨dvW, dvH, dvA, dvn, dvc⟩ := dv
  unfold frV FrAt.cells
  simp only at ew ⊢
  have cf0 := Bf.out.bk.cell 0
  have cf1 := Bf.out.bk.cell 1
  have cf2 := Bf.out.bk.cell 2
  have cf3 := Bf.out.bk.cell 3
  have cf4 := Bf.out.bk.cell 4
  have cf5 := Bf.out.bk.cell 5
  have cf6 := Bf.out.bk.cell 6
  have cf7 := Bf.out.bk.cell 7
  have cf8 := Bf.out.bk.cell 8
  have lf := Bf.out.bk.lt
  simp [FrAt.cells] at cf0 cf1 cf2 cf3 cf4 cf5 cf6 cf7 cf8
  go_wp2_with fail
  try rw [ew]
  try rw [eg]
  clear ew eg
  clear cf0 cf1 cf2 cf3 cf4 cf5 cf6 cf7 cf8 lf
  refine (T6.out _ _ _ _ Bf.out.has).mono ?_
  rintro e w15 hp
  obtain ⟨hy, hu, hv, rfl, hh, hf⟩ := hp.has
  clear hp
  obtain ⟨w16, gh, ew, eg, hbk, hn, hF⟩ := hh.put (HF.out.trans hf (by simp))
  have hqq := hf.trans hn (by simp)
  replace Bf := Lib.hid (Bf.out.fr0 hqq)
  replace Bx := Lib.hid (Bx.out.fr0 hqq)
  replace Bz := Lib.hid (Bz.out.fr0 hqq)
  replace Bd := Lib.hid (Bd.out.fr0 hqq)
  have Bh := Lib.hid hbk; simp only at Bh; replace HF := Lib.hid hF
  clear hh hf hbk hn hF hqq
  obtain ⟨hyW, hyH, hyA, hyn, hyc⟩ := hy
  obtain ⟨huW, huH, huA, hun, huc⟩ := hu
  obtain ⟨hvW, hvH, hvA, hvn, hvc⟩ := hv
  unfold frV FrAt.cells
  simp only at ew ⊢
  have cx0 := Bx.out.bk.cell 0
  have cx1 := Bx.out.bk.cell 1
  have cx2 := Bx.out.bk.cell 2
  have lx := Bx.out.bk.lt
  simp at cx0 cx1 cx2
  have cz0 := Bz.out.bk.cell 0
  have cz1 := Bz.out.bk.cell 1
  have cz2 := Bz.out.bk.cell 2
  have lz := Bz.out.bk.lt
  simp at cz0 cz1 cz2
  go_wp2_with fail
  try rw [ew]
  try rw [eg]
  clear ew eg
  clear cx0 cx1 cx2 lx cz0 cz1 cz2 lz
  clear T5 T6
  refine (ref6_same1 _ _ _ _ _ Bx.out.has Bz.out.has).mono ?_
  rw [samePl_refl]
  rintro e w17 ⟨rfl, hf⟩
  replace Bf := Lib.hid (Bf.out.fr0 hf)
  replace Bx := Lib.hid (Bx.out.fr0 hf)
  replace Bz := Lib.hid (Bz.out.fr0 hf)
  replace Bd := Lib.hid (Bd.out.fr0 hf)
  replace Bh := Lib.hid (Bh.out.fr0 hf)
  replace HF := Lib.hid (HF.out.trans hf (by simp))
  clear hf
  clear Bx Bz
  have cd0 := Bd.out.bk.cell 0
  have cd1 := Bd.out.bk.cell 1
  have cd2 := Bd.out.bk.cell 2
  have cd3 := Bd.out.bk.cell 3
  have cd4 := Bd.out.bk.cell 4
  have cd5 := Bd.out.bk.cell 5
  have cd6 := Bd.out.bk.cell 6
  have cd7 := Bd.out.bk.cell 7
  have cd8 := Bd.out.bk.cell 8
  have ld := Bd.out.bk.lt
  simp [FrAt.cells] at cd0 cd1 cd2 cd3 cd4 cd5 cd6 cd7 cd8
  have ch0 := Bh.out.bk.cell 0
  have ch1 := Bh.out.bk.cell 1
  have ch2 := Bh.out.bk.cell 2
  have ch3 := Bh.out.bk.cell 3
  have ch4 := Bh.out.bk.cell 4
  have ch5 := Bh.out.bk.cell 5
  have ch6 := Bh.out.bk.cell 6
  have ch7 := Bh.out.bk.cell 7
  have ch8 := Bh.out.bk.cell 8
  have lh := Bh.out.bk.lt
  simp [FrAt.cells] at ch0 ch1 ch2 ch3 ch4 ch5 ch6 ch7 ch8
  go_wp2_with fail
  refine (ref6_same _ _ _ _ _ _ _ _ _ Bd.out.has Bh.out.has).mono ?_
  rw [sameFr_refl]
  rintro e w18 ⟨rfl, hf⟩
  replace Bf := Lib.hid (Bf.out.fr0 hf)
  replace Bd := Lib.hid (Bd.out.fr0 hf)
  replace Bh := Lib.hid (Bh.out.fr0 hf)
  replace HF := Lib.hid (HF.out.trans hf (by simp))
  clear hf
  clear Bd Bh
  clear cd0 cd1 cd2 cd3 cd4 cd5 cd6 cd7 cd8 ld ch0 ch1 ch2 ch3 ch4 ch5 ch6 ch7 ch8 lh
  have cf0 := Bf.out.bk.cell 0
  have cf1 := Bf.out.bk.cell 1
  have cf2 := Bf.out.bk.cell 2
  have cf3 := Bf.out.bk.cell 3
  have cf4 := Bf.out.bk.cell 4
  have cf5 := Bf.out.bk.cell 5
  have cf6 := Bf.out.bk.cell 6
  have cf7 := Bf.out.bk.cell 7
  have cf8 := Bf.out.bk.cell 8
  have lf := Bf.out.bk.lt
  simp [FrAt.cells] at cf0 cf1 cf2 cf3 cf4 cf5 cf6 cf7 cf8
  go_upto_region 14 with fail
  have hf := (Fr.refl [] w18).drew
  replace Bf := Lib.hid (Bf.out.fr0 hf)
  replace HF := Lib.hid (HF.out.trans hf (by simp))
  clear hf
  refine wp_region_held_drew (S := fun W => W.cell? ⟨gf, 0, none⟩ = some (.int .i64 yW) ∧ W.cell? ⟨gf, 1, none⟩ = some (.int .i64 yH) ∧ W.cell? ⟨gf, 2, none⟩ = some (.slice yA yn yc) ∧ W.cell? ⟨gf, 3, none⟩ = some (.int .i64 uW) ∧ W.cell? ⟨gf, 4, none⟩ = some (.int .i64 uH) ∧ W.cell? ⟨gf, 5, none⟩ = some (.slice uA un uc) ∧ W.cell? ⟨gf, 6, none⟩ = some (.int .i64 vW) ∧ W.cell? ⟨gf, 7, none⟩ = some (.int .i64 vH) ∧ W.cell? ⟨gf, 8, none⟩ = some (.slice vA vn vc)) (by kernel_rfl) ?_ (fun hHeld => ?_)
  · (first | exact ⟨m0, m1, m2, m3, m4, m5, m6, m7, m8⟩ | exact ⟨l0, l1, l2, l3, l4, l5, l6, l7, l8⟩ | exact ⟨k0, k1, k2, k3, k4, k5, k6, k7, k8⟩ | exact ⟨cf0, cf1, cf2, cf3, cf4, cf5, cf6, cf7, cf8⟩)
  refine wpAnyH_ready (rs := [0]) (by kernel_rfl) (by simp) ?_
  refine AllReadyH_pick rfl (fun K hK => ?_) (AllReadyH.nil)
  go_simp
  refine (HA.out _).mono ?_
  rintro e w19 ⟨rfl, hf⟩
  replace Bf := Lib.hid (Bf.out.fr0 hf)
  replace HF := Lib.hid (HF.out.trans hf (by simp))
  clear hf
  have k0 := Bf.out.bk.cell 0
  have k1 := Bf.out.bk.cell 1
  have k2 := Bf.out.bk.cell 2
  have k3 := Bf.out.bk.cell 3
  have k4 := Bf.out.bk.cell 4
  have k5 := Bf.out.bk.cell 5
  have k6 := Bf.out.bk.cell 6
  have k7 := Bf.out.bk.cell 7
  have k8 := Bf.out.bk.cell 8
  simp [FrAt.cells] at k0 k1 k2 k3 k4 k5 k6 k7 k8
  go_wp2_with fail
  refine hK.out _ _ ?_ (fun hHeld => ?_)
  · (first | exact ⟨m0, m1, m2, m3, m4, m5, m6, m7, m8⟩ | exact ⟨l0, l1, l2, l3, l4, l5, l6, l7, l8⟩ | exact ⟨k0, k1, k2, k3, k4, k5, k6, k7, k8⟩ | exact ⟨cf0, cf1, cf2, cf3, cf4, cf5, cf6, cf7, cf8⟩)
  clear hK K
  (try simp only [Act.put, List.setIfInBounds_toArray, List.set_cons_zero, List.set_cons_succ])
  refine wpAnyH_pick 1 (v := ?_) rfl (by kernel_rfl) (by kernel_rfl) (by kernel_rfl) (fun _ _ _ h => h) (by assumption) (by rfl) ?_ ?_
  rotate_left
  · (intro w hSw; (try dsimp only at hSw); go_simp) <;> (with_reducible rfl)
  (try simp only [Act.put, List.setIfInBounds_toArray, List.set_cons_zero, List.set_cons_succ])
  refine wpAnyH_pick 2 (v := ?_) rfl (by kernel_rfl) (by kernel_rfl) (by kernel_rfl) (fun _ _ _ h => h) (by assumption) (by rfl) ?_ ?_
  rotate_left
  · (intro w hSw; (try dsimp only at hSw); go_simp) <;> (with_reducible rfl)
  (try simp only [Act.put, List.setIfInBounds_toArray, List.set_cons_zero, List.set_cons_succ])
  refine wpAnyH_pick 3 (v := ?_) rfl (by kernel_rfl) (by kernel_rfl) (by kernel_rfl) (fun _ _ _ h => h) (by assumption) (by rfl) ?_ ?_
  rotate_left
  · (intro w hSw; (try dsimp only at hSw); go_simp) <;> (with_reducible rfl)
  (try simp only [Act.put, List.setIfInBounds_toArray, List.set_cons_zero, List.set_cons_succ])
  refine wpAnyH_pick 4 (v := ?_) rfl (by kernel_rfl) (by kernel_rfl) (by kernel_rfl) (fun _ _ _ h => h) (by assumption) (by rfl) ?_ ?_
  rotate_left
  · (intro w hSw; (try dsimp only at hSw); go_simp) <;> (with_reducible rfl)
  (try simp only [Act.put, List.setIfInBounds_toArray, List.set_cons_zero, List.set_cons_succ])
  refine wpAnyH_pick 5 (v := ?_) rfl (by kernel_rfl) (by kernel_rfl) (by kernel_rfl) (fun _ _ _ h => h) (by assumption) (by rfl) ?_ ?_
  rotate_left
  · (intro w hSw; (try dsimp only at hSw); go_simp) <;> (with_reducible rfl)
  (try simp only [Act.put, List.setIfInBounds_toArray, List.set_cons_zero, List.set_cons_succ])
  refine wpAnyH_pick 6 (v := ?_) rfl (by kernel_rfl) (by kernel_rfl) (by kernel_rfl) (fun _ _ _ h => h) (by assumption) (by rfl) ?_ ?_
  rotate_left
  · (intro w hSw; (try dsimp only at hSw); go_simp) <;> (with_reducible rfl)
  (try simp only [Act.put, List.setIfInBounds_toArray, List.set_cons_zero, List.set_cons_succ])
  refine wpAnyH_pick 7 (v := ?_) rfl (by kernel_rfl) (by kernel_rfl) (by kernel_rfl) (fun _ _ _ h => h) (by assumption) (by rfl) ?_ ?_
  rotate_left
  · (intro w hSw; (try dsimp only at hSw); go_simp) <;> (with_reducible rfl)
  (try simp only [Act.put, List.setIfInBounds_toArray, List.set_cons_zero, List.set_cons_succ])
  refine wpAnyH_pick 8 (v := ?_) rfl (by kernel_rfl) (by kernel_rfl) (by kernel_rfl) (fun _ _ _ h => h) (by assumption) (by rfl) ?_ ?_
  rotate_left
  · (intro w hSw; (try dsimp only at hSw); go_simp) <;> (with_reducible rfl)
  (try simp only [Act.put, List.setIfInBounds_toArray, List.set_cons_zero, List.set_cons_succ])
  refine wpAnyH_pick 9 (v := ?_) rfl (by kernel_rfl) (by kernel_rfl) (by kernel_rfl) (fun _ _ _ h => h) (by assumption) (by rfl) ?_ ?_
  rotate_left
  · (intro w hSw; (try dsimp only at hSw); go_simp) <;> (with_reducible rfl)
  (try simp only [Act.put, List.setIfInBounds_toArray, List.set_cons_zero, List.set_cons_succ])
  refine wpAnyH_pick 10 (v := ?_) rfl (by kernel_rfl) (by kernel_rfl) (by kernel_rfl) (fun _ _ _ h => h) (by assumption) (by rfl) ?_ ?_
  rotate_left
  · (intro w hSw; (try dsimp only at hSw); go_simp) <;> (with_reducible rfl)
  (try simp only [Act.put, List.setIfInBounds_toArray, List.set_cons_zero, List.set_cons_succ])
  refine wpAnyH_pick 11 (v := ?_) rfl (by kernel_rfl) (by kernel_rfl) (by kernel_rfl) (fun _ _ _ h => h) (by assumption) (by rfl) ?_ ?_
  rotate_left
  · (intro w hSw; (try dsimp only at hSw); go_simp) <;> (with_reducible rfl)
  (try simp only [Act.put, List.setIfInBounds_toArray, List.set_cons_zero, List.set_cons_succ])
  refine wpAnyH_pick 12 (v := ?_) rfl (by kernel_rfl) (by kernel_rfl) (by kernel_rfl) (fun _ _ _ h => h) (by assumption) (by rfl) ?_ ?_
  rotate_left
  · (intro w hSw; (try dsimp only at hSw); go_simp) <;> (with_reducible rfl)
  (try simp only [Act.put, List.setIfInBounds_toArray, List.set_cons_zero, List.set_cons_succ])
  refine wpAnyH_pick 13 (v := ?_) rfl (by kernel_rfl) (by kernel_rfl) (by kernel_rfl) (fun _ _ _ h => h) (by assumption) (by rfl) ?_ ?_
  rotate_left
  · (intro w hSw; (try dsimp only at hSw); go_simp) <;> (with_reducible rfl)
  (try simp only [Act.put, List.setIfInBounds_toArray, List.set_cons_zero, List.set_cons_succ])
  refine wpAnyH_pick 14 (v := ?_) rfl (by kernel_rfl) (by kernel_rfl) (by kernel_rfl) (fun _ _ _ h => h) (by assumption) (by rfl) ?_ ?_
  rotate_left
  · (intro w hSw; (try dsimp only at hSw); go_simp) <;> (with_reducible rfl)
  (try simp only [Act.put, List.setIfInBounds_toArray, List.set_cons_zero, List.set_cons_succ])
  refine wpAnyH_pick 15 (v := ?_) rfl (by kernel_rfl) (by kernel_rfl) (by kernel_rfl) (fun _ _ _ h => h) (by assumption) (by rfl) ?_ ?_
  rotate_left
  · (intro w hSw; (try dsimp only at hSw); go_simp) <;> (with_reducible rfl)
  (try simp only [Act.put, List.setIfInBounds_toArray, List.set_cons_zero, List.set_cons_succ])
  refine wpAnyH_pick 16 (v := ?_) rfl (by kernel_rfl) (by kernel_rfl) (by kernel_rfl) (fun _ _ _ h => h) (by assumption) (by rfl) ?_ ?_
  rotate_left
  · (intro w hSw; (try dsimp only at hSw); go_simp) <;> (with_reducible rfl)
  (try simp only [Act.put, List.setIfInBounds_toArray, List.set_cons_zero, List.set_cons_succ])
  refine wpAnyH_pick 17 (v := ?_) rfl (by kernel_rfl) (by kernel_rfl) (by kernel_rfl) (fun _ _ _ h => h) (by assumption) (by rfl) ?_ ?_
  rotate_left
  · (intro w hSw; (try dsimp only at hSw); go_simp) <;> (with_reducible rfl)
  (try simp only [Act.put, List.setIfInBounds_toArray, List.set_cons_zero, List.set_cons_succ])
  refine wpAnyH_pick 18 (v := ?_) rfl (by kernel_rfl) (by kernel_rfl) (by kernel_rfl) (fun _ _ _ h => h) (by assumption) (by rfl) ?_ ?_
  rotate_left
  · (intro w hSw; (try dsimp only at hSw); go_simp) <;> (with_reducible rfl)
  (try simp only [Act.put, List.setIfInBounds_toArray, List.set_cons_zero, List.set_cons_succ])
  refine wpAnyH_pick 19 (v := ?_) rfl (by kernel_rfl) (by kernel_rfl) (by kernel_rfl) (fun _ _ _ h => h) (by assumption) (by rfl) ?_ ?_
  rotate_left
  · (intro w hSw; (try dsimp only at hSw); go_simp) <;> (with_reducible rfl)
  (try simp only [Act.put, List.setIfInBounds_toArray, List.set_cons_zero, List.set_cons_succ])
  refine wpAnyH_pick 20 (v := ?_) rfl (by kernel_rfl) (by kernel_rfl) (by kernel_rfl) (fun _ _ _ h => h) (by assumption) (by rfl) ?_ ?_
  rotate_left
  · (intro w hSw; (try dsimp only at hSw); go_simp) <;> (with_reducible rfl)
  (try simp only [Act.put, List.setIfInBounds_toArray, List.set_cons_zero, List.set_cons_succ])
  refine wpAnyH_pick 21 (v := ?_) rfl (by kernel_rfl) (by kernel_rfl) (by kernel_rfl) (fun _ _ _ h => h) (by assumption) (by rfl) ?_ ?_
  rotate_left
  · (intro w hSw; (try dsimp only at hSw); go_simp) <;> (with_reducible rfl)
  (try simp only [Act.put, List.setIfInBounds_toArray, List.set_cons_zero, List.set_cons_succ])
  refine wpAnyH_pick 22 (v := ?_) rfl (by kernel_rfl) (by kernel_rfl) (by kernel_rfl) (fun _ _ _ h => h) (by assumption) (by rfl) ?_ ?_
  rotate_left
  · (intro w hSw; (try dsimp only at hSw); go_simp) <;> (with_reducible rfl)
  (try simp only [Act.put, List.setIfInBounds_toArray, List.set_cons_zero, List.set_cons_succ])
  refine wpAnyH_pick 23 (v := ?_) rfl (by kernel_rfl) (by kernel_rfl) (by kernel_rfl) (fun _ _ _ h => h) (by assumption) (by rfl) ?_ ?_
  rotate_left
  · (intro w hSw; (try dsimp only at hSw); go_simp) <;> (with_reducible rfl)
  (try simp only [Act.put, List.setIfInBounds_toArray, List.set_cons_zero, List.set_cons_succ])
  refine wpAnyH_pick 24 (v := ?_) rfl (by kernel_rfl) (by kernel_rfl) (by kernel_rfl) (fun _ _ _ h => h) (by assumption) (by rfl) ?_ ?_
  rotate_left
  · (intro w hSw; (try dsimp only at hSw); go_simp) <;> (with_reducible rfl)
  (try simp only [Act.put, List.setIfInBounds_toArray, List.set_cons_zero, List.set_cons_succ])
  refine wpAnyH_pick 25 (v := ?_) rfl (by kernel_rfl) (by kernel_rfl) (by kernel_rfl) (fun _ _ _ h => h) (by assumption) (by rfl) ?_ ?_
  rotate_left
  · (intro w hSw; (try dsimp only at hSw); go_simp) <;> (with_reducible rfl)
  (try simp only [Act.put, List.setIfInBounds_toArray, List.set_cons_zero, List.set_cons_succ])
  refine wpAnyH_pick 26 (v := ?_) rfl (by kernel_rfl) (by kernel_rfl) (by kernel_rfl) (fun _ _ _ h => h) (by assumption) (by rfl) ?_ ?_
  rotate_left
  · (intro w hSw; (try dsimp only at hSw); go_simp) <;> (with_reducible rfl)
  (try simp only [Act.put, List.setIfInBounds_toArray, List.set_cons_zero, List.set_cons_succ])
  refine wpAnyH_pick 27 (v := ?_) rfl (by kernel_rfl) (by kernel_rfl) (by kernel_rfl) (fun _ _ _ h => h) (by assumption) (by rfl) ?_ ?_
  rotate_left
  · (intro w hSw; (try dsimp only at hSw); go_simp) <;> (with_reducible rfl)
  (try simp only [Act.put, List.setIfInBounds_toArray, List.set_cons_zero, List.set_cons_succ])
  refine wpAnyH_pick 28 (v := ?_) rfl (by kernel_rfl) (by kernel_rfl) (by kernel_rfl) (fun _ _ _ h => h) (by assumption) (by rfl) ?_ ?_
  rotate_left
  · (intro w hSw; (try dsimp only at hSw); go_simp) <;> (with_reducible rfl)
  (try simp only [Act.put, List.setIfInBounds_toArray, List.set_cons_zero, List.set_cons_succ])
  refine wpAnyH_pick 30 (v := ?_) rfl (by kernel_rfl) (by kernel_rfl) (by kernel_rfl) (fun _ _ _ h => h) (by assumption) (by rfl) ?_ ?_
  rotate_left
  · (intro w hSw; (try dsimp only at hSw); go_simp) <;> (with_reducible rfl)
  (try simp only [Act.put, List.setIfInBounds_toArray, List.set_cons_zero, List.set_cons_succ])
  refine wpAnyH_ready (rs := [29]) (by kernel_rfl) (by simp) ?_
  refine AllReadyH_pick rfl (fun K hK => ?_) (AllReadyH.nil)
  go_simp
  refine (Z.whole _ _ _ _ _ Bf.out.has S3.out).mono ?_
  rintro e w20 ⟨rfl, hf⟩
  replace Bf := Lib.hid (Bf.out.fr0 hf)
  replace HF := Lib.hid (HF.out.trans hf (by simp))
  clear hf
  have l0 := Bf.out.bk.cell 0
  have l1 := Bf.out.bk.cell 1
  have l2 := Bf.out.bk.cell 2
  have l3 := Bf.out.bk.cell 3
  have l4 := Bf.out.bk.cell 4
  have l5 := Bf.out.bk.cell 5
  have l6 := Bf.out.bk.cell 6
  have l7 := Bf.out.bk.cell 7
  have l8 := Bf.out.bk.cell 8
  simp [FrAt.cells] at l0 l1 l2 l3 l4 l5 l6 l7 l8
  go_wp2_with fail
  refine hK.out _ _ ?_ (fun hHeld => ?_)
  · (first | exact ⟨m0, m1, m2, m3, m4, m5, m6, m7, m8⟩ | exact ⟨l0, l1, l2, l3, l4, l5, l6, l7, l8⟩ | exact ⟨k0, k1, k2, k3, k4, k5, k6, k7, k8⟩ | exact ⟨cf0, cf1, cf2, cf3, cf4, cf5, cf6, cf7, cf8⟩)
  clear hK K
  (try simp only [Act.put, List.setIfInBounds_toArray, List.set_cons_zero, List.set_cons_succ])
  refine wpAnyH_ready (rs := [31]) (by kernel_rfl) (by simp) ?_
  refine AllReadyH_pick rfl (fun K hK => ?_) (AllReadyH.nil)
  go_simp
  refine (ref6_whole _ _ _ _ _ Bf.out.has S3.out).mono ?_
  rintro e w21 ⟨rfl, hf⟩
  replace Bf := Lib.hid (Bf.out.fr0 hf)
  replace HF := Lib.hid (HF.out.trans hf (by simp))
  clear hf
  have m0 := Bf.out.bk.cell 0
  have m1 := Bf.out.bk.cell 1
  have m2 := Bf.out.bk.cell 2
  have m3 := Bf.out.bk.cell 3
  have m4 := Bf.out.bk.cell 4
  have m5 := Bf.out.bk.cell 5
  have m6 := Bf.out.bk.cell 6
  have m7 := Bf.out.bk.cell 7
  have m8 := Bf.out.bk.cell 8
  simp [FrAt.cells] at m0 m1 m2 m3 m4 m5 m6 m7 m8
  go_wp2_with fail
  refine hK.out _ _ ?_ (fun hHeld => ?_)
  · (first | exact ⟨m0, m1, m2, m3, m4, m5, m6, m7, m8⟩ | exact ⟨l0, l1, l2, l3, l4, l5, l6, l7, l8⟩ | exact ⟨k0, k1, k2, k3, k4, k5, k6, k7, k8⟩ | exact ⟨cf0, cf1, cf2, cf3, cf4, cf5, cf6, cf7, cf8⟩)
  clear hK K
  (try simp only [Act.put, List.setIfInBounds_toArray, List.set_cons_zero, List.set_cons_succ])
  refine wpAnyH_pick 32 (v := ?_) rfl (by kernel_rfl) (by kernel_rfl) (by kernel_rfl) (fun _ _ _ h => h) (by assumption) (by rfl) ?_ ?_
  rotate_left
  · (intro w hSw; (try dsimp only at hSw); go_simp) <;> (with_reducible rfl)
  (try simp only [Act.put, List.setIfInBounds_toArray, List.set_cons_zero, List.set_cons_succ])
  refine wpAnyH_pick 33 (v := ?_) rfl (by kernel_rfl) (by kernel_rfl) (by kernel_rfl) (fun _ _ _ h => h) (by assumption) (by rfl) ?_ ?_
  rotate_left
  · (intro w hSw; (try dsimp only at hSw); go_simp) <;> (with_reducible rfl)
  (try simp only [Act.put, List.setIfInBounds_toArray, List.set_cons_zero, List.set_cons_succ])
  refine wpAnyH_pick 34 (v := ?_) rfl (by kernel_rfl) (by kernel_rfl) (by kernel_rfl) (fun _ _ _ h => h) (by assumption) (by rfl) ?_ ?_
  rotate_left
  · (intro w hSw; (try dsimp only at hSw); go_simp) <;> (with_reducible rfl)
  (try simp only [Act.put, List.setIfInBounds_toArray, List.set_cons_zero, List.set_cons_succ])
  refine wpAnyH_done (by kernel_rfl) ?_ _
  skip
  go_wp2_with fail
  go_ret
  exact ⟨by simp, HF.out⟩
end Go.Proofs.Ytlcjlgdcleenlaa

/-
  The statement PlaneHalves out of the contracts.
-/
namespace Go.Proofs.Ytlcjlgdcleenlaa
open Go.ChangeShapes Go.WideShapes Go.ChangeAt Go.RowKit

set_option maxRecDepth 100000 in
theorem halves6_lifted (Z : PlaneSpec) (os : Os) (started : os.Started) (H : Type) (enc : TypeId × Value → H) :
    ReturnsInHanded {} Try.checked os 5 .any (Rows.planeHalvesSpec.pre6 enc Try.prog Try.f5 Rows.planeHalvesRow.domain false) (Rows.planeHalvesSpec.post enc Try.prog Try.f5 false true false false) := by
  refine law_lift (C := Try.checked) own_knob started (by kernel_rfl) Try.func5
    (ChangeSpec.witness6 (enc := enc) (C := Try.checked) false ⟨#[], #[.agg #[.int .i64 0, .int .i64 0, .slice none 0 0], .agg #[.int .i64 0, .int .i64 0, .slice none 0 0], .agg #[.int .i64 0, .int .i64 0, .slice none 0 0, .int .i64 0, .int .i64 0, .slice none 0 0, .int .i64 0, .int .i64 0, .slice none 0 0]], []⟩ 8 (by kernel_rfl) (by kernel_rfl) (by kernel_rfl) (by kernel_rfl))
    laid_out rfl rfl Try.underlying4 (of_decide_eq_true (by kernel_rfl)) ?_
  intro W base args ds before hval0 hA0 hlt
  have hval : ∀ (j : Nat) t v, Try.f5.params[j]? = some t → args[j]? = some v → Value.okWide Try.prog W .any base t v := hval0
  have hA : DataW.TrodAll enc Try.prog W 0 (fun _ => true) true Try.f5.params.toList args.toList ds before := hA0
  rw [Try.params5] at hA hval
  obtain ⟨v0, v1, v2, d0, d1, d2, p0, p1, p2, rfl, rfl, -, ⟨fuel0, h0⟩, ⟨fuel1, h1⟩, ⟨fuel2, h2⟩⟩ := trodAll_three hA
  obtain ⟨l0, rfl⟩ := okWide_structN Try.underlying25 (hval 0 _ _ rfl rfl)
  obtain ⟨a0, P0, e0, hp0, n0⟩ := open_plane h0
  have e0' : l0 = [.int .i64 a0.W, .int .i64 a0.H, .slice a0.A a0.n a0.c] := e0
  rw [e0']
  obtain ⟨l1, rfl⟩ := okWide_structN Try.underlying25 (hval 1 _ _ rfl rfl)
  obtain ⟨a1, P1, e1, hp1, n1⟩ := open_plane h1
  have e1' : l1 = [.int .i64 a1.W, .int .i64 a1.H, .slice a1.A a1.n a1.c] := e1
  rw [e1']
  obtain ⟨l2, rfl⟩ := okWide_structN Try.underlying30 (hval 2 _ _ rfl rfl)
  obtain ⟨y2, u2, z2, F2, e2, hf2, ny2, nu2, nv2⟩ := open_frame h2
  have e2' : l2 = (FrAt.cells y2 u2 z2).toList := e2
  rw [e2']
  exact ⟨rfl, (halves6_law Z a0 a1 y2 u2 z2 P0 P1 F2 W hp0 hp1 hf2 n0 n1 ny2 nu2 nv2).mono fun e W' ⟨he, hf⟩ => ⟨he, hf.below (by simp) (Nat.le_refl _)⟩⟩

theorem halves6_holds_of (Z : PlaneSpec) : Rows.PlaneHalvesSaid :=
  OpenClaim.holds_of_wide 5 Try.f5 rfl rfl rfl rfl rfl rfl rfl ⟨rfl, rfl, rfl, rfl, rfl⟩ rfl rfl rfl rfl rfl (by kernel_rfl) Try.func5 (by kernel_rfl)
    (of_decide_eq_true (by kernel_rfl)) (by unfold Func.isWrapper; first | (rw [if_pos (by decide +kernel)]; kernel_rfl) | (rw [if_neg (by decide +kernel)]; exact ⟨rfl, rfl⟩))
    (fun os started H enc _ => halves6_lifted Z os started H enc)
end Go.Proofs.Ytlcjlgdcleenlaa

/-
  The law PlaneHalves answers true whatever its input, and leaves its arguments as they were; no condition.
-/
namespace Go.Proofs.Ytlcjlgdcleenlaa
open Go.RowKit

theorem halves6_holds : Rows.PlaneHalvesSaid := halves6_holds_of planeI
#print axioms halves6_holds
end Go.Proofs.Ytlcjlgdcleenlaa
