/-
  The law PlaneApart answers true whatever its input, and leaves its arguments as they were; no condition.
-/
import Derived.Test.YtlcjlgdcleenlaaAll1
import Derived.Test.YtlcjlgdcleenlaaAll2
import Derived.Test.YtlcjlgdcleenlaaAll3
/-
  The law PlaneApart, out of the contracts.
-/
namespace Go.Proofs.Ytlcjlgdcleenlaa
open Go.RowKit

attribute [local go_sem] cv_rule

set_option maxRecDepth 20000 in
set_option maxHeartbeats 4000000 in
theorem apart6_law (Z : PlaneSpec) (a : FrAt) (P : Pl) (bA : Option Addr) (bn bc : Nat) (bs : List UInt8) (dA : Option Addr) (dn dc : Nat) (ds : List UInt8) (w : World) (hp : a.has w P)
    (hb : Src w (.slice bA bn bc) (bs.map B8)) (hbn : bn = bs.length) (hd : Src w (.slice dA dn dc) (ds.map B8)) (hdn : dn = ds.length)
    (n1 : P.pix.length ≤ 9223372036854775807) (n2 : bn ≤ 9223372036854775807) (n3 : dn ≤ 9223372036854775807) :
    Calls Try.prog 7 #[a.val, .slice bA bn bc, .slice dA dn dc] w fun e w' => e = .returned (.bool true) ∧ Fr [] w w' := by
  have HA := Lib.hid fun W => alive6_any Z W
  have HN := Lib.hid n1
  have HLb := Lib.hid hbn; have HLd := Lib.hid hdn
  obtain ⟨w1, ga, ewa, ega, ba, na, Fa⟩ := hp.put (Fr.refl [] w)
  have Ba := Lib.hid ba; have HF := Lib.hid Fa; have Hb := Lib.hid (hb.fr0 Fa); have Hd := Lib.hid (hd.fr0 Fa)
  have HE := Lib.hid (And.intro hp.1 (And.intro hp.2.1 hp.2.2.1))
  clear ba na Fa hp hb hd n1 hbn hdn
  obtain ⟨aW, aH, aA, an, ac⟩ := a
  simp only [FrAt.val] at ewa ⊢
  go_enter Try.func7, Try.ntmps7
  have ca0 := Ba.out.bk.cell 0
  have ca1 := Ba.out.bk.cell 1
  have ca2 := Ba.out.bk.cell 2
  have la := Ba.out.bk.lt
  simp at ca0 ca1 ca2
  go_wp2_with fail
  clear ewa ega
  refine (law6_fits _ _ _ Ba.out.has HN.out).mono ?_
  rintro e w2 ⟨rfl, hf⟩
  replace Ba := Lib.hid (Ba.out.fr0 hf)
  replace Hb := Lib.hid (Hb.out.fr0 hf)
  replace Hd := Lib.hid (Hd.out.fr0 hf)
  replace HF := Lib.hid (HF.out.trans hf (by simp))
  clear hf
  clear ca0 ca1 ca2 la
  have ca0 := Ba.out.bk.cell 0
  have ca1 := Ba.out.bk.cell 1
  have ca2 := Ba.out.bk.cell 2
  have la := Ba.out.bk.lt
  simp at ca0 ca1 ca2
  cases f1 : P.fits
  all_goals go_wp2_with fail
  all_goals first
    | (refine (HA.out _).mono ?_; rintro e w1 ⟨rfl, hf⟩; replace HF := Lib.hid (HF.out.trans hf (by simp)); clear hf; go_wp2_with fail; go_ret; exact ⟨rfl, HF.out⟩)
    | skip
  have S1 := Lib.hid (Pl.fits.small f1)
  clear f1
  refine (Z.right _ _ _ Ba.out.has S1.out).mono ?_
  rintro e w3 ⟨rfl, hf⟩
  replace Ba := Lib.hid (Ba.out.fr0 hf)
  replace Hb := Lib.hid (Hb.out.fr0 hf)
  replace Hd := Lib.hid (Hd.out.fr0 hf)
  replace HF := Lib.hid (HF.out.trans hf (by simp))
  clear hf
  clear ca0 ca1 ca2 la
  have ca0 := Ba.out.bk.cell 0
  have ca1 := Ba.out.bk.cell 1
  have ca2 := Ba.out.bk.cell 2
  have la := Ba.out.bk.lt
  simp at ca0 ca1 ca2
  have HFa := HF
  have hasP : (⟨aW, aH, bA, bn, bc⟩ : FrAt).has w3 ⟨P.w, P.h, bs⟩ := ⟨HE.out.1, HE.out.2.1, HLb.out, Hb.out⟩
  obtain ⟨w4, gp, ewp, egp, bp, np, Fp⟩ := hasP.put HF.out
  have hasQ : (⟨aW, aH, dA, dn, dc⟩ : FrAt).has w4 ⟨P.w, P.h, ds⟩ := ⟨HE.out.1, HE.out.2.1, HLd.out, Hd.out.fr0 np⟩
  obtain ⟨w5, gq, ewq, egq, bq, nq, Fq⟩ := hasQ.put Fp
  simp only at ewp ewq
  have Bp := Lib.hid (bp.fr0 nq); have Bq := Lib.hid bq
  have hqq := np.trans nq (by simp)
  have f0 := (Ba.out.fr0 np).bk.cell 0
  have f1 := (Ba.out.fr0 np).bk.cell 1
  have f2' := (Ba.out.fr0 np).bk.cell 2
  have lf := (Ba.out.fr0 np).bk.lt
  simp at f0 f1 f2'
  replace Ba := Lib.hid (Ba.out.fr0 hqq); replace Hb := Lib.hid (Hb.out.fr0 hqq); replace Hd := Lib.hid (Hd.out.fr0 hqq); replace HF := Lib.hid Fq
  clear hasP hasQ bp np Fp bq nq Fq hqq
  have HBc := Lib.hid (And.intro Ba.out.bk (And.intro Bp.out.bk Bq.out.bk))
  have cp0 := Bp.out.bk.cell 0
  have cp1 := Bp.out.bk.cell 1
  have cp2 := Bp.out.bk.cell 2
  have lp := Bp.out.bk.lt
  simp at cp0 cp1 cp2
  have cq0 := Bq.out.bk.cell 0
  have cq1 := Bq.out.bk.cell 1
  have cq2 := Bq.out.bk.cell 2
  have lq := Bq.out.bk.lt
  simp at cq0 cq1 cq2
  have e0 := Ba.out.bk.cell 0
  have e1 := Ba.out.bk.cell 1
  have e2 := Ba.out.bk.cell 2
  simp at e0 e1 e2
  have le := Ba.out.bk.lt
  cases f2 : P.ok
  all_goals go_wp2_with fail
  all_goals first
    | (refine (HA.out _).mono ?_; rintro e w1 ⟨rfl, hf⟩; replace HF := Lib.hid (HFa.out.trans hf (by simp)); clear hf; go_wp2_with fail; go_ret; exact ⟨rfl, HF.out⟩)
    | skip
  have hl1 : (bn : Int) = (an : Int) := ‹(bn : Int) = (an : Int)›
  have hl2 : (dn : Int) = (an : Int) := by simpa using ‹((dn : Int) != (an : Int)) = false›
  have L1 : Hid (bs.length = P.pix.length ∧ ds.length = P.pix.length) := Lib.hid (by have := HLb.out; have := HLd.out; have := HE.out.2.2; omega)
  have K0 := Lib.hid f2
  have K1 : Hid ((⟨P.w, P.h, bs⟩ : Pl).ok = true) := Lib.hid (Pl.ok_iff.2 ⟨(Pl.ok_iff.1 f2).1, (Pl.ok_iff.1 f2).2.1, by show (bs.length : Int) = _; rw [L1.out.1]; exact (Pl.ok_iff.1 f2).2.2⟩)
  have K2 : Hid ((⟨P.w, P.h, ds⟩ : Pl).ok = true) := Lib.hid (Pl.ok_iff.2 ⟨(Pl.ok_iff.1 f2).1, (Pl.ok_iff.1 f2).2.1, by show (ds.length : Int) = _; rw [L1.out.2]; exact (Pl.ok_iff.1 f2).2.2⟩)
  have S1b : Hid ((⟨P.w, P.h, bs⟩ : Pl).small) := Lib.hid (by have := S1.out; unfold Pl.small at this ⊢; rw [L1.out.1]; exact this)
  have S1d : Hid ((⟨P.w, P.h, ds⟩ : Pl).small) := Lib.hid (by have := S1.out; unfold Pl.small at this ⊢; rw [L1.out.2]; exact this)
  clear hl1 hl2 f2 f0 f1 f2' lf ca0 ca1 ca2 la ewp egp ewq egq HBc HFa
  have TF : ∀ (A B : Pl), A.ok = true → B.ok = true → A.small → B.small → A.w = B.w → A.h = B.h → ∀ W (a b : FrAt), a.has W A → b.has W B → Calls Try.prog 23 #[a.val, b.val] W fun e w' => e = .returned (.tuple #[.int .i64 ((gaps A.pix B.pix : Nat) : Int), .int .i64 0]) ∧ Fr [] W w' := by
    intro A B kA kB sA sB hw hh W a b h k
    have := Z.far W a b A B h k sA sB
    have e : A.far B = (((gaps A.pix B.pix : Nat) : Int), 0) := by unfold Pl.far; rw [kA, kB, hw, hh]; simp
    rw [e] at this
    exact this
  obtain ⟨X, eX⟩ : ∃ X, X = gaps P.pix bs := ⟨_, rfl⟩
  obtain ⟨Y, eY⟩ : ∃ Y, Y = gaps P.pix ds := ⟨_, rfl⟩
  obtain ⟨V, eV⟩ : ∃ V, V = gaps ds bs := ⟨_, rfl⟩
  have T1 := Lib.hid (TF P ⟨P.w, P.h, bs⟩ K0.out K1.out S1.out S1b.out rfl rfl)
  have T2 := Lib.hid (TF ⟨P.w, P.h, bs⟩ P K1.out K0.out S1b.out S1.out rfl rfl)
  have T3 := Lib.hid (TF P ⟨P.w, P.h, ds⟩ K0.out K2.out S1.out S1d.out rfl rfl)
  have T4 := Lib.hid (TF ⟨P.w, P.h, ds⟩ ⟨P.w, P.h, bs⟩ K2.out K1.out S1d.out S1b.out rfl rfl)
  rw [gaps_comm bs P.pix] at T2
  rw [← eX] at T1 T2
  rw [← eY] at T3
  rw [← eV] at T4
  have hX : X ≤ 5100000 := by have := gaps_le P.pix bs; have := S1.out; unfold Pl.small at this; omega
  have hY : Y ≤ 5100000 := by have := gaps_le P.pix ds; have := S1.out; unfold Pl.small at this; omega
  have hV : V ≤ 5100000 := by have := gaps_le ds bs; have := S1d.out; unfold Pl.small at this; simp only at this; omega
  have hT : X ≤ Y + V := by have := gaps_tri P.pix bs ds L1.out.1.symm (by rw [L1.out.1, L1.out.2]); omega
  have hZ : decide ((X : Int) = 0) = decide (P.pix = bs) := by have := gaps_zero P.pix bs L1.out.1.symm; rw [← eX] at this; simp [this]
  have EX := Lib.hid eX; have HZ := Lib.hid hZ; have HV := Lib.hid (And.intro hX (And.intro hY (And.intro hV hT)))
  clear eX eY eV TF hX hY hV hT hZ
  refine (T1.out _ _ _ Ba.out.has Bp.out.has).mono ?_
  rintro e w6 ⟨rfl, hf⟩
  replace Ba := Lib.hid (Ba.out.fr0 hf)
  replace Hb := Lib.hid (Hb.out.fr0 hf)
  replace Hd := Lib.hid (Hd.out.fr0 hf)
  replace Bp := Lib.hid (Bp.out.fr0 hf)
  replace Bq := Lib.hid (Bq.out.fr0 hf)
  replace HF := Lib.hid (HF.out.trans hf (by simp))
  clear hf
  clear e0 e1 e2 le
  clear cp0 cp1 cp2 lp cq0 cq1 cq2 lq
  have ca0 := Ba.out.bk.cell 0
  have ca1 := Ba.out.bk.cell 1
  have ca2 := Ba.out.bk.cell 2
  have la := Ba.out.bk.lt
  simp at ca0 ca1 ca2
  have cp0 := Bp.out.bk.cell 0
  have cp1 := Bp.out.bk.cell 1
  have cp2 := Bp.out.bk.cell 2
  have lp := Bp.out.bk.lt
  simp at cp0 cp1 cp2
  go_wp2_with fail
  refine (T2.out _ _ _ Bp.out.has Ba.out.has).mono ?_
  rintro e w7 ⟨rfl, hf⟩
  replace Ba := Lib.hid (Ba.out.fr0 hf)
  replace Hb := Lib.hid (Hb.out.fr0 hf)
  replace Hd := Lib.hid (Hd.out.fr0 hf)
  replace Bp := Lib.hid (Bp.out.fr0 hf)
  replace Bq := Lib.hid (Bq.out.fr0 hf)
  replace HF := Lib.hid (HF.out.trans hf (by simp))
  clear hf
  clear ca0 ca1 ca2 la cp0 cp1 cp2 lp
  have ca0 := Ba.out.bk.cell 0
  have ca1 := Ba.out.bk.cell 1
  have ca2 := Ba.out.bk.cell 2
  have la := Ba.out.bk.lt
  simp at ca0 ca1 ca2
  have cq0 := Bq.out.bk.cell 0
  have cq1 := Bq.out.bk.cell 1
  have cq2 := Bq.out.bk.cell 2
  have lq := Bq.out.bk.lt
  simp at cq0 cq1 cq2
  go_wp2_with fail
  refine (T3.out _ _ _ Ba.out.has Bq.out.has).mono ?_
  rintro e w8 ⟨rfl, hf⟩
  replace Ba := Lib.hid (Ba.out.fr0 hf)
  replace Hb := Lib.hid (Hb.out.fr0 hf)
  replace Hd := Lib.hid (Hd.out.fr0 hf)
  replace Bp := Lib.hid (Bp.out.fr0 hf)
  replace Bq := Lib.hid (Bq.out.fr0 hf)
  replace HF := Lib.hid (HF.out.trans hf (by simp))
  clear hf
  clear ca0 ca1 ca2 la cq0 cq1 cq2 lq
  have cp0 := Bp.out.bk.cell 0
  have cp1 := Bp.out.bk.cell 1
  have cp2 := Bp.out.bk.cell 2
  have lp := Bp.out.bk.lt
  simp at cp0 cp1 cp2
  have cq0 := Bq.out.bk.cell 0
  have cq1 := Bq.out.bk.cell 1
  have cq2 := Bq.out.bk.cell 2
  have lq := Bq.out.bk.lt
  simp at cq0 cq1 cq2
  go_wp2_with fail
  refine (T4.out _ _ _ Bq.out.has Bp.out.has).mono ?_
  rintro e w9 ⟨rfl, hf⟩
  replace Ba := Lib.hid (Ba.out.fr0 hf)
  replace Hb := Lib.hid (Hb.out.fr0 hf)
  replace Hd := Lib.hid (Hd.out.fr0 hf)
  replace Bp := Lib.hid (Bp.out.fr0 hf)
  replace Bq := Lib.hid (Bq.out.fr0 hf)
  replace HF := Lib.hid (HF.out.trans hf (by simp))
  clear hf
  clear cp0 cp1 cp2 lp cq0 cq1 cq2 lq
  have ca0 := Ba.out.bk.cell 0
  have ca1 := Ba.out.bk.cell 1
  have ca2 := Ba.out.bk.cell 2
  have la := Ba.out.bk.lt
  simp at ca0 ca1 ca2
  obtain ⟨hX, hY, hV, hT⟩ := HV.out
  have s1 := run_cv Ba.out.has.2.2.2; have s2 := run_cv Hb.out
  have v1 : IntKind.i64.wrap ((Y : Int) + (V : Int)) = (Y : Int) + (V : Int) := IntWalk.i64_in _ (by omega)
  have hq : ((X : Int) == 0) = ((strOf P.pix).toList == (strOf bs).toList) := by rw [strOf_beq, ← HZ.out]; rfl
  go_wp2_with fail
  clear s1 s2 v1 hq hX hY hV hT T1 T2 T3 T4
  have okh : ∀ A : Pl, A.ok = true → A.w = P.w → A.h = P.h → A.even = P.even := fun A hA hw hh => by unfold Pl.even; rw [hA, K0.out, hw, hh]
  have eB : (⟨P.w, P.h, bs⟩ : Pl).even = P.even := okh _ K1.out rfl rfl
  clear okh
  by_cases hev : P.even = true
  · skip
    obtain ⟨P1, eP1⟩ : ∃ P1, P1 = P.half.1 := ⟨_, rfl⟩
    obtain ⟨P2, eP2⟩ : ∃ P2, P2 = (⟨P.w, P.h, bs⟩ : Pl).half.1 := ⟨_, rfl⟩
    have h5 : P.half = (P1, 0) := by rw [eP1]; unfold Pl.half; rw [if_pos hev]
    have h6 : (⟨P.w, P.h, bs⟩ : Pl).half = (P2, 0) := by rw [eP2]; unfold Pl.half; rw [if_pos (eB.trans hev)]
    have T5 : Hid (∀ W (a : FrAt), a.has W P → Calls Try.prog 21 #[a.val] W (PlPost W (P1, 0))) := Lib.hid fun W a h => by rw [← h5]; exact Z.half W a P h S1.out
    have T6 : Hid (∀ W (a : FrAt), a.has W ⟨P.w, P.h, bs⟩ → Calls Try.prog 21 #[a.val] W (PlPost W (P2, 0))) := Lib.hid fun W a h => by rw [← h6]; exact Z.half W a _ h S1b.out
    have HP1 := Lib.hid eP1; have HP2 := Lib.hid eP2; have HEV := Lib.hid hev
    clear eP1 eP2 h5 h6 hev eB
    clear ca0 ca1 ca2 la
    refine (T5.out _ _ Ba.out.has).mono ?_
    rintro e w10 ⟨s, rfl, hs, hf⟩
    obtain ⟨w11, gs, ew, eg, hbk, hn, hF⟩ := hs.put (HF.out.trans hf (by simp))
    have hqq := hf.trans hn (by simp)
    replace Ba := Lib.hid (Ba.out.fr0 hqq)
    replace Hb := Lib.hid (Hb.out.fr0 hqq)
    replace Hd := Lib.hid (Hd.out.fr0 hqq)
    replace Bp := Lib.hid (Bp.out.fr0 hqq)
    replace Bq := Lib.hid (Bq.out.fr0 hqq)
    have Bs := Lib.hid hbk; simp only at Bs; replace HF := Lib.hid hF
    clear hs hf hbk hn hF hqq
    obtain ⟨sW, sH, sA, sn, sc⟩ := s
    simp only [FrAt.val] at ew ⊢
    have cp0 := Bp.out.bk.cell 0
    have cp1 := Bp.out.bk.cell 1
    have cp2 := Bp.out.bk.cell 2
    have lp := Bp.out.bk.lt
    simp at cp0 cp1 cp2
    go_wp2_with fail
    try rw [ew]
    try rw [eg]
    clear ew eg
    clear cp0 cp1 cp2 lp
    refine (T6.out _ _ Bp.out.has).mono ?_
    rintro e w12 ⟨t, rfl, ht, hf⟩
    obtain ⟨w13, gt, ew, eg, hbk, hn, hF⟩ := ht.put (HF.out.trans hf (by simp))
    have hqq := hf.trans hn (by simp)
    replace Ba := Lib.hid (Ba.out.fr0 hqq)
    replace Hb := Lib.hid (Hb.out.fr0 hqq)
    replace Hd := Lib.hid (Hd.out.fr0 hqq)
    replace Bp := Lib.hid (Bp.out.fr0 hqq)
    replace Bq := Lib.hid (Bq.out.fr0 hqq)
    replace Bs := Lib.hid (Bs.out.fr0 hqq)
    have Bt := Lib.hid hbk; simp only at Bt; replace HF := Lib.hid hF
    clear ht hf hbk hn hF hqq
    obtain ⟨tW, tH, tA, tn, tc⟩ := t
    simp only [FrAt.val] at ew ⊢
    have cs0 := Bs.out.bk.cell 0
    have cs1 := Bs.out.bk.cell 1
    have cs2 := Bs.out.bk.cell 2
    have ls := Bs.out.bk.lt
    simp at cs0 cs1 cs2
    have ct0 := Bt.out.bk.cell 0
    have ct1 := Bt.out.bk.cell 1
    have ct2 := Bt.out.bk.cell 2
    have lt := Bt.out.bk.lt
    simp at ct0 ct1 ct2
    go_wp2_with fail
    try rw [ew]
    try rw [eg]
    clear ew eg
    have hP := half_facts HEV.out
    have hQ := half_facts (A := ⟨P.w, P.h, bs⟩) (by have : (⟨P.w, P.h, bs⟩ : Pl).even = P.even := by unfold Pl.even; rw [K1.out, K0.out]
                                                    rw [this]; exact HEV.out)
    rw [← HP1.out] at hP
    rw [← HP2.out] at hQ
    have hs1 : P1.small := by have := S1.out; unfold Pl.small at this ⊢; omega
    have hs2 : P2.small := by have := S1b.out; have h4 := hQ.2.2.2; unfold Pl.small at this ⊢; simp only at this h4; omega
    obtain ⟨N, eN⟩ : ∃ N, N = gaps P1.pix P2.pix := ⟨_, rfl⟩
    have T7 : Hid (∀ W (a b : FrAt), a.has W P1 → b.has W P2 → Calls Try.prog 23 #[a.val, b.val] W fun e w' => e = .returned (.tuple #[.int .i64 (N : Int), .int .i64 0]) ∧ Fr [] W w') := Lib.hid fun W a b h k => by
      have := Z.far W a b P1 P2 h k hs1 hs2
      have e : P1.far P2 = (((gaps P1.pix P2.pix : Nat) : Int), 0) := by unfold Pl.far; rw [hP.1, hQ.1, hP.2.1, hQ.2.1, hP.2.2.1, hQ.2.2.1]; simp
      rw [e, ← eN] at this
      exact this
    have hN4 := half_far (A := P) (B := ⟨P.w, P.h, bs⟩) HEV.out K1.out rfl rfl
    rw [← HP1.out, ← HP2.out, ← eN] at hN4
    have hNb : N ≤ 5100000 := by have := gaps_le P1.pix P2.pix; unfold Pl.small at hs1; omega
    have esn : sn = P1.pix.length := Bs.out.has.2.2.1
    have hN3 : 4 * N ≤ X + 3 * sn := by rw [EX.out, esn]; exact hN4
    have hsn : sn ≤ 20000 := by rw [esn]; exact hs1
    have HN3 := Lib.hid (And.intro hN3 (And.intro hNb hsn))
    clear hP hQ hs1 hs2 eN hN4 hNb esn hN3 hsn
    clear cs0 cs1 cs2 ls ct0 ct1 ct2 lt
    refine (T7.out _ _ _ Bs.out.has Bt.out.has).mono ?_
    rintro e w14 ⟨rfl, hf⟩
    replace Ba := Lib.hid (Ba.out.fr0 hf)
    replace Hb := Lib.hid (Hb.out.fr0 hf)
    replace Hd := Lib.hid (Hd.out.fr0 hf)
    replace Bp := Lib.hid (Bp.out.fr0 hf)
    replace Bq := Lib.hid (Bq.out.fr0 hf)
    replace Bs := Lib.hid (Bs.out.fr0 hf)
    replace Bt := Lib.hid (Bt.out.fr0 hf)
    replace HF := Lib.hid (HF.out.trans hf (by simp))
    clear hf
    go_wp2_with fail
    refine (HA.out _).mono ?_
    rintro e w15 ⟨rfl, hf⟩
    replace Ba := Lib.hid (Ba.out.fr0 hf)
    replace Hb := Lib.hid (Hb.out.fr0 hf)
    replace Hd := Lib.hid (Hd.out.fr0 hf)
    replace Bp := Lib.hid (Bp.out.fr0 hf)
    replace Bq := Lib.hid (Bq.out.fr0 hf)
    replace Bs := Lib.hid (Bs.out.fr0 hf)
    replace Bt := Lib.hid (Bt.out.fr0 hf)
    replace HF := Lib.hid (HF.out.trans hf (by simp))
    clear hf
    have cs0 := Bs.out.bk.cell 0
    have cs1 := Bs.out.bk.cell 1
    have cs2 := Bs.out.bk.cell 2
    have ls := Bs.out.bk.lt
    simp at cs0 cs1 cs2
    have hX := HV.out.1
    obtain ⟨hN3, hNb, hsn⟩ := HN3.out
    have v1 : IntKind.i64.wrap (4 * (N : Int)) = 4 * (N : Int) := IntWalk.i64_in _ (by omega)
    have v2 : IntKind.i64.wrap (3 * (sn : Int)) = 3 * (sn : Int) := IntWalk.i64_in _ (by omega)
    have v3 : IntKind.i64.wrap ((X : Int) + 3 * (sn : Int)) = (X : Int) + 3 * (sn : Int) := IntWalk.i64_in _ (by omega)
    have v4 : decide (4 * (N : Int) ≤ (X : Int) + 3 * (sn : Int)) = true := by simpa using (by omega : 4 * (N : Int) ≤ (X : Int) + 3 * (sn : Int))
    go_wp2_with fail
    go_ret
    exact ⟨by simp, HF.out⟩
  · skip
    have h5 : P.half = (plNone, 61) := by unfold Pl.half; rw [if_neg hev]
    have h6 : (⟨P.w, P.h, bs⟩ : Pl).half = (plNone, 61) := by unfold Pl.half; rw [if_neg (by rw [eB]; exact hev)]
    have T5 : Hid (∀ W (a : FrAt), a.has W P → Calls Try.prog 21 #[a.val] W (PlPost W (plNone, 61))) := Lib.hid fun W a h => by rw [← h5]; exact Z.half W a P h S1.out
    have T6 : Hid (∀ W (a : FrAt), a.has W ⟨P.w, P.h, bs⟩ → Calls Try.prog 21 #[a.val] W (PlPost W (plNone, 61))) := Lib.hid fun W a h => by rw [← h6]; exact Z.half W a _ h S1b.out
    have HEV := Lib.hid hev
    clear h5 h6 hev eB
    clear ca0 ca1 ca2 la
    refine (T5.out _ _ Ba.out.has).mono ?_
    rintro e w10 ⟨s, rfl, hs, hf⟩
    obtain ⟨w11, gs, ew, eg, hbk, hn, hF⟩ := hs.put (HF.out.trans hf (by simp))
    have hqq := hf.trans hn (by simp)
    replace Ba := Lib.hid (Ba.out.fr0 hqq)
    replace Hb := Lib.hid (Hb.out.fr0 hqq)
    replace Hd := Lib.hid (Hd.out.fr0 hqq)
    replace Bp := Lib.hid (Bp.out.fr0 hqq)
    replace Bq := Lib.hid (Bq.out.fr0 hqq)
    have Bs := Lib.hid hbk; simp only at Bs; replace HF := Lib.hid hF
    clear hs hf hbk hn hF hqq
    obtain ⟨sW, sH, sA, sn, sc⟩ := s
    simp only [FrAt.val] at ew ⊢
    have cp0 := Bp.out.bk.cell 0
    have cp1 := Bp.out.bk.cell 1
    have cp2 := Bp.out.bk.cell 2
    have lp := Bp.out.bk.lt
    simp at cp0 cp1 cp2
    go_wp2_with fail
    try rw [ew]
    try rw [eg]
    clear ew eg
    clear cp0 cp1 cp2 lp
    refine (T6.out _ _ Bp.out.has).mono ?_
    rintro e w12 ⟨t, rfl, ht, hf⟩
    obtain ⟨w13, gt, ew, eg, hbk, hn, hF⟩ := ht.put (HF.out.trans hf (by simp))
    have hqq := hf.trans hn (by simp)
    replace Ba := Lib.hid (Ba.out.fr0 hqq)
    replace Hb := Lib.hid (Hb.out.fr0 hqq)
    replace Hd := Lib.hid (Hd.out.fr0 hqq)
    replace Bp := Lib.hid (Bp.out.fr0 hqq)
    replace Bq := Lib.hid (Bq.out.fr0 hqq)
    replace Bs := Lib.hid (Bs.out.fr0 hqq)
    have Bt := Lib.hid hbk; simp only at Bt; replace HF := Lib.hid hF
    clear ht hf hbk hn hF hqq
    obtain ⟨tW, tH, tA, tn, tc⟩ := t
    simp only [FrAt.val] at ew ⊢
    go_wp2_with fail
    try rw [ew]
    try rw [eg]
    clear ew eg
    refine (HA.out _).mono ?_
    rintro e w14 ⟨rfl, hf⟩
    replace Ba := Lib.hid (Ba.out.fr0 hf)
    replace Hb := Lib.hid (Hb.out.fr0 hf)
    replace Hd := Lib.hid (Hd.out.fr0 hf)
    replace Bp := Lib.hid (Bp.out.fr0 hf)
    replace Bq := Lib.hid (Bq.out.fr0 hf)
    replace Bs := Lib.hid (Bs.out.fr0 hf)
    replace Bt := Lib.hid (Bt.out.fr0 hf)
    replace HF := Lib.hid (HF.out.trans hf (by simp))
    clear hf
    have ca0 := Ba.out.bk.cell 0
    have ca1 := Ba.out.bk.cell 1
    have ca2 := Ba.out.bk.cell 2
    have la := Ba.out.bk.lt
    simp at ca0 ca1 ca2
    have hodd : (aW.tmod 2 == 1 || aH.tmod 2 == 1) = true := by
      have q := Pl.ok_iff.1 K0.out
      have hn := HEV.out
      unfold Pl.even at hn
      rw [K0.out] at hn
      simp at hn
      rw [HE.out.1, HE.out.2.1, Int.tmod_eq_emod_of_nonneg (by omega), Int.tmod_eq_emod_of_nonneg (by omega)]
      simp
      omega
    have HO := Lib.hid hodd
    clear hodd
    go_wp2_with fail
    all_goals go_ret
    all_goals first
      | exact ⟨congrArg (fun z => Ending.returned (Value.bool z)) HO.out, HF.out⟩
      | exact ⟨rfl, HF.out⟩
      | (refine ⟨?_, HF.out⟩; have := HO.out; simp_all; done)
end Go.Proofs.Ytlcjlgdcleenlaa

/-
  The statement PlaneApart out of the contracts.
-/
namespace Go.Proofs.Ytlcjlgdcleenlaa
open Go.ChangeShapes Go.WideShapes Go.ChangeAt Go.RowKit

set_option maxRecDepth 100000 in
theorem apart6_lifted (Z : PlaneSpec) (os : Os) (started : os.Started) (H : Type) (enc : TypeId × Value → H) :
    ReturnsInHanded {} Try.checked os 7 .any (Rows.planeApartSpec.pre6 enc Try.prog Try.f7 Rows.planeApartRow.domain false) (Rows.planeApartSpec.post enc Try.prog Try.f7 false true false false) := by
  refine law_lift (C := Try.checked) own_knob started (by kernel_rfl) Try.func7
    (ChangeSpec.witness6 (enc := enc) (C := Try.checked) false ⟨#[], #[.agg #[.int .i64 0, .int .i64 0, .slice none 0 0], .slice none 0 0, .slice none 0 0], []⟩ 8 (by kernel_rfl) (by kernel_rfl) (by kernel_rfl) (by kernel_rfl))
    laid_out rfl rfl Try.underlying4 (of_decide_eq_true (by kernel_rfl)) ?_
  intro W base args ds before hval0 hA0 hlt
  have hval : ∀ (j : Nat) t v, Try.f7.params[j]? = some t → args[j]? = some v → Value.okWide Try.prog W .any base t v := hval0
  have hA : DataW.TrodAll enc Try.prog W 0 (fun _ => true) true Try.f7.params.toList args.toList ds before := hA0
  rw [Try.params7] at hA hval
  obtain ⟨v0, v1, v2, d0, d1, d2, p0, p1, p2, rfl, rfl, -, ⟨fuel0, h0⟩, ⟨fuel1, h1⟩, ⟨fuel2, h2⟩⟩ := trodAll_three hA
  obtain ⟨l0, rfl⟩ := okWide_structN Try.underlying25 (hval 0 _ _ rfl rfl)
  obtain ⟨a0, P0, e0, hp0, n0⟩ := open_plane h0
  have e0' : l0 = [.int .i64 a0.W, .int .i64 a0.H, .slice a0.A a0.n a0.c] := e0
  rw [e0']
  obtain ⟨A1, l1, c1, rfl⟩ := okWide_slice Try.underlying23 (hval 1 _ _ rfl rfl)
  obtain ⟨S1, n1, k1, bs1, e1, hb1, hn1, hs1⟩ := open_bytes (v := .slice A1 l1 c1) h1
  rw [e1]
  simp only [maxLen] at hn1
  obtain ⟨A2, l2, c2, rfl⟩ := okWide_slice Try.underlying23 (hval 2 _ _ rfl rfl)
  obtain ⟨S2, n2, k2, bs2, e2, hb2, hn2, hs2⟩ := open_bytes (v := .slice A2 l2 c2) h2
  rw [e2]
  simp only [maxLen] at hn2
  exact ⟨rfl, (apart6_law Z a0 P0 S1 n1 k1 bs1 S2 n2 k2 bs2 W hp0 hs1 hb1.symm hs2 hb2.symm n0 hn1 hn2).mono fun e W' ⟨he, hf⟩ => ⟨he, hf.below (by simp) (Nat.le_refl _)⟩⟩

theorem apart6_holds_of (Z : PlaneSpec) : Rows.PlaneApartSaid :=
  OpenClaim.holds_of_wide 7 Try.f7 rfl rfl rfl rfl rfl rfl rfl ⟨rfl, rfl, rfl, rfl, rfl⟩ rfl rfl rfl rfl rfl (by kernel_rfl) Try.func7 (by kernel_rfl)
    (of_decide_eq_true (by kernel_rfl)) (by unfold Func.isWrapper; first | (rw [if_pos (by decide +kernel)]; kernel_rfl) | (rw [if_neg (by decide +kernel)]; exact ⟨rfl, rfl⟩))
    (fun os started H enc _ => apart6_lifted Z os started H enc)
end Go.Proofs.Ytlcjlgdcleenlaa

/-
  The law PlaneApart answers true whatever its input, and leaves its arguments as they were; no condition.
-/
namespace Go.Proofs.Ytlcjlgdcleenlaa
open Go.RowKit

theorem apart6_holds : Rows.PlaneApartSaid := apart6_holds_of planeI
#print axioms apart6_holds
end Go.Proofs.Ytlcjlgdcleenlaa
