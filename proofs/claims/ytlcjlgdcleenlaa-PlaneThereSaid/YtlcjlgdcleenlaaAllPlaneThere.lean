/-
  The law PlaneThere answers true whatever its input, and leaves its arguments as they were; no condition.
-/
import Derived.Test.YtlcjlgdcleenlaaAll1
import Derived.Test.YtlcjlgdcleenlaaAll2
import Derived.Test.YtlcjlgdcleenlaaAll3
/-
  The law PlaneThere, out of the contracts.
-/
namespace Go.Proofs.Ytlcjlgdcleenlaa
open Go.RowKit

attribute [local go_sem] cv_rule

set_option maxRecDepth 20000 in
set_option maxHeartbeats 4000000 in
theorem there6_law (Z : PlaneSpec) (a : FrAt) (P : Pl) (x0 x1 z : Int) (bA : Option Addr) (bn bc : Nat) (bs : List UInt8) (w : World) (hp : a.has w P) (hb : Src w (.slice bA bn bc) (bs.map B8)) (hbn : bn = bs.length)
    (n1 : P.pix.length ≤ 9223372036854775807) (n2 : bn ≤ 9223372036854775807) (j0 : InJ x0) (j1 : InJ x1) (j2 : InJ z) :
    Calls Try.prog 6 #[a.val, .agg #[.int .i64 x0, .int .i64 x1, .int .i64 z], .slice bA bn bc] w fun e w' => e = .returned (.bool true) ∧ Fr [] w w' := by
  have HA := Lib.hid fun W => alive6_any Z W
  have HN := Lib.hid n1
  have HJ := Lib.hid (And.intro j0 (And.intro j1 j2))
  have HL := Lib.hid hbn
  have HE := Lib.hid (And.intro hp.1 (And.intro hp.2.1 hp.2.2.1))
  obtain ⟨w1, ga, ewa, ega, ba, na, Fa⟩ := hp.put (Fr.refl [] w)
  obtain ⟨w2, go, ewo, ego, bo, no, Fo⟩ := Held.put w w1 36 #[.int .i64 x0, .int .i64 x1, .int .i64 z] Fa
  have Ba := Lib.hid (ba.fr0 no); have Bo := Lib.hid bo; have HF := Lib.hid Fo; have Hb := Lib.hid (hb.fr0 Fo)
  clear ba bo na no Fa Fo hp hb n1 j0 j1 j2 hbn
  obtain ⟨aW, aH, aA, an, ac⟩ := a
  simp only [FrAt.val] at ewa ⊢
  go_enter Try.func6, Try.ntmps6
  have ca0 := Ba.out.bk.cell 0
  have ca1 := Ba.out.bk.cell 1
  have ca2 := Ba.out.bk.cell 2
  have la := Ba.out.bk.lt
  simp at ca0 ca1 ca2
  go_wp2_with fail
  clear ewa ewo ega ego
  refine (law6_fits _ _ _ Ba.out.has HN.out).mono ?_
  rintro e w3 ⟨rfl, hf⟩
  replace Ba := Lib.hid (Ba.out.fr0 hf)
  replace Bo := Lib.hid (Bo.out.fr0 hf)
  replace Hb := Lib.hid (Hb.out.fr0 hf)
  replace HF := Lib.hid (HF.out.trans hf (by simp))
  clear hf
  clear ca0 ca1 ca2 la
  have ca0 := Ba.out.bk.cell 0
  have ca1 := Ba.out.bk.cell 1
  have ca2 := Ba.out.bk.cell 2
  have la := Ba.out.bk.lt
  simp at ca0 ca1 ca2
  have co0 := Bo.out.bk.cell 0
  have co1 := Bo.out.bk.cell 1
  have co2 := Bo.out.bk.cell 2
  have lo := Bo.out.bk.lt
  simp at co0 co1 co2
  cases f1 : P.fits
  all_goals go_wp2_with fail
  all_goals first
    | (refine (HA.out _).mono ?_; rintro e w1 ⟨rfl, hf⟩; replace HF := Lib.hid (HF.out.trans hf (by simp)); clear hf; go_wp2_with fail; go_ret; exact ⟨rfl, HF.out⟩)
    | skip
  have S1 := Lib.hid (Pl.fits.small f1)
  clear f1
  refine (Z.right _ _ _ Ba.out.has S1.out).mono ?_
  rintro e w4 ⟨rfl, hf⟩
  replace Ba := Lib.hid (Ba.out.fr0 hf)
  replace Bo := Lib.hid (Bo.out.fr0 hf)
  replace Hb := Lib.hid (Hb.out.fr0 hf)
  replace HF := Lib.hid (HF.out.trans hf (by simp))
  clear hf
  clear ca0 ca1 ca2 la co0 co1 co2 lo
  have ca0 := Ba.out.bk.cell 0
  have ca1 := Ba.out.bk.cell 1
  have ca2 := Ba.out.bk.cell 2
  have la := Ba.out.bk.lt
  simp at ca0 ca1 ca2
  have co0 := Bo.out.bk.cell 0
  have co1 := Bo.out.bk.cell 1
  have co2 := Bo.out.bk.cell 2
  have lo := Bo.out.bk.lt
  simp at co0 co1 co2
  cases f2 : P.ok
  · go_wp2_with fail
    first
      | (refine (HA.out _).mono ?_; rintro e w1 ⟨rfl, hf⟩; replace HF := Lib.hid (HF.out.trans hf (by simp)); clear hf; go_wp2_with fail; go_ret; exact ⟨rfl, HF.out⟩)
  have K0 := Lib.hid f2
  have hq := Pl.ok_iff.1 f2
  obtain ⟨⟨hW1, hW2⟩, ⟨hH1, hH2⟩, -⟩ := hq
  have eW := HE.out.1
  have eH := HE.out.2.1
  rw [← eW] at hW1 hW2
  rw [← eH] at hH1 hH2
  have jj0 := HJ.out.1; have jj1 := HJ.out.2.1
  unfold InJ at jj0 jj1
  by_cases t1 : z < 1
  · go_wp2_with fail
    first
      | (refine (HA.out _).mono ?_; rintro e w1 ⟨rfl, hf⟩; replace HF := Lib.hid (HF.out.trans hf (by simp)); clear hf; go_wp2_with fail; go_ret; exact ⟨rfl, HF.out⟩)
  by_cases t2 : 64 < z
  · go_wp2_with fail
    first
      | (refine (HA.out _).mono ?_; rintro e w1 ⟨rfl, hf⟩; replace HF := Lib.hid (HF.out.trans hf (by simp)); clear hf; go_wp2_with fail; go_ret; exact ⟨rfl, HF.out⟩)
  obtain ⟨n, rfl⟩ : ∃ n : Nat, z = (n : Int) := ⟨z.toNat, by omega⟩
  have hn1 : 1 ≤ n := by omega
  have hn2 : n ≤ 64 := by omega
  obtain ⟨m, hm⟩ : ∃ m, m = n * n := ⟨_, rfl⟩
  have hmm : (n : Int) * (n : Int) = (m : Int) := by rw [hm]; simp
  have hm64 : m ≤ 4096 := by rw [hm]; exact Nat.mul_le_mul hn2 hn2
  have hmw : IntKind.i64.wrap (m : Int) = (m : Int) := IntWalk.i64_in _ (by omega)
  have Hm := Lib.hid hm
  clear hm
  by_cases t3 : bn = m
  rotate_left
  · have t3' : ((bn : Int) != (m : Int)) = true := by simp; omega
    go_wp2_with fail
    first
      | (refine (HA.out _).mono ?_; rintro e w1 ⟨rfl, hf⟩; replace HF := Lib.hid (HF.out.trans hf (by simp)); clear hf; go_wp2_with fail; go_ret; exact ⟨rfl, HF.out⟩)
  subst t3
  by_cases t4 : x0 < 0
  · go_wp2_with fail
    first
      | (refine (HA.out _).mono ?_; rintro e w1 ⟨rfl, hf⟩; replace HF := Lib.hid (HF.out.trans hf (by simp)); clear hf; go_wp2_with fail; go_ret; exact ⟨rfl, HF.out⟩)
  by_cases t5 : x1 < 0
  · go_wp2_with fail
    first
      | (refine (HA.out _).mono ?_; rintro e w1 ⟨rfl, hf⟩; replace HF := Lib.hid (HF.out.trans hf (by simp)); clear hf; go_wp2_with fail; go_ret; exact ⟨rfl, HF.out⟩)
  obtain ⟨X0, rfl⟩ : ∃ X : Nat, x0 = (X : Int) := ⟨x0.toNat, by omega⟩
  obtain ⟨X1, rfl⟩ : ∃ X : Nat, x1 = (X : Int) := ⟨x1.toNat, by omega⟩
  by_cases t6 : aW - (n : Int) < (X0 : Int)
  · go_wp2_with fail
    first
      | (refine (HA.out _).mono ?_; rintro e w1 ⟨rfl, hf⟩; replace HF := Lib.hid (HF.out.trans hf (by simp)); clear hf; go_wp2_with fail; go_ret; exact ⟨rfl, HF.out⟩)
  by_cases t7 : aH - (n : Int) < (X1 : Int)
  · go_wp2_with fail
    first
      | (refine (HA.out _).mono ?_; rintro e w1 ⟨rfl, hf⟩; replace HF := Lib.hid (HF.out.trans hf (by simp)); clear hf; go_wp2_with fail; go_ret; exact ⟨rfl, HF.out⟩)
  have hm := Hm.out
  have l0 : bs.length = n * n := by rw [← HL.out, hm]
  obtain ⟨L0, hL0⟩ : ∃ L, L = P.block (X0 : Int) (X1 : Int) (n : Int) := ⟨_, rfl⟩
  obtain ⟨Q, hQ⟩ : ∃ Q : Pl, Q = ⟨P.w, P.h, P.lays (X0 : Int) (X1 : Int) n bs (n * n)⟩ := ⟨_, rfl⟩
  have l1 : L0.length = bn := by rw [hL0, hm]; exact block_length f2 hn1 (by omega) _ _
  have kQ : Q.ok = true := by rw [hQ]; exact lays_ok f2 ..
  have sQ : Q.small := by have h1 := S1.out; rw [hQ]; unfold Pl.small at h1 ⊢; rw [show (⟨P.w, P.h, P.lays (X0 : Int) (X1 : Int) n bs (n * n)⟩ : Pl).pix.length = P.pix.length from lays_length ..]; exact h1
  have T1 : Hid (∀ W (a : FrAt), a.has W P → Calls Try.prog 30 #[a.val, .int .i64 (X0 : Int), .int .i64 (X1 : Int), .int .i64 (n : Int)] W fun e w' => ∃ A c, e = .returned (.slice A bn c) ∧ Src w' (.slice A bn c) (L0.map B8) ∧ Fr [] W w') := Lib.hid fun W a h => by
    have := Z.block W a P (X0 : Int) (X1 : Int) (n : Int) h S1.out jj0 jj1 (by unfold InJ; omega)
    rw [← hL0] at this
    unfold BsPost at this
    rw [l1] at this
    exact this
  have T2 : Hid (∀ W (a : FrAt) (A : Option Addr) (c : Nat), a.has W P → Src W (.slice A bn c) (bs.map B8) → Calls Try.prog 18 #[a.val, .int .i64 (X0 : Int), .int .i64 (X1 : Int), .int .i64 (n : Int), .slice A bn c] W (PlPost W (Q, 0))) := Lib.hid fun W a A c h k => by
    rw [hQ, ← lay_is f2 hn1 hn2 l0, HL.out]
    exact Z.lay W a P _ _ (n : Int) A c bs h S1.out (by rw [← HL.out]; exact k) (by rw [l0, ← hm]; omega) jj0 jj1 (by unfold InJ; omega)
  have T3 : Hid (∀ W (a : FrAt) (A : Option Addr) (c : Nat), a.has W Q → Src W (.slice A bn c) (L0.map B8) → Calls Try.prog 18 #[a.val, .int .i64 (X0 : Int), .int .i64 (X1 : Int), .int .i64 (n : Int), .slice A bn c] W (PlPost W (P, 0))) := Lib.hid fun W a A c h k => by
    have e1 : (⟨Q.w, Q.h, Q.lays (X0 : Int) (X1 : Int) n L0 (n * n)⟩ : Pl) = P := by rw [hQ, hL0, there_again f2 hn1 hn2 l0 (by omega) (by omega)]
    have e2 := lay_is kQ (x := (X0 : Int)) (y := (X1 : Int)) hn1 hn2 (b := L0) (by rw [l1, hm])
    rw [e1] at e2
    rw [← e2, ← l1]
    exact Z.lay W a Q _ _ (n : Int) A c L0 h sQ (by rw [l1]; exact k) (by omega) jj0 jj1 (by unfold InJ; omega)
  have T4 : Hid (∀ W (a : FrAt), a.has W Q → Calls Try.prog 30 #[a.val, .int .i64 (X0 : Int), .int .i64 (X1 : Int), .int .i64 (n : Int)] W fun e w' => ∃ A c, e = .returned (.slice A bn c) ∧ Src w' (.slice A bn c) (bs.map B8) ∧ Fr [] W w') := Lib.hid fun W a h => by
    have := Z.block W a Q (X0 : Int) (X1 : Int) (n : Int) h sQ jj0 jj1 (by unfold InJ; omega)
    rw [hQ, there_block f2 hn1 hn2 l0 (by omega) (by omega)] at this
    unfold BsPost at this
    rw [← HL.out] at this
    exact this
  have T5 : Hid (∀ (c r : Nat), (c : Int) < aW → (r : Int) < aH → ¬ (X0 ≤ c ∧ c < X0 + n ∧ X1 ≤ r ∧ r < X1 + n) → ∀ W (a : FrAt), a.has W Q → Calls Try.prog 31 #[a.val, .int .i64 (c : Int), .int .i64 (r : Int)] W fun e w' => e = .returned (.int .u8 ((P.at_ c r).toNat : Int)) ∧ Fr [] W w') := Lib.hid fun c r hc hr ho W a h => by
    have e := there_outside f2 l0 (a := c) (c := r) (by omega) (by omega) ho
    rw [← hQ] at e
    rw [← e]
    exact Z.at_ W a Q c r h sQ (by unfold InJ; omega) (by unfold InJ; omega)
  have T6 : Hid (∀ (c r : Nat), (c : Int) < aW → (r : Int) < aH → ∀ W (a : FrAt), a.has W P → Calls Try.prog 31 #[a.val, .int .i64 (c : Int), .int .i64 (r : Int)] W fun e w' => e = .returned (.int .u8 ((P.at_ c r).toNat : Int)) ∧ Fr [] W w') := Lib.hid fun c r hc hr W a h =>
    Z.at_ W a P c r h S1.out (by unfold InJ; omega) (by unfold InJ; omega)
  have hxb : X0 ≤ 4096 := by omega
  have hyb : X1 ≤ 4096 := by omega
  clear f2 l0 l1 kQ sQ hL0 hQ eW eH hm jj0 jj1 HJ
  go_wp2_with fail
  refine (T1.out _ _ Ba.out.has).mono ?_
  rintro e w5 ⟨dA, dc, rfl, hs, hf⟩
  replace Ba := Lib.hid (Ba.out.fr0 hf)
  replace Bo := Lib.hid (Bo.out.fr0 hf)
  replace Hb := Lib.hid (Hb.out.fr0 hf)
  replace HF := Lib.hid (HF.out.trans hf (by simp))
  have Hd := Lib.hid hs
  clear hs hf
  clear ca0 ca1 ca2 la co0 co1 co2 lo
  have ca0 := Ba.out.bk.cell 0
  have ca1 := Ba.out.bk.cell 1
  have ca2 := Ba.out.bk.cell 2
  have la := Ba.out.bk.lt
  simp at ca0 ca1 ca2
  have co0 := Bo.out.bk.cell 0
  have co1 := Bo.out.bk.cell 1
  have co2 := Bo.out.bk.cell 2
  have lo := Bo.out.bk.lt
  simp at co0 co1 co2
  clear T1 t1 t2 t4 t5 t6 t7
  go_wp2_with fail
  clear ca0 ca1 ca2 la co0 co1 co2 lo
  refine (T2.out _ _ _ _ Ba.out.has Hb.out).mono ?_
  rintro e w6 ⟨q, rfl, hq, hf⟩
  obtain ⟨w7, gq, ew, eg, hbk, hn, hF⟩ := hq.put (HF.out.trans hf (by simp))
  have hqq := hf.trans hn (by simp)
  replace Ba := Lib.hid (Ba.out.fr0 hqq)
  replace Bo := Lib.hid (Bo.out.fr0 hqq)
  replace Hb := Lib.hid (Hb.out.fr0 hqq)
  replace Hd := Lib.hid (Hd.out.fr0 hqq)
  have Bq := Lib.hid hbk; simp only at Bq; replace HF := Lib.hid hF
  clear hq hf hbk hn hF hqq
  obtain ⟨qW, qH, qA, qn, qc⟩ := q
  simp only [FrAt.val] at ew ⊢
  have cq0 := Bq.out.bk.cell 0
  have cq1 := Bq.out.bk.cell 1
  have cq2 := Bq.out.bk.cell 2
  have lq := Bq.out.bk.lt
  simp at cq0 cq1 cq2
  have co0 := Bo.out.bk.cell 0
  have co1 := Bo.out.bk.cell 1
  have co2 := Bo.out.bk.cell 2
  have lo := Bo.out.bk.lt
  simp at co0 co1 co2
  go_wp2_with fail
  try rw [ew]
  try rw [eg]
  clear ew eg
  clear cq0 cq1 cq2 lq co0 co1 co2 lo
  clear T2
  refine (T3.out _ _ _ _ Bq.out.has Hd.out).mono ?_
  rintro e w8 ⟨r, rfl, hr, hf⟩
  obtain ⟨w9, gr, ew, eg, hbk, hn, hF⟩ := hr.put (HF.out.trans hf (by simp))
  have hqq := hf.trans hn (by simp)
  replace Ba := Lib.hid (Ba.out.fr0 hqq)
  replace Bo := Lib.hid (Bo.out.fr0 hqq)
  replace Hb := Lib.hid (Hb.out.fr0 hqq)
  replace Hd := Lib.hid (Hd.out.fr0 hqq)
  replace Bq := Lib.hid (Bq.out.fr0 hqq)
  have Br := Lib.hid hbk; simp only at Br; replace HF := Lib.hid hF
  clear hr hf hbk hn hF hqq
  obtain ⟨rW, rH, rA, rn, rc⟩ := r
  simp only [FrAt.val] at ew ⊢
  go_wp2_with fail
  try rw [ew]
  try rw [eg]
  clear ew eg
  clear T3
  go_upto_region 8 with fail
  have hf := (Fr.refl [] w9).drew
  replace Ba := Lib.hid (Ba.out.fr0 hf)
  replace Bo := Lib.hid (Bo.out.fr0 hf)
  replace Hb := Lib.hid (Hb.out.fr0 hf)
  replace Hd := Lib.hid (Hd.out.fr0 hf)
  replace Bq := Lib.hid (Bq.out.fr0 hf)
  replace Br := Lib.hid (Br.out.fr0 hf)
  replace HF := Lib.hid (HF.out.trans hf (by simp))
  clear hf
  have ia2 := Ba.out.bk.cell 2
  have io0 := Bo.out.bk.cell 0
  have io1 := Bo.out.bk.cell 1
  have iq0 := Bq.out.bk.cell 0
  have iq1 := Bq.out.bk.cell 1
  have iq2 := Bq.out.bk.cell 2
  have ir2 := Br.out.bk.cell 2
  simp at ia2 io0 io1 iq0 iq1 iq2 ir2
  have is1 := run_cv Hb.out; have is2 := run_cv Ba.out.has.2.2.2; have is3 := run_cv Br.out.has.2.2.2
  refine wp_region_held_drew (S := fun W => W.cell? ⟨ga, 2, none⟩ = some (.slice aA an ac) ∧ W.cell? ⟨go, 0, none⟩ = some (.int .i64 (X0 : Int)) ∧ W.cell? ⟨go, 1, none⟩ = some (.int .i64 (X1 : Int)) ∧ W.cell? ⟨gq, 0, none⟩ = some (.int .i64 qW) ∧ W.cell? ⟨gq, 1, none⟩ = some (.int .i64 qH) ∧ W.cell? ⟨gq, 2, none⟩ = some (.slice qA qn qc) ∧ W.cell? ⟨gr, 2, none⟩ = some (.slice rA rn rc) ∧ (cv (.slice bA bn bc)).run Try.prog W = .ok (.string (strOf bs)) W ∧ (cv (.slice aA an ac)).run Try.prog W = .ok (.string (strOf P.pix)) W ∧ (cv (.slice rA rn rc)).run Try.prog W = .ok (.string (strOf P.pix)) W) (by kernel_rfl) ?_ (fun hHeld => ?_)
  · (first | exact ⟨ja2, jo0, jo1, jq0, jq1, jq2, jr2, js1, js2, js3⟩ | exact ⟨ia2, io0, io1, iq0, iq1, iq2, ir2, is1, is2, is3⟩)
  refine wpAnyH_pick 0 (v := ?_) rfl (by kernel_rfl) (by kernel_rfl) (by kernel_rfl) (fun _ _ _ h => h) (by assumption) (by rfl) ?_ ?_
  rotate_left
  · (intro w hSw; (try dsimp only at hSw); go_simp) <;> (with_reducible rfl)
  (try simp only [Act.put, List.setIfInBounds_toArray, List.set_cons_zero, List.set_cons_succ])
  refine wpAnyH_pick 1 (v := ?_) rfl (by kernel_rfl) (by kernel_rfl) (by kernel_rfl) (fun _ _ _ h => h) (by assumption) (by rfl) ?_ ?_
  rotate_left
  · (intro w hSw; (try dsimp only at hSw); go_simp) <;> (with_reducible rfl)
  (try simp only [Act.put, List.setIfInBounds_toArray, List.set_cons_zero, List.set_cons_succ])
  refine wpAnyH_pick 2 (v := ?_) rfl (by kernel_rfl) (by kernel_rfl) (by kernel_rfl) (fun _ _ _ h => h) (by assumption) (by rfl) ?_ ?_
  rotate_left
  · (intro w hSw; (try dsimp only at hSw); go_simp) <;> (with_reducible rfl)
  (try simp only [Act.put, List.setIfInBounds_toArray, List.set_cons_zero, List.set_cons_succ])
  refine wpAnyH_pick 3 (v := ?_) rfl (by kernel_rfl) (by kernel_rfl) (by kernel_rfl) (fun _ _ _ h => h) (by assumption) (by rfl) ?_ ?_
  rotate_left
  · (intro w hSw; (try dsimp only at hSw); go_simp) <;> (with_reducible rfl)
  (try simp only [Act.put, List.setIfInBounds_toArray, List.set_cons_zero, List.set_cons_succ])
  refine wpAnyH_pick 4 (v := ?_) rfl (by kernel_rfl) (by kernel_rfl) (by kernel_rfl) (fun _ _ _ h => h) (by assumption) (by rfl) ?_ ?_
  rotate_left
  · (intro w hSw; (try dsimp only at hSw); go_simp) <;> (with_reducible rfl)
  (try simp only [Act.put, List.setIfInBounds_toArray, List.set_cons_zero, List.set_cons_succ])
  refine wpAnyH_pick 5 (v := ?_) rfl (by kernel_rfl) (by kernel_rfl) (by kernel_rfl) (fun _ _ _ h => h) (by assumption) (by rfl) ?_ ?_
  rotate_left
  · (intro w hSw; (try dsimp only at hSw); go_simp) <;> (with_reducible rfl)
  (try simp only [Act.put, List.setIfInBounds_toArray, List.set_cons_zero, List.set_cons_succ])
  refine wpAnyH_pick 6 (v := ?_) rfl (by kernel_rfl) (by kernel_rfl) (by kernel_rfl) (fun _ _ _ h => h) (by assumption) (by rfl) ?_ ?_
  rotate_left
  · (intro w hSw; (try dsimp only at hSw); go_simp) <;> (with_reducible rfl)
  (try simp only [Act.put, List.setIfInBounds_toArray, List.set_cons_zero, List.set_cons_succ])
  refine wpAnyH_pick 7 (v := ?_) rfl (by kernel_rfl) (by kernel_rfl) (by kernel_rfl) (fun _ _ _ h => h) (by assumption) (by rfl) ?_ ?_
  rotate_left
  · (intro w hSw; (try dsimp only at hSw); go_simp) <;> (with_reducible rfl)
  (try simp only [Act.put, List.setIfInBounds_toArray, List.set_cons_zero, List.set_cons_succ])
  refine wpAnyH_pick 8 (v := ?_) rfl (by kernel_rfl) (by kernel_rfl) (by kernel_rfl) (fun _ _ _ h => h) (by assumption) (by rfl) ?_ ?_
  rotate_left
  · (intro w hSw; (try dsimp only at hSw); go_simp) <;> (with_reducible rfl)
  (try simp only [Act.put, List.setIfInBounds_toArray, List.set_cons_zero, List.set_cons_succ])
  refine wpAnyH_pick 9 (v := ?_) rfl (by kernel_rfl) (by kernel_rfl) (by kernel_rfl) (fun _ _ _ h => h) (by assumption) (by rfl) ?_ ?_
  rotate_left
  · (intro w hSw; (try dsimp only at hSw); go_simp) <;> (with_reducible rfl)
  (try simp only [Act.put, List.setIfInBounds_toArray, List.set_cons_zero, List.set_cons_succ])
  refine wpAnyH_pick 10 (v := ?_) rfl (by kernel_rfl) (by kernel_rfl) (by kernel_rfl) (fun _ _ _ h => h) (by assumption) (by rfl) ?_ ?_
  rotate_left
  · (intro w hSw; (try dsimp only at hSw); go_simp) <;> (with_reducible rfl)
  (try simp only [Act.put, List.setIfInBounds_toArray, List.set_cons_zero, List.set_cons_succ])
  refine wpAnyH_pick 11 (v := ?_) rfl (by kernel_rfl) (by kernel_rfl) (by kernel_rfl) (fun _ _ _ h => h) (by assumption) (by rfl) ?_ ?_
  rotate_left
  · (intro w hSw; (try dsimp only at hSw); go_simp) <;> (with_reducible rfl)
  (try simp only [Act.put, List.setIfInBounds_toArray, List.set_cons_zero, List.set_cons_succ])
  refine wpAnyH_pick 12 (v := ?_) rfl (by kernel_rfl) (by kernel_rfl) (by kernel_rfl) (fun _ _ _ h => h) (by assumption) (by rfl) ?_ ?_
  rotate_left
  · (intro w hSw; (try dsimp only at hSw); go_simp) <;> (with_reducible rfl)
  (try simp only [Act.put, List.setIfInBounds_toArray, List.set_cons_zero, List.set_cons_succ])
  refine wpAnyH_pick 15 (v := ?_) rfl (by kernel_rfl) (by kernel_rfl) (by kernel_rfl) (fun _ _ _ h => h) (by assumption) (by rfl) ?_ ?_
  rotate_left
  · (intro w hSw; (try dsimp only at hSw); go_simp) <;> (with_reducible rfl)
  (try simp only [Act.put, List.setIfInBounds_toArray, List.set_cons_zero, List.set_cons_succ])
  refine wpAnyH_pick 16 (v := ?_) rfl (by kernel_rfl) (by kernel_rfl) (by kernel_rfl) (fun _ _ _ h => h) (by assumption) (by rfl) ?_ ?_
  rotate_left
  · (intro w hSw; (try dsimp only at hSw); go_simp) <;> (with_reducible rfl)
  (try simp only [Act.put, List.setIfInBounds_toArray, List.set_cons_zero, List.set_cons_succ])
  refine wpAnyH_ready (rs := [13]) (by kernel_rfl) (by simp) ?_
  refine AllReadyH_pick rfl (fun K hK => ?_) (AllReadyH.nil)
  go_simp
  refine (T4.out _ _ Bq.out.has).mono ?_
  rintro e w10 ⟨vA, vc, rfl, hs, hf⟩
  replace Ba := Lib.hid (Ba.out.fr0 hf)
  replace Bo := Lib.hid (Bo.out.fr0 hf)
  replace Hb := Lib.hid (Hb.out.fr0 hf)
  replace Hd := Lib.hid (Hd.out.fr0 hf)
  replace Bq := Lib.hid (Bq.out.fr0 hf)
  replace Br := Lib.hid (Br.out.fr0 hf)
  replace HF := Lib.hid (HF.out.trans hf (by simp))
  have sV := run_cv hs
  clear hs hf
  have ja2 := Ba.out.bk.cell 2
  have jo0 := Bo.out.bk.cell 0
  have jo1 := Bo.out.bk.cell 1
  have jq0 := Bq.out.bk.cell 0
  have jq1 := Bq.out.bk.cell 1
  have jq2 := Bq.out.bk.cell 2
  have jr2 := Br.out.bk.cell 2
  simp at ja2 jo0 jo1 jq0 jq1 jq2 jr2
  have js1 := run_cv Hb.out; have js2 := run_cv Ba.out.has.2.2.2; have js3 := run_cv Br.out.has.2.2.2
  go_wp2_with fail
  refine hK.out _ _ ?_ (fun hHeld => ?_)
  · (first | exact ⟨ja2, jo0, jo1, jq0, jq1, jq2, jr2, js1, js2, js3⟩ | exact ⟨ia2, io0, io1, iq0, iq1, iq2, ir2, is1, is2, is3⟩)
  clear hK K
  (try simp only [Act.put, List.setIfInBounds_toArray, List.set_cons_zero, List.set_cons_succ])
  refine wpAnyH_add (fun W => (cv (.slice vA bn vc)).run Try.prog W = .ok (.string (strOf bs)) W) _ _ _ _ ?_
  have hHeld2 := And.intro hHeld sV
  refine wpAnyH_pick 14 (v := ?_) rfl (by kernel_rfl) (by kernel_rfl) (by kernel_rfl) (fun _ _ _ h => h) (by assumption) (by rfl) ?_ ?_
  rotate_left
  · (intro w hSw; (try dsimp only at hSw); go_simp) <;> (with_reducible rfl)
  (try simp only [Act.put, List.setIfInBounds_toArray, List.set_cons_zero, List.set_cons_succ])
  refine wpAnyH_pick 17 (v := ?_) rfl (by kernel_rfl) (by kernel_rfl) (by kernel_rfl) (fun _ _ _ h => h) (by assumption) (by rfl) ?_ ?_
  rotate_left
  · (intro w hSw; (try dsimp only at hSw); go_simp) <;> (with_reducible rfl)
  (try simp only [Act.put, List.setIfInBounds_toArray, List.set_cons_zero, List.set_cons_succ])
  refine wpAnyH_pick 18 (v := ?_) rfl (by kernel_rfl) (by kernel_rfl) (by kernel_rfl) (fun _ _ _ h => h) (by assumption) (by rfl) ?_ ?_
  rotate_left
  · (intro w hSw; (try dsimp only at hSw); go_simp) <;> (with_reducible rfl)
  (try simp only [Act.put, List.setIfInBounds_toArray, List.set_cons_zero, List.set_cons_succ])
  refine wpAnyH_pick 19 (v := ?_) rfl (by kernel_rfl) (by kernel_rfl) (by kernel_rfl) (fun _ _ _ h => h) (by assumption) (by rfl) ?_ ?_
  rotate_left
  · (intro w hSw; (try dsimp only at hSw); go_simp) <;> (with_reducible rfl)
  (try simp only [Act.put, List.setIfInBounds_toArray, List.set_cons_zero, List.set_cons_succ])
  refine wpAnyH_pick 20 (v := ?_) rfl (by kernel_rfl) (by kernel_rfl) (by kernel_rfl) (fun _ _ _ h => h) (by assumption) (by rfl) ?_ ?_
  rotate_left
  · (intro w hSw; (try dsimp only at hSw); go_simp) <;> (with_reducible rfl)
  (try simp only [Act.put, List.setIfInBounds_toArray, List.set_cons_zero, List.set_cons_succ])
  refine wpAnyH_pick 21 (v := ?_) rfl (by kernel_rfl) (by kernel_rfl) (by kernel_rfl) (fun _ _ _ h => h) (by assumption) (by rfl) ?_ ?_
  rotate_left
  · (intro w hSw; (try dsimp only at hSw); go_simp) <;> (with_reducible rfl)
  (try simp only [Act.put, List.setIfInBounds_toArray, List.set_cons_zero, List.set_cons_succ])
  refine wpAnyH_pick 22 (v := ?_) rfl (by kernel_rfl) (by kernel_rfl) (by kernel_rfl) (fun _ _ _ h => h) (by assumption) (by rfl) ?_ ?_
  rotate_left
  · (intro w hSw; (try dsimp only at hSw); go_simp) <;> (with_reducible rfl)
  (try simp only [Act.put, List.setIfInBounds_toArray, List.set_cons_zero, List.set_cons_succ])
  refine wpAnyH_pick 23 (v := ?_) rfl (by kernel_rfl) (by kernel_rfl) (by kernel_rfl) (fun _ _ _ h => h) (by assumption) (by rfl) ?_ ?_
  rotate_left
  · (intro w hSw; (try dsimp only at hSw); go_simp) <;> (with_reducible rfl)
  (try simp only [Act.put, List.setIfInBounds_toArray, List.set_cons_zero, List.set_cons_succ])
  refine wpAnyH_pick 24 (v := ?_) rfl (by kernel_rfl) (by kernel_rfl) (by kernel_rfl) (fun _ _ _ h => h) (by assumption) (by rfl) ?_ ?_
  rotate_left
  · (intro w hSw; (try dsimp only at hSw); go_simp) <;> (with_reducible rfl)
  (try simp only [Act.put, List.setIfInBounds_toArray, List.set_cons_zero, List.set_cons_succ])
  refine wpAnyH_pick 25 (v := ?_) rfl (by kernel_rfl) (by kernel_rfl) (by kernel_rfl) (fun _ _ _ h => h) (by assumption) (by rfl) ?_ ?_
  rotate_left
  · (intro w hSw; (try dsimp only at hSw); go_simp) <;> (with_reducible rfl)
  (try simp only [Act.put, List.setIfInBounds_toArray, List.set_cons_zero, List.set_cons_succ])
  refine wpAnyH_pick 26 (v := ?_) rfl (by kernel_rfl) (by kernel_rfl) (by kernel_rfl) (fun _ _ _ h => h) (by assumption) (by rfl) ?_ ?_
  rotate_left
  · (intro w hSw; (try dsimp only at hSw); go_simp) <;> (with_reducible rfl)
  (try simp only [Act.put, List.setIfInBounds_toArray, List.set_cons_zero, List.set_cons_succ])
  refine wpAnyH_pick 27 (v := ?_) rfl (by kernel_rfl) (by kernel_rfl) (by kernel_rfl) (fun _ _ _ h => h) (by assumption) (by rfl) ?_ ?_
  rotate_left
  · (intro w hSw; (try dsimp only at hSw); go_simp) <;> (with_reducible rfl)
  (try simp only [Act.put, List.setIfInBounds_toArray, List.set_cons_zero, List.set_cons_succ])
  refine wpAnyH_done (by kernel_rfl) ?_ _
  skip
  clear T4 ia2 io0 io1 iq0 iq1 iq2 ir2 is1 is2 is3 ja2 jo0 jo1 jq0 jq1 jq2 jr2 js1 js2 js3 sV
  go_wp2_with fail
  clear Hb Hd Br
  have hz0 : ((0 : Nat) : Int) ≤ aH := by omega
  have hz1 : ((0 : Nat) : Int) ≤ aW := by omega
  go_loopw [14] (fun s14 wr => ∃ r : Nat, (r : Int) ≤ aH ∧ s14 = .int .i64 (r : Int) ∧ PlBk wr ga ⟨aW, aH, aA, an, ac⟩ P ∧ Held wr go 36 #[.int .i64 (X0 : Int), .int .i64 (X1 : Int), .int .i64 (n : Int)] ∧ PlBk wr gq ⟨qW, qH, qA, qn, qc⟩ Q ∧ Fr [] w wr) (fun s14 _ => (aH - intOf s14).toNat)
  case atStart => exact ⟨0, hz0, rfl, Ba.out, Bo.out, Bq.out, HF.out⟩
  case round =>
    obtain ⟨r, hr, rfl, hBa, hBo, hBq, hF⟩ := hrel
    clear Ba Bo Bq HF
    have Ba := Lib.hid hBa; have Bo := Lib.hid hBo; have Bq := Lib.hid hBq; have HF := Lib.hid hF
    clear hBa hBo hBq hF
    have ca0 := Ba.out.bk.cell 0
    have ca1 := Ba.out.bk.cell 1
    have ca2 := Ba.out.bk.cell 2
    have la := Ba.out.bk.lt
    simp at ca0 ca1 ca2
    by_cases hrm : (r : Int) < aH
    · go_wp2_with fail
      go_loopw [15] (fun s15 wr => ∃ c : Nat, (c : Int) ≤ aW ∧ s15 = .int .i64 (c : Int) ∧ PlBk wr ga ⟨aW, aH, aA, an, ac⟩ P ∧ Held wr go 36 #[.int .i64 (X0 : Int), .int .i64 (X1 : Int), .int .i64 (n : Int)] ∧ PlBk wr gq ⟨qW, qH, qA, qn, qc⟩ Q ∧ Fr [] w wr) (fun s15 _ => (aW - intOf s15).toNat)
      case atStart => exact ⟨0, hz1, rfl, Ba.out, Bo.out, Bq.out, HF.out⟩
      case round =>
        clear ca0 ca1 ca2 la
        obtain ⟨c, hc, rfl, hBa, hBo, hBq, hF⟩ := hrel
        clear Ba Bo Bq HF
        have Ba := Lib.hid hBa; have Bo := Lib.hid hBo; have Bq := Lib.hid hBq; have HF := Lib.hid hF
        clear hBa hBo hBq hF
        have ca0 := Ba.out.bk.cell 0
        have ca1 := Ba.out.bk.cell 1
        have ca2 := Ba.out.bk.cell 2
        have la := Ba.out.bk.lt
        simp at ca0 ca1 ca2
        have co0 := Bo.out.bk.cell 0
        have co1 := Bo.out.bk.cell 1
        have co2 := Bo.out.bk.cell 2
        have lo := Bo.out.bk.lt
        simp at co0 co1 co2
        have cq0 := Bq.out.bk.cell 0
        have cq1 := Bq.out.bk.cell 1
        have cq2 := Bq.out.bk.cell 2
        have lq := Bq.out.bk.lt
        simp at cq0 cq1 cq2
        by_cases hcm : (c : Int) < aW
        rotate_left
        · have hc2 : (r : Int) + 1 ≤ aH := by omega
          go_wp2_with fail
          exact ⟨⟨r + 1, by omega, by simp, Ba.out, Bo.out, Bq.out, HF.out⟩, by simp [intOf]; omega⟩
        go_upto_region 16 with fail
        have hcb : c ≤ 4096 := by omega
        have hrb : r ≤ 4096 := by omega
        have v1 : IntKind.i64.wrap ((X0 : Int) + (n : Int)) = (X0 : Int) + (n : Int) := IntWalk.i64_in _ (by omega)
        have v2 : IntKind.i64.wrap ((X1 : Int) + (n : Int)) = (X1 : Int) + (n : Int) := IntWalk.i64_in _ (by omega)
        by_cases hin : X0 ≤ c ∧ c < X0 + n ∧ X1 ≤ r ∧ r < X1 + n
        · obtain ⟨d1, d2, d3, d4⟩ := hin
          have d1' : decide (X0 ≤ c) = true := by simpa using d1
          have d2' : decide ((c : Int) < (X0 : Int) + (n : Int)) = true := by simp; omega
          have d3' : decide (X1 ≤ r) = true := by simpa using d3
          have d4' : decide ((r : Int) < (X1 : Int) + (n : Int)) = true := by simp; omega
          clear d1 d2 d3 d4
          go_upto_region 17 with fail
          have hf := (Fr.refl [] wr).drew
          replace Ba := Lib.hid (Ba.out.fr0 hf)
          replace Bo := Lib.hid (Bo.out.fr0 hf)
          replace Bq := Lib.hid (Bq.out.fr0 hf)
          replace HF := Lib.hid (HF.out.trans hf (by simp))
          clear hf
          refine wp_region_held_drew (S := fun _ => True) (by kernel_rfl) ?_ (fun hHeld => ?_)
          · trivial
          refine wpAnyH_pick 0 (v := ?_) rfl (by kernel_rfl) (by kernel_rfl) (by kernel_rfl) (fun _ _ _ h => h) (by assumption) (by rfl) ?_ ?_
          rotate_left
          · (intro w hSw; (try dsimp only at hSw); go_simp) <;> (with_reducible rfl)
          (try simp only [Act.put, List.setIfInBounds_toArray, List.set_cons_zero, List.set_cons_succ])
          refine wpAnyH_pick 1 (v := ?_) rfl (by kernel_rfl) (by kernel_rfl) (by kernel_rfl) (fun _ _ _ h => h) (by assumption) (by rfl) ?_ ?_
          rotate_left
          · (intro w hSw; (try dsimp only at hSw); go_simp) <;> (with_reducible rfl)
          (try simp only [Act.put, List.setIfInBounds_toArray, List.set_cons_zero, List.set_cons_succ])
          refine wpAnyH_pick 2 (v := ?_) rfl (by kernel_rfl) (by kernel_rfl) (by kernel_rfl) (fun _ _ _ h => h) (by assumption) (by rfl) ?_ ?_
          rotate_left
          · (intro w hSw; (try dsimp only at hSw); go_simp) <;> (with_reducible rfl)
          (try simp only [Act.put, List.setIfInBounds_toArray, List.set_cons_zero, List.set_cons_succ])
          refine wpAnyH_skip 3 rfl (by kernel_rfl) (by kernel_rfl) (by kernel_rfl) (fun _ _ _ h => h) (by assumption) (by rfl) ?_
          (try simp only [Act.put, List.setIfInBounds_toArray, List.set_cons_zero, List.set_cons_succ])
          refine wpAnyH_skip 4 rfl (by kernel_rfl) (by kernel_rfl) (by kernel_rfl) (fun _ _ _ h => h) (by assumption) (by rfl) ?_
          (try simp only [Act.put, List.setIfInBounds_toArray, List.set_cons_zero, List.set_cons_succ])
          refine wpAnyH_skip 5 rfl (by kernel_rfl) (by kernel_rfl) (by kernel_rfl) (fun _ _ _ h => h) (by assumption) (by rfl) ?_
          (try simp only [Act.put, List.setIfInBounds_toArray, List.set_cons_zero, List.set_cons_succ])
          refine wpAnyH_skip 6 rfl (by kernel_rfl) (by kernel_rfl) (by kernel_rfl) (fun _ _ _ h => h) (by assumption) (by rfl) ?_
          (try simp only [Act.put, List.setIfInBounds_toArray, List.set_cons_zero, List.set_cons_succ])
          refine wpAnyH_skip 7 rfl (by kernel_rfl) (by kernel_rfl) (by kernel_rfl) (fun _ _ _ h => h) (by assumption) (by rfl) ?_
          (try simp only [Act.put, List.setIfInBounds_toArray, List.set_cons_zero, List.set_cons_succ])
          refine wpAnyH_skip 8 rfl (by kernel_rfl) (by kernel_rfl) (by kernel_rfl) (fun _ _ _ h => h) (by assumption) (by rfl) ?_
          (try simp only [Act.put, List.setIfInBounds_toArray, List.set_cons_zero, List.set_cons_succ])
          refine wpAnyH_skip 9 rfl (by kernel_rfl) (by kernel_rfl) (by kernel_rfl) (fun _ _ _ h => h) (by assumption) (by rfl) ?_
          (try simp only [Act.put, List.setIfInBounds_toArray, List.set_cons_zero, List.set_cons_succ])
          refine wpAnyH_skip 10 rfl (by kernel_rfl) (by kernel_rfl) (by kernel_rfl) (fun _ _ _ h => h) (by assumption) (by rfl) ?_
          (try simp only [Act.put, List.setIfInBounds_toArray, List.set_cons_zero, List.set_cons_succ])
          refine wpAnyH_skip 11 rfl (by kernel_rfl) (by kernel_rfl) (by kernel_rfl) (fun _ _ _ h => h) (by assumption) (by rfl) ?_
          (try simp only [Act.put, List.setIfInBounds_toArray, List.set_cons_zero, List.set_cons_succ])
          refine wpAnyH_pick 12 (v := ?_) rfl (by kernel_rfl) (by kernel_rfl) (by kernel_rfl) (fun _ _ _ h => h) (by assumption) (by rfl) ?_ ?_
          rotate_left
          · (intro w hSw; (try dsimp only at hSw); go_simp) <;> (with_reducible rfl)
          (try simp only [Act.put, List.setIfInBounds_toArray, List.set_cons_zero, List.set_cons_succ])
          refine wpAnyH_done (by kernel_rfl) ?_ _
          skip
          go_wp2_with fail
          exact ⟨⟨c + 1, by omega, by simp, Ba.out, Bo.out, Bq.out, HF.out⟩, by simp [intOf]; omega⟩
        have U5 := Lib.hid (T5.out c r hcm hrm hin)
        have U6 := Lib.hid (T6.out c r hcm hrm)
        obtain ⟨u, hu⟩ : ∃ u, u = P.at_ c r := ⟨_, rfl⟩
        rw [← hu] at U5 U6
        have hd : decide (X0 ≤ c) = false ∨ (decide (X0 ≤ c) = true ∧ decide ((c : Int) < (X0 : Int) + (n : Int)) = false) ∨ (decide (X0 ≤ c) = true ∧ decide ((c : Int) < (X0 : Int) + (n : Int)) = true ∧ decide (X1 ≤ r) = false) ∨ (decide (X0 ≤ c) = true ∧ decide ((c : Int) < (X0 : Int) + (n : Int)) = true ∧ decide (X1 ≤ r) = true ∧ decide ((r : Int) < (X1 : Int) + (n : Int)) = false) := by
          simp only [decide_eq_true_eq, decide_eq_false_iff_not]
          omega
        clear hu hin T5 T6
        rcases hd with d1 | ⟨d1, d2⟩ | ⟨d1, d2, d3⟩ | ⟨d1, d2, d3, d4⟩
        all_goals
          go_upto_region 17 with fail
          have hf := (Fr.refl [] wr).drew
          replace Ba := Lib.hid (Ba.out.fr0 hf)
          replace Bo := Lib.hid (Bo.out.fr0 hf)
          replace Bq := Lib.hid (Bq.out.fr0 hf)
          replace HF := Lib.hid (HF.out.trans hf (by simp))
          clear hf
          have ia0 := Ba.out.bk.cell 0
          have ia1 := Ba.out.bk.cell 1
          have ia2 := Ba.out.bk.cell 2
          have iq0 := Bq.out.bk.cell 0
          have iq1 := Bq.out.bk.cell 1
          have iq2 := Bq.out.bk.cell 2
          simp at ia0 ia1 ia2 iq0 iq1 iq2
          refine wp_region_held_drew (S := fun W => W.cell? ⟨ga, 0, none⟩ = some (.int .i64 aW) ∧ W.cell? ⟨ga, 1, none⟩ = some (.int .i64 aH) ∧ W.cell? ⟨ga, 2, none⟩ = some (.slice aA an ac) ∧ W.cell? ⟨gq, 0, none⟩ = some (.int .i64 qW) ∧ W.cell? ⟨gq, 1, none⟩ = some (.int .i64 qH) ∧ W.cell? ⟨gq, 2, none⟩ = some (.slice qA qn qc)) (by kernel_rfl) ?_ (fun hHeld => ?_)
          · (first | exact ⟨ka0, ka1, ka2, kq0, kq1, kq2⟩ | exact ⟨ja0, ja1, ja2, jq0, jq1, jq2⟩ | exact ⟨ia0, ia1, ia2, iq0, iq1, iq2⟩)
          refine wpAnyH_pick 0 (v := ?_) rfl (by kernel_rfl) (by kernel_rfl) (by kernel_rfl) (fun _ _ _ h => h) (by assumption) (by rfl) ?_ ?_
          rotate_left
          · (intro w hSw; (try dsimp only at hSw); go_simp) <;> (with_reducible rfl)
          (try simp only [Act.put, List.setIfInBounds_toArray, List.set_cons_zero, List.set_cons_succ])
          refine wpAnyH_pick 1 (v := ?_) rfl (by kernel_rfl) (by kernel_rfl) (by kernel_rfl) (fun _ _ _ h => h) (by assumption) (by rfl) ?_ ?_
          rotate_left
          · (intro w hSw; (try dsimp only at hSw); go_simp) <;> (with_reducible rfl)
          (try simp only [Act.put, List.setIfInBounds_toArray, List.set_cons_zero, List.set_cons_succ])
          refine wpAnyH_pick 2 (v := ?_) rfl (by kernel_rfl) (by kernel_rfl) (by kernel_rfl) (fun _ _ _ h => h) (by assumption) (by rfl) ?_ ?_
          rotate_left
          · (intro w hSw; (try dsimp only at hSw); go_simp) <;> (with_reducible rfl)
          (try simp only [Act.put, List.setIfInBounds_toArray, List.set_cons_zero, List.set_cons_succ])
          refine wpAnyH_pick 3 (v := ?_) rfl (by kernel_rfl) (by kernel_rfl) (by kernel_rfl) (fun _ _ _ h => h) (by assumption) (by rfl) ?_ ?_
          rotate_left
          · (intro w hSw; (try dsimp only at hSw); go_simp) <;> (with_reducible rfl)
          (try simp only [Act.put, List.setIfInBounds_toArray, List.set_cons_zero, List.set_cons_succ])
          refine wpAnyH_pick 4 (v := ?_) rfl (by kernel_rfl) (by kernel_rfl) (by kernel_rfl) (fun _ _ _ h => h) (by assumption) (by rfl) ?_ ?_
          rotate_left
          · (intro w hSw; (try dsimp only at hSw); go_simp) <;> (with_reducible rfl)
          (try simp only [Act.put, List.setIfInBounds_toArray, List.set_cons_zero, List.set_cons_succ])
          refine wpAnyH_pick 5 (v := ?_) rfl (by kernel_rfl) (by kernel_rfl) (by kernel_rfl) (fun _ _ _ h => h) (by assumption) (by rfl) ?_ ?_
          rotate_left
          · (intro w hSw; (try dsimp only at hSw); go_simp) <;> (with_reducible rfl)
          (try simp only [Act.put, List.setIfInBounds_toArray, List.set_cons_zero, List.set_cons_succ])
          refine wpAnyH_pick 7 (v := ?_) rfl (by kernel_rfl) (by kernel_rfl) (by kernel_rfl) (fun _ _ _ h => h) (by assumption) (by rfl) ?_ ?_
          rotate_left
          · (intro w hSw; (try dsimp only at hSw); go_simp) <;> (with_reducible rfl)
          (try simp only [Act.put, List.setIfInBounds_toArray, List.set_cons_zero, List.set_cons_succ])
          refine wpAnyH_pick 8 (v := ?_) rfl (by kernel_rfl) (by kernel_rfl) (by kernel_rfl) (fun _ _ _ h => h) (by assumption) (by rfl) ?_ ?_
          rotate_left
          · (intro w hSw; (try dsimp only at hSw); go_simp) <;> (with_reducible rfl)
          (try simp only [Act.put, List.setIfInBounds_toArray, List.set_cons_zero, List.set_cons_succ])
          refine wpAnyH_pick 9 (v := ?_) rfl (by kernel_rfl) (by kernel_rfl) (by kernel_rfl) (fun _ _ _ h => h) (by assumption) (by rfl) ?_ ?_
          rotate_left
          · (intro w hSw; (try dsimp only at hSw); go_simp) <;> (with_reducible rfl)
          (try simp only [Act.put, List.setIfInBounds_toArray, List.set_cons_zero, List.set_cons_succ])
          refine wpAnyH_ready (rs := [6]) (by kernel_rfl) (by simp) ?_
          refine AllReadyH_pick rfl (fun K hK => ?_) (AllReadyH.nil)
          go_simp
          refine (U5.out _ _ Bq.out.has).mono ?_
          rintro e w11 ⟨rfl, hf⟩
          replace Ba := Lib.hid (Ba.out.fr0 hf)
          replace Bo := Lib.hid (Bo.out.fr0 hf)
          replace Bq := Lib.hid (Bq.out.fr0 hf)
          replace HF := Lib.hid (HF.out.trans hf (by simp))
          clear hf
          have ja0 := Ba.out.bk.cell 0
          have ja1 := Ba.out.bk.cell 1
          have ja2 := Ba.out.bk.cell 2
          have jq0 := Bq.out.bk.cell 0
          have jq1 := Bq.out.bk.cell 1
          have jq2 := Bq.out.bk.cell 2
          simp at ja0 ja1 ja2 jq0 jq1 jq2
          go_wp2_with fail
          refine hK.out _ _ ?_ (fun hHeld => ?_)
          · (first | exact ⟨ka0, ka1, ka2, kq0, kq1, kq2⟩ | exact ⟨ja0, ja1, ja2, jq0, jq1, jq2⟩ | exact ⟨ia0, ia1, ia2, iq0, iq1, iq2⟩)
          clear hK K
          (try simp only [Act.put, List.setIfInBounds_toArray, List.set_cons_zero, List.set_cons_succ])
          refine wpAnyH_ready (rs := [10]) (by kernel_rfl) (by simp) ?_
          refine AllReadyH_pick rfl (fun K hK => ?_) (AllReadyH.nil)
          go_simp
          refine (U6.out _ _ Ba.out.has).mono ?_
          rintro e w12 ⟨rfl, hf⟩
          replace Ba := Lib.hid (Ba.out.fr0 hf)
          replace Bo := Lib.hid (Bo.out.fr0 hf)
          replace Bq := Lib.hid (Bq.out.fr0 hf)
          replace HF := Lib.hid (HF.out.trans hf (by simp))
          clear hf
          have ka0 := Ba.out.bk.cell 0
          have ka1 := Ba.out.bk.cell 1
          have ka2 := Ba.out.bk.cell 2
          have kq0 := Bq.out.bk.cell 0
          have kq1 := Bq.out.bk.cell 1
          have kq2 := Bq.out.bk.cell 2
          simp at ka0 ka1 ka2 kq0 kq1 kq2
          go_wp2_with fail
          refine hK.out _ _ ?_ (fun hHeld => ?_)
          · (first | exact ⟨ka0, ka1, ka2, kq0, kq1, kq2⟩ | exact ⟨ja0, ja1, ja2, jq0, jq1, jq2⟩ | exact ⟨ia0, ia1, ia2, iq0, iq1, iq2⟩)
          clear hK K
          (try simp only [Act.put, List.setIfInBounds_toArray, List.set_cons_zero, List.set_cons_succ])
          refine wpAnyH_pick 11 (v := ?_) rfl (by kernel_rfl) (by kernel_rfl) (by kernel_rfl) (fun _ _ _ h => h) (by assumption) (by rfl) ?_ ?_
          rotate_left
          · (intro w hSw; (try dsimp only at hSw); go_simp) <;> (with_reducible rfl)
          (try simp only [Act.put, List.setIfInBounds_toArray, List.set_cons_zero, List.set_cons_succ])
          refine wpAnyH_pick 12 (v := ?_) rfl (by kernel_rfl) (by kernel_rfl) (by kernel_rfl) (fun _ _ _ h => h) (by assumption) (by rfl) ?_ ?_
          rotate_left
          · (intro w hSw; (try dsimp only at hSw); go_simp) <;> (with_reducible rfl)
          (try simp only [Act.put, List.setIfInBounds_toArray, List.set_cons_zero, List.set_cons_succ])
          refine wpAnyH_done (by kernel_rfl) ?_ _
          skip
          go_wp2_with fail
          exact ⟨⟨c + 1, by omega, by simp, Ba.out, Bo.out, Bq.out, HF.out⟩, by simp [intOf]; omega⟩
    · go_wp2_with fail
      refine (HA.out _).mono ?_
      rintro e w51 ⟨rfl, hf⟩
      replace HF := Lib.hid (HF.out.trans hf (by simp))
      clear hf
      go_wp2_with fail
      go_ret
      exact ⟨rfl, HF.out⟩
end Go.Proofs.Ytlcjlgdcleenlaa

/-
  The statement PlaneThere out of the contracts.
-/
namespace Go.Proofs.Ytlcjlgdcleenlaa
open Go.ChangeShapes Go.WideShapes Go.ChangeAt Go.RowKit

set_option maxRecDepth 100000 in
theorem there6_lifted (Z : PlaneSpec) (os : Os) (started : os.Started) (H : Type) (enc : TypeId × Value → H) :
    ReturnsInHanded {} Try.checked os 6 .any (Rows.planeThereSpec.pre6 enc Try.prog Try.f6 Rows.planeThereRow.domain false) (Rows.planeThereSpec.post enc Try.prog Try.f6 false true false false) := by
  refine law_lift (C := Try.checked) own_knob started (by kernel_rfl) Try.func6
    (ChangeSpec.witness6 (enc := enc) (C := Try.checked) false ⟨#[], #[.agg #[.int .i64 0, .int .i64 0, .slice none 0 0], .agg #[.int .i64 0, .int .i64 0, .int .i64 0], .slice none 0 0], []⟩ 8 (by kernel_rfl) (by kernel_rfl) (by kernel_rfl) (by kernel_rfl))
    laid_out rfl rfl Try.underlying4 (of_decide_eq_true (by kernel_rfl)) ?_
  intro W base args ds before hval0 hA0 hlt
  have hval : ∀ (j : Nat) t v, Try.f6.params[j]? = some t → args[j]? = some v → Value.okWide Try.prog W .any base t v := hval0
  have hA : DataW.TrodAll enc Try.prog W 0 (fun _ => true) true Try.f6.params.toList args.toList ds before := hA0
  rw [Try.params6] at hA hval
  obtain ⟨v0, v1, v2, d0, d1, d2, p0, p1, p2, rfl, rfl, -, ⟨fuel0, h0⟩, ⟨fuel1, h1⟩, ⟨fuel2, h2⟩⟩ := trodAll_three hA
  obtain ⟨l0, rfl⟩ := okWide_structN Try.underlying25 (hval 0 _ _ rfl rfl)
  obtain ⟨a0, P0, e0, hp0, n0⟩ := open_plane h0
  have e0' : l0 = [.int .i64 a0.W, .int .i64 a0.H, .slice a0.A a0.n a0.c] := e0
  rw [e0']
  obtain ⟨l1, rfl⟩ := okWide_rowN Try.underlying36 (hval 1 _ _ rfl rfl)
  obtain ⟨i1, j1, k1, e1, ji1, jj1, jk1⟩ := open_arr3 h1
  have e1' : l1 = [.int .i64 i1, .int .i64 j1, .int .i64 k1] := e1
  rw [e1']
  obtain ⟨A2, l2, c2, rfl⟩ := okWide_slice Try.underlying23 (hval 2 _ _ rfl rfl)
  obtain ⟨S2, n2, k2, bs2, e2, hb2, hn2, hs2⟩ := open_bytes (v := .slice A2 l2 c2) h2
  rw [e2]
  simp only [maxLen] at hn2
  exact ⟨rfl, (there6_law Z a0 P0 i1 j1 k1 S2 n2 k2 bs2 W hp0 hs2 hb2.symm n0 hn2 ji1 jj1 jk1).mono fun e W' ⟨he, hf⟩ => ⟨he, hf.below (by simp) (Nat.le_refl _)⟩⟩

theorem there6_holds_of (Z : PlaneSpec) : Rows.PlaneThereSaid :=
  OpenClaim.holds_of_wide 6 Try.f6 rfl rfl rfl rfl rfl rfl rfl ⟨rfl, rfl, rfl, rfl, rfl⟩ rfl rfl rfl rfl rfl (by kernel_rfl) Try.func6 (by kernel_rfl)
    (of_decide_eq_true (by kernel_rfl)) (by unfold Func.isWrapper; first | (rw [if_pos (by decide +kernel)]; kernel_rfl) | (rw [if_neg (by decide +kernel)]; exact ⟨rfl, rfl⟩))
    (fun os started H enc _ => there6_lifted Z os started H enc)
end Go.Proofs.Ytlcjlgdcleenlaa

/-
  The law PlaneThere answers true whatever its input, and leaves its arguments as they were; no condition.
-/
namespace Go.Proofs.Ytlcjlgdcleenlaa
open Go.RowKit

theorem there6_holds : Rows.PlaneThereSaid := there6_holds_of planeI
#print axioms there6_holds
end Go.Proofs.Ytlcjlgdcleenlaa
