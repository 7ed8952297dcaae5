/-
  The program's encoder: Put; conditions: the code is at most as long as named.
-/
import Derived.Test.YtfjlepnodmeaaaaCod2
import Derived.Test.YtfjlepnodmeaaaaRef4b
namespace Go.Proofs.Ytfjlepnodmeaaaa
open Go.RowKit

theorem PeFr.own {p : Nat} {v : Value} {w w' : World} (h : Fr (p :: v.ownBlock.toList) w w') : PeFr p v v w w' := ⟨h, .inl rfl⟩

set_option maxRecDepth 100000 in
set_option maxHeartbeats 4000000 in
theorem pput_ok (p : Nat) (v : Value) (e : Enc) (c : Nat) (bit : Bool) (w : World) (h : Pe w p v e) (he : e.Ok) (hc : rightC c) (hn : e.n ≤ 1000000) :
    Calls Try.prog 57 #[pt p, .int .u16 (c : Int), .int .i64 (bit.toNat : Int)] w fun e' w' => e' = .returned (.int .i64 0) ∧ ∃ v', Pe w' p v' (encPut e c bit) ∧ PeFr p v v' w w' := by
  have e0 : decide (rightC c) = true := decide_eq_true hc
  have HC := Lib.hid (isOne_any c w)
  have HBd := Lib.hid (bound_any c e.r w hc he.lo he.hi)
  obtain ⟨B, hB⟩ : ∃ B, B = bnd e.r c := ⟨_, rfl⟩
  have hb1 := bnd_lo he.lo hc
  have hb2 := bnd_hi he.lo hc
  have hr2 := he.hi
  rw [← hB] at hb1 hb2 HBd
  have hfit := he.fit
  obtain ⟨E1, hE1⟩ : ∃ E1, E1 = encBit e c bit := ⟨_, rfl⟩
  have hpo : (encScale E1).Ok := by rw [hE1]; exact encPut_ok he hc bit
  have hpo := Lib.hid hpo
  obtain ⟨E2, hE2⟩ : ∃ E2, encScale E1 = E2 := ⟨_, rfl⟩
  rw [show encPut e c bit = E2 by rw [← hE2, hE1]; rfl]
  have HE2 := Lib.hid hE2
  have hEn : E1.n ≤ 1000000 := by rw [hE1, (encBit_facts he hc bit).1]; exact hn
  have hEr : 253952 ≤ E1.r ∧ E1.r ≤ 4294967295 := by
    obtain ⟨q1, q2, q3, q4, q5⟩ := encBit_facts he hc bit
    rw [hE1]; omega
  have h1 := h.1.cell 1
  have h1f := h.1.frozen 1
  have hlt := h.1.lt
  simp at h1
  have hadd := fun hb : bit = true => padd_any p v e B w h (by omega) (by omega) (by omega)
  obtain ⟨R, hR⟩ : ∃ R, R = e.r := ⟨_, rfl⟩
  rw [← hR] at h1 hb2 hr2 HBd
  have H := Lib.hid h
  have HB := Lib.hid hB
  have HR := Lib.hid hR
  have HE1 := Lib.hid hE1
  have HEr := Lib.hid hEr
  have HAdd := Lib.hid hadd
  clear h hB hR hc he hE1 hE2 hEr hadd
  cases bit
  case' false =>
    have h3 : Pe (w.setCell ⟨p, 1, none⟩ (.int .u32 (B : Int))) p v E1 := by
      have := H.out.span B
      rw [HE1.out]
      unfold encBit
      rw [if_neg (by simp), ← HB.out]
      exact this
    have hF3 : PeFr p v v w (w.setCell ⟨p, 1, none⟩ (.int .u32 (B : Int))) := PeFr.own ((Fr.refl (p :: v.ownBlock.toList) w).setCell (p := ⟨p, 1, none⟩) (.inl (by simp)) (.int .u32 (B : Int)))
    have H3 := Lib.hid h3
    have HF3 := Lib.hid hF3
    clear h3 hF3
    go_enter Try.func57, Try.ntmps57
    go_wp2_with fail
    refine HC.out.mono ?_
    rintro e1 w' ⟨rfl, rfl⟩
    rw [e0]
    go_wp2_with fail
    refine HBd.out.mono ?_
    rintro e1 w2 ⟨rfl, rfl⟩
    clear HC HBd HAdd
    go_upto_region 8 with fail
    generalize w2.setCell ⟨p, 1, none⟩ (.int .u32 (B : Int)) = w4 at H3 HF3 ⊢
    clear h1 h1f hlt
  case' true =>
    obtain ⟨S, hS⟩ : ∃ S, S = R - B := ⟨_, rfl⟩
    have eS : (R : Int) - (B : Int) = (S : Int) := by omega
    have HS := Lib.hid hS
    clear hS
    go_enter Try.func57, Try.ntmps57
    go_wp2_with fail
    refine HC.out.mono ?_
    rintro e1 w' ⟨rfl, rfl⟩
    rw [e0]
    go_wp2_with fail
    refine HBd.out.mono ?_
    rintro e1 w2 ⟨rfl, rfl⟩
    clear HC HBd
    go_wp2_with fail
    refine (HAdd.out trivial).mono ?_
    rintro e1 w3 ⟨rfl, hR3, hF3⟩
    have h3 : Pe (w3.setCell ⟨p, 1, none⟩ (.int .u32 (S : Int))) p v E1 := by
      have := hR3.span S
      rw [HE1.out]
      unfold encBit
      rw [if_pos rfl, ← HB.out, ← HR.out, ← HS.out]
      exact this
    have c1 := hR3.1.cell 1
    have f1 := hR3.1.frozen 1
    have hl3 := hR3.1.lt
    simp at c1
    rw [← HR.out] at c1
    have hF3 : PeFr p v v w2 (w3.setCell ⟨p, 1, none⟩ (.int .u32 (S : Int))) := PeFr.own ((hF3.mono (S' := p :: v.ownBlock.toList) (fun x hx => .inl (List.mem_cons_of_mem _ hx))).setCell (.inl (by simp)) _)
    have H3 := Lib.hid h3
    have HF3 := Lib.hid hF3
    clear h3 hF3 hR3 h1 h1f HAdd
    go_upto_region 8 with fail
    generalize w3.setCell ⟨p, 1, none⟩ (.int .u32 (S : Int)) = w4 at H3 HF3 ⊢
    clear c1 f1 hl3 eS HS hlt
  all_goals
    have c1 := H3.out.1.cell 1
    have f1 := H3.out.1.frozen 1
    have hl := H3.out.1.lt
    simp at c1
    obtain ⟨r, hr⟩ : ∃ r, r = E1.r := ⟨_, rfl⟩
    rw [← hr] at c1
    have HN := Lib.hid (isNarrow_any r w4)
    have Hr := Lib.hid hr
    have hr3 : r ≤ 4294967295 := by have := HEr.out.2; omega
    clear hr
    by_cases hlt : r < 16777216
    · rw [decide_eq_true hlt] at HN
      obtain ⟨M, hM⟩ : ∃ M, M = r * 256 := ⟨_, rfl⟩
      have eM : (r : Int) * 256 = (M : Int) := by omega
      have eM2 : (M : Int) % 4294967296 = (M : Int) := by omega
      have HM := Lib.hid hM
      have Hlt := Lib.hid hlt
      clear hlt hM
      go_wp2_with fail
      refine HN.out.mono ?_
      rintro e1 w5 ⟨rfl, rfl⟩
      go_upto_region 10 with fail
      have h6 := H3.out.span M
      obtain ⟨g, cc, hv, -⟩ := H3.out.form
      have hF6 : Fr [p] w5 (w5.setCell ⟨p, 1, none⟩ (.int .u32 (M : Int))) := (Fr.refl _ _).setCell (.inl (by simp)) _
      generalize w5.setCell ⟨p, 1, none⟩ (.int .u32 (M : Int)) = w6 at h6 hF6 ⊢
      clear c1 f1 hl
      have c0 := h6.1.cell 0
      have hl6 := h6.1.lt
      simp at c0
      have H6 := Lib.hid h6
      have HF6 := Lib.hid hF6
      rw [hv] at c0
      have Hv := Lib.hid hv
      clear h6 hF6 hv
      go_wp2_with (at_builtin; refine wp_append_u8 _ _ (.slice g E1.n cc) (bytesOf E1.n E1.v) (.slice (some ⟨w6.heap.size, 0, none⟩) 1 1) [0] rfl rfl rfl rfl (by rw [← Hv.out]; exact H6.out.2.1.alloc _) (Src.one (by simp [go_sem]; rfl)) (by simp; omega) ?_)
      intro v7 w7 hO7 hG7
      rw [← Hv.out] at hG7
      have hB7 := (H6.out.1.alloc (.cells #[.int .u8 0] 5)).fr hG7.1 (not_own H6.out.2.2)
      have k0 := hB7.cell 0
      have k1 := hB7.frozen 0
      have k2 := hB7.lt
      simp at k0
      have hlen7 : ((bytesOf E1.n E1.v).map B8 ++ [B8 0]).length = E1.n + 1 := by simp
      obtain ⟨g7, cap7, hv7, -, -, -, -⟩ := hO7.last (i := E1.n) hlen7
      have hne7 : v7.ownBlock ≠ some p := by
        rcases hG7.2 with e' | ⟨g5, e', hg⟩
        · rw [e']; exact H6.out.2.2
        · rw [e']; intro h; injection h with h; simp at hg; omega
      have hR7 : Pe (w7.setCell ⟨p, 0, none⟩ v7) p v7 E2 := by
        rw [← HE2.out, encScale_more (by rw [← Hr.out]; exact Hlt.out), ← Hr.out, ← HM.out]
        refine ⟨?_, ?_, hne7⟩
        · have := hB7.set_ 0 v7
          simpa using this
        · rw [bytesOf_zero, List.map_append]
          exact hO7.fr (S := [p]) ((Fr.refl _ _).setCell (.inl (by simp)) _) (fun k hk hm => by simp at hm; subst hm; exact hne7 hk)
      have hF7 : PeFr p v v7 w2 (w7.setCell ⟨p, 0, none⟩ v7) := by
        obtain ⟨q1, -⟩ := HF3.out
        have q3 := HF6.out
        refine ⟨((((q1.trans q3 (by simp)).alloc _).trans hG7.1 (fun x hx => .inl (List.mem_cons_of_mem _ hx)))).setCell (.inl (by simp)) _, ?_⟩
        have hs := q1.size
        have hs4 := q3.size
        rcases hG7.2 with e' | ⟨g5, e', hg⟩
        · exact .inl e'
        · exact .inr ⟨g5, e', by simp at hg; omega⟩
      have HR7 := Lib.hid hR7
      have HF7 := Lib.hid hF7
      obtain ⟨n1, hn1⟩ : ∃ n1, n1 = E1.n := ⟨_, rfl⟩
      rw [← hn1] at hv7
      have HNN := Lib.hid hn1
      clear hn1
      clear hR7 hF7 hO7 hG7 hB7 hne7 hlen7
      subst hv7
      go_wp2_with fail
      go_ret
      exact ⟨rfl, _, HR7.out, HF7.out⟩
    · rw [decide_eq_false hlt] at HN
      have Hlt := Lib.hid hlt
      clear hlt
      go_wp2_with fail
      refine HN.out.mono ?_
      rintro e1 w5 ⟨rfl, rfl⟩
      go_wp2_with fail
      go_ret
      refine ⟨rfl, v, ?_, HF3.out⟩
      rw [← HE2.out, encScale_same (by rw [← Hr.out]; exact Hlt.out)]
      exact H3.out
end Go.Proofs.Ytfjlepnodmeaaaa
