/-
  What several laws' proofs lean on, part 2; each part says its conditions below.
-/
import Derived.Deep.WholeRow
import Derived.Lib.SliceRun
import Derived.Test.YtendcmdpmohacaaAll1
/-
  Contracts of the document's coder of layer 4: Put, Bytes; conditions: the code is at most as long as named.
-/
namespace Go.Proofs.Ytendcmdpmohacaa
open Go.RowKit

theorem info_int : (Try.prog.info? 3).map (fun i => (i.zero, i.size, i.bytes)) = some (some (.int .i64 0), 1, 8) := by kernel_rfl
theorem I8_one (xs : List UInt8) : ∀ u ∈ xs.map I8, u.oneCell' = true := by
  intro u hu
  obtain ⟨b, _, rfl⟩ := List.mem_map.1 hu
  rfl
/-- append onto numbers of the call's own. -/
theorem wp_append_int {w : World} {ops : Array Oper} {rest : List Oper} {o : Oper} {a : Act} {Q : Exit → Act → World → Prop} (s x : Operand) (v : Value) (xs : List UInt8) (src : Value) (news : List UInt8)
    (hgd : o.guard = none) (ho : o.op = .call { callee := .builtin .append, args := #[s, x], argTypes := #[29, 29] })
    (hv : a.eval s = v) (hsv : a.eval x = src) (hown : Own w 3 v (xs.map I8)) (hs : Src w src (news.map I8)) (hlen : xs.length + news.length ≤ 1000000000000)
    (h : ∀ v' w', Own w' 3 v' ((xs ++ news).map I8) → Own1 v v' w w' → wpList Try.prog ops Q rest (a.put o.dst v') w') : wpList Try.prog ops Q (o :: rest) a w := by
  obtain ⟨i, hi, hz, h1, h2⟩ := info_parts info_int
  refine wpList_append_mine s x 29 3 i _ 8 hgd ho Try.underlying29 hi hz h1 h2 rfl v _ src _ hv hsv hown hs (I8_one news) ?_ ?_ ?_
  · simp only [List.length_map, maxLen]; omega
  · simp only [List.length_map]; omega
  · intro v' w' k1 k2
    exact h v' w' (by rw [List.map_append]; exact k1) k2

theorem rput_bad (a : Value) (c : Nat) (bit : Int) (w : World) (h : ¬ (rightC c ∧ (bit = 0 ∨ bit = 1))) :
    Calls Try.prog 84 #[a, .int .i64 (c : Int), .int .i64 bit] w fun e w' => e = .returned (.int .i64 1) ∧ w' = w := by
  by_cases hc : rightC c
  · have e0 : decide (rightC c) = true := decide_eq_true hc
    have h0 : bit ≠ 0 := fun e => h ⟨hc, .inl e⟩
    have h1 : bit ≠ 1 := fun e => h ⟨hc, .inr e⟩
    have e1 : (bit != 0) = true := by simp [h0]
    have e2 : (bit != 1) = true := by simp [h1]
    have HC := Lib.hid (rright_any c w)
    clear h hc h0 h1
    go_enter Try.func84, Try.ntmps84
    go_wp2_with fail
    refine HC.out.mono ?_
    rintro e w' ⟨rfl, rfl⟩
    rw [e0]
    go_wp2_with fail
    go_ret
    exact ⟨rfl, rfl⟩
  · have e0 : decide (rightC c) = false := decide_eq_false hc
    have HC := Lib.hid (rright_any c w)
    clear h hc
    go_enter Try.func84, Try.ntmps84
    go_wp2_with fail
    refine HC.out.mono ?_
    rintro e w' ⟨rfl, rfl⟩
    rw [e0]
    go_wp2_with fail
    go_ret
    exact ⟨rfl, rfl⟩

theorem encScale_same {e : Enc} (h : ¬ e.r < 16777216) : encScale e = e := by unfold encScale; rw [if_neg h]
theorem encScale_more {e : Enc} (h : e.r < 16777216) : encScale e = ⟨e.v * 256, e.n + 1, e.r * 256⟩ := by unfold encScale; rw [if_pos h]

theorem Re.form {w : World} {p : Nat} {v : Value} {e : Enc} (h : Re w p v e) : ∃ g c, v = .slice g e.n c := by
  rcases h.2.1.form with ⟨rfl, h0⟩ | ⟨g, cap, cur, rfl, -⟩
  · have := congrArg List.length h0
    simp at this
    exact ⟨none, 0, by rw [this]⟩
  · exact ⟨_, _, by simp; exact ⟨rfl, rfl⟩⟩

/-- Another range stored. -/
theorem Re.span {w : World} {p : Nat} {v : Value} {e : Enc} (h : Re w p v e) (r : Nat) : Re (w.setCell ⟨p, 1, none⟩ (.int .i64 (r : Int))) p v ⟨e.v, e.n, r⟩ := by
  refine ⟨?_, h.2.1.fr (S := [p]) ((Fr.refl _ _).setCell (.inl (by simp)) _) (fun k hk hm => ?_), h.2.2⟩
  · have := h.1.set_ 1 (.int .i64 (r : Int))
    simpa using this
  · simp at hm; subst hm; exact h.2.2 hk

theorem ReFr.refl (p : Nat) (v : Value) (w : World) : ReFr p v v w w := ⟨Fr.refl _ _, .inl rfl⟩
theorem ReFr.own {p : Nat} {v : Value} {w w' : World} (h : Fr (p :: v.ownBlock.toList) w w') : ReFr p v v w w' := ⟨h, .inl rfl⟩

set_option maxRecDepth 100000 in
set_option maxHeartbeats 4000000 in
theorem rput_ok (p : Nat) (v : Value) (e : Enc) (c : Nat) (bit : Bool) (w : World) (h : Re w p v e) (he : e.Ok) (hc : rightC c) (hn : e.n ≤ 1000000) :
    Calls Try.prog 84 #[.pointer (some ⟨p, 0, none⟩), .int .i64 (c : Int), .int .i64 (bit.toNat : Int)] w fun e' w' => e' = .returned (.int .i64 0) ∧ ∃ v', Re w' p v' (encPut e c bit) ∧ ReFr p v v' w w' := by
  have e0 : decide (rightC c) = true := decide_eq_true hc
  have HC := Lib.hid (rright_any c w)
  obtain ⟨B, hB⟩ : ∃ B, B = bnd e.r c := ⟨_, rfl⟩
  have hb1 := bnd_lo he.lo hc
  have hb2 := bnd_hi he.lo hc
  have hr2 := he.hi
  rw [← hB] at hb1 hb2
  have eB : (e.r : Int) / 2048 * (c : Int) = (B : Int) := by rw [hB]; unfold bnd; simp
  have hfit := he.fit
  obtain ⟨E1, hE1⟩ : ∃ E1, E1 = encBit e c bit := ⟨_, rfl⟩
  have hpo : (encScale E1).Ok := by rw [hE1]; exact encPut_ok he hc bit
  have hpo := Lib.hid hpo
  have hE2 : encScale E1 = encPut e c bit := by rw [hE1]; rfl
  have HE2 := Lib.hid hE2
  have hEn : E1.n ≤ 1000000 := by rw [hE1, (encBit_facts he hc bit).1]; exact hn
  have h1 := h.1.cell 1
  have h1f := h.1.frozen 1
  have hlt := h.1.lt
  simp at h1
  obtain ⟨R, hR⟩ : ∃ R, R = e.r := ⟨_, rfl⟩
  have H := Lib.hid h
  cases bit
  · have h3 : Re (w.setCell ⟨p, 1, none⟩ (.int .i64 (B : Int))) p v E1 := by
      have := H.out.span B
      rw [hE1, hB]
      rw [hB] at this
      exact this
    rw [← hR] at eB h1 hb2 hr2
    have hF3 : ReFr p v v w (w.setCell ⟨p, 1, none⟩ (.int .i64 (B : Int))) := ReFr.own ((Fr.refl (p :: v.ownBlock.toList) w).setCell (p := ⟨p, 1, none⟩) (.inl (by simp)) (.int .i64 (B : Int)))
    have HB := Lib.hid hB
    have HR := Lib.hid hR
    clear h hB hR hc he hE1 hE2
    go_enter Try.func84, Try.ntmps84
    go_wp2_with fail
    refine HC.out.mono ?_
    rintro e1 w' ⟨rfl, rfl⟩
    rw [e0]
    clear HC e0
    have H3' := Lib.hid h3; clear h3
    have HF3' := Lib.hid hF3; clear hF3
    go_wp2_with fail
    have h3 := H3'.out
    have hF3 := HF3'.out
    have HF3 := Lib.hid hF3; clear hF3
    have H3 := Lib.hid h3; clear h3
    go_loopw [50] (fun _ wr => ∃ (u : Value) (f : Enc), (f = E1 ∨ f = encScale E1) ∧ Re wr p u f ∧ ReFr p v u w' wr) (fun _ wr => 4294967296 - (intOf ((wr.cell? ⟨p, 1, none⟩).getD undef)).toNat)
    case atStart => exact ⟨v, E1, .inl rfl, H3.out, HF3.out⟩
    case round =>
      obtain ⟨u, f, hf, hR, hF⟩ := hrel
      have Hf := Lib.hid hf; clear hf
      have HF := Lib.hid hF; clear hF
      have c1 := hR.1.cell 1
      have f1 := hR.1.frozen 1
      have hl := hR.1.lt
      simp at c1
      obtain ⟨r, hr⟩ : ∃ r, r = f.r := ⟨_, rfl⟩
      rw [← hr] at c1
      have Hr := Lib.hid hr; clear hr
      have HRe := Lib.hid hR; clear hR
      by_cases hlt2 : r < 16777216
      · have eg : decide ((r : Int) < 16777216) = true := by simp; omega
        have hfe : f = E1 := by
          rcases Hf.out with h0 | h0
          · exact h0
          · have := hpo.out.lo
            rw [← h0, ← Hr.out] at this
            omega
        obtain ⟨M, hM⟩ : ∃ M, M = r * 256 := ⟨_, rfl⟩
        have eM : 256 * (r : Int) = (M : Int) := by omega
        have hMr : r < M ∧ M ≤ 4294967295 := by
          have h0 := hpo.out.lo
          rw [← hfe, encScale_more (by rw [← Hr.out]; exact hlt2), ← Hr.out] at h0
          simp only at h0
          omega
        have h4 := HRe.out.span M
        obtain ⟨g, cc, hu⟩ := HRe.out.form
        have c0 := h4.1.cell 0
        simp at c0
        have hl4 := h4.1.lt
        generalize hW4 : wr.setCell ⟨p, 1, none⟩ (.int .i64 (M : Int)) = w4 at h4 c0 hl4
        have hF4 : Fr [p] wr w4 := by rw [← hW4]; exact (Fr.refl _ _).setCell (.inl (by simp)) _
        have HW4 := Lib.hid hW4; clear hW4
        have HM := Lib.hid hM; clear hM
        have HMr := Lib.hid hMr; clear hMr
        have H4 := Lib.hid h4; clear h4
        have HF4 := Lib.hid hF4; clear hF4
        have hns : f.n ≤ 1000000 := by rw [hfe]; exact hEn
        have Hfe := Lib.hid hfe; clear hfe
        have Hu := Lib.hid hu; clear hu
        go_upto_region 11 with fail
        rw [HW4.out]
        have Hc1 := Lib.hid c1
        clear c1 f1 eM
        rw [Hu.out] at c0
        rw [Hu.out] at H4 HRe HF
        clear Hu
        go_wp2_with (at_builtin; go_loud (refine wp_append_int _ _ (.slice g f.n cc) (bytesOf f.n f.v) (.slice (some ⟨w4.heap.size, 0, none⟩) 1 1) [0] rfl rfl rfl rfl (H4.out.2.1.alloc _) (Src.one (by simp [go_sem]; rfl)) (by simp; omega) ?_))
        intro v5' w5 hO5 hG5
        obtain ⟨g5', cap5, hv5, -, -, -, -⟩ := hO5.last (i := f.n) (by simp)
        obtain ⟨v5, hv5'⟩ : ∃ v5, v5 = Value.slice (some ⟨g5', 0, none⟩) (f.n + 1) cap5 := ⟨_, rfl⟩
        rw [hv5, ← hv5'] at hO5 hG5
        rw [hv5]
        have hB5 := (H4.out.1.alloc (.cells #[.int .i64 0] 3)).fr hG5.1 (not_own H4.out.2.2)
        have k0 := hB5.cell 0
        have k1 := hB5.frozen 0
        have k2 := hB5.lt
        simp at k0
        have hR5 : Re (w5.setCell ⟨p, 0, none⟩ v5) p v5 (encScale E1) := by
          have hne : v5.ownBlock ≠ some p := by
            rcases hG5.2 with e | ⟨g5, e, hg⟩
            · rw [e]; exact H4.out.2.2
            · rw [e]; intro h; injection h with h; simp at hg; omega
          rw [← Hfe.out, encScale_more (by rw [← Hr.out]; exact hlt2), ← Hr.out, ← HM.out]
          refine ⟨?_, ?_, hne⟩
          · have := hB5.set_ 0 v5
            simpa using this
          · rw [bytesOf_zero, List.map_append]
            exact hO5.fr (S := [p]) ((Fr.refl _ _).setCell (.inl (by simp)) _) (fun k hk hm => by simp at hm; subst hm; exact hne hk)
        have hF5 : ReFr p v v5 w' (w5.setCell ⟨p, 0, none⟩ v5) := by
          obtain ⟨q1, q2⟩ := HF.out
          have q0 : ∀ k, (Value.slice g f.n cc).ownBlock = some k → k ∈ p :: v.ownBlock.toList ∨ w'.heap.size ≤ k := by
            intro k hk
            rcases q2 with e | ⟨g5, e, hg⟩
            · rw [e] at hk; exact .inl (by simp [hk])
            · rw [e] at hk; injection hk with hk; subst hk; exact .inr hg
          refine ⟨?_, ?_⟩
          · refine ((((q1.trans HF4.out (by simp)).alloc _).trans hG5.1 (fun x hx => q0 x (by simpa using hx)))).setCell (.inl (by simp)) _
          · have hs := q1.size
            have hs4 := HF4.out.size
            rcases hG5.2 with e | ⟨g5, e, hg⟩
            · rw [e]; exact q2
            · exact .inr ⟨g5, e, by simp at hg; omega⟩
        have H5 := Lib.hid hR5; clear hR5
        have HF5 := Lib.hid hF5; clear hF5 hO5 hG5
        have hm5 : (w5.setCell ⟨p, 0, none⟩ v5).cell? ⟨p, 1, none⟩ = some (.int .i64 (M : Int)) := by
          have := (hB5.set_ 0 v5).cell 1
          simpa using this
        have Hm5 := Lib.hid hm5; clear hm5 hB5
        have HL2 := Lib.hid hlt2; clear hlt2 hv5
        subst hv5'
        go_wp2_with fail
        refine ⟨⟨_, encScale E1, .inr rfl, H5.out, HF5.out⟩, ?_⟩
        rw [Hm5.out, Hc1.out]
        have := HMr.out
        simp only [intOf, Option.getD_some]
        omega
      · have eg : decide ((r : Int) < 16777216) = false := by simp; omega
        have hfe : f = encScale E1 := by
          rcases Hf.out with h0 | h0
          · rw [h0, encScale_same]
            rw [← h0, ← Hr.out]; exact hlt2
          · exact h0
        have Hfe := Lib.hid hfe; clear hfe
        clear hlt2
        go_wp2_with fail
        go_ret
        exact ⟨rfl, u, by rw [← HE2.out, ← Hfe.out]; exact HRe.out, HF.out⟩
  · have hadd := radd_any p v e B w h (by omega) (by omega) (by omega)
    rw [← hR] at eB h1 hb2 hr2
    have HAdd := Lib.hid hadd; clear hadd
    have HB := Lib.hid hB
    have HR := Lib.hid hR
    have HE1 := Lib.hid hE1
    clear h hB hR hc he hE1 hE2
    go_enter Try.func84, Try.ntmps84
    go_wp2_with fail
    refine HC.out.mono ?_
    rintro e1 w' ⟨rfl, rfl⟩
    rw [e0]
    clear HC e0
    go_wp2_with fail
    refine HAdd.out.mono ?_
    rintro e1 w2 ⟨rfl, hR2, hF2⟩
    obtain ⟨S, hS⟩ : ∃ S, S = R - B := ⟨_, rfl⟩
    have eS : (R : Int) - (B : Int) = (S : Int) := by omega
    have c1 := hR2.1.cell 1
    have f1 := hR2.1.frozen 1
    simp at c1
    rw [← HR.out] at c1
    have h3 : Re (w2.setCell ⟨p, 1, none⟩ (.int .i64 (S : Int))) p v E1 := by
      have := hR2.span S
      rw [HE1.out]
      unfold encBit
      rw [if_pos rfl, ← HB.out, ← HR.out, ← hS]
      exact this
    have hF3 : ReFr p v v w' (w2.setCell ⟨p, 1, none⟩ (.int .i64 (S : Int))) := ReFr.own ((hF2.mono (S' := p :: v.ownBlock.toList) (fun x hx => .inl (List.mem_cons_of_mem _ hx))).setCell (.inl (by simp)) _)
    have H3' := Lib.hid h3; clear h3
    have HF3' := Lib.hid hF3; clear hF3
    have HS := Lib.hid hS; clear hS hR2 hF2 h1 h1f
    go_wp2_with fail
    have h3 := H3'.out
    have hF3 := HF3'.out
    have HF3 := Lib.hid hF3; clear hF3
    have H3 := Lib.hid h3; clear h3
    go_loopw [50] (fun _ wr => ∃ (u : Value) (f : Enc), (f = E1 ∨ f = encScale E1) ∧ Re wr p u f ∧ ReFr p v u w' wr) (fun _ wr => 4294967296 - (intOf ((wr.cell? ⟨p, 1, none⟩).getD undef)).toNat)
    case atStart => exact ⟨v, E1, .inl rfl, H3.out, HF3.out⟩
    case round =>
      obtain ⟨u, f, hf, hR, hF⟩ := hrel
      have Hf := Lib.hid hf; clear hf
      have HF := Lib.hid hF; clear hF
      have c1 := hR.1.cell 1
      have f1 := hR.1.frozen 1
      have hl := hR.1.lt
      simp at c1
      obtain ⟨r, hr⟩ : ∃ r, r = f.r := ⟨_, rfl⟩
      rw [← hr] at c1
      have Hr := Lib.hid hr; clear hr
      have HRe := Lib.hid hR; clear hR
      by_cases hlt2 : r < 16777216
      · have eg : decide ((r : Int) < 16777216) = true := by simp; omega
        have hfe : f = E1 := by
          rcases Hf.out with h0 | h0
          · exact h0
          · have := hpo.out.lo
            rw [← h0, ← Hr.out] at this
            omega
        obtain ⟨M, hM⟩ : ∃ M, M = r * 256 := ⟨_, rfl⟩
        have eM : 256 * (r : Int) = (M : Int) := by omega
        have hMr : r < M ∧ M ≤ 4294967295 := by
          have h0 := hpo.out.lo
          rw [← hfe, encScale_more (by rw [← Hr.out]; exact hlt2), ← Hr.out] at h0
          simp only at h0
          omega
        have h4 := HRe.out.span M
        obtain ⟨g, cc, hu⟩ := HRe.out.form
        have c0 := h4.1.cell 0
        simp at c0
        have hl4 := h4.1.lt
        generalize hW4 : wr.setCell ⟨p, 1, none⟩ (.int .i64 (M : Int)) = w4 at h4 c0 hl4
        have hF4 : Fr [p] wr w4 := by rw [← hW4]; exact (Fr.refl _ _).setCell (.inl (by simp)) _
        have HW4 := Lib.hid hW4; clear hW4
        have HM := Lib.hid hM; clear hM
        have HMr := Lib.hid hMr; clear hMr
        have H4 := Lib.hid h4; clear h4
        have HF4 := Lib.hid hF4; clear hF4
        have hns : f.n ≤ 1000000 := by rw [hfe]; exact hEn
        have Hfe := Lib.hid hfe; clear hfe
        have Hu := Lib.hid hu; clear hu
        go_upto_region 11 with fail
        rw [HW4.out]
        have Hc1 := Lib.hid c1
        clear c1 f1 eM
        rw [Hu.out] at c0
        rw [Hu.out] at H4 HRe HF
        clear Hu
        go_wp2_with (at_builtin; go_loud (refine wp_append_int _ _ (.slice g f.n cc) (bytesOf f.n f.v) (.slice (some ⟨w4.heap.size, 0, none⟩) 1 1) [0] rfl rfl rfl rfl (H4.out.2.1.alloc _) (Src.one (by simp [go_sem]; rfl)) (by simp; omega) ?_))
        intro v5' w5 hO5 hG5
        obtain ⟨g5', cap5, hv5, -, -, -, -⟩ := hO5.last (i := f.n) (by simp)
        obtain ⟨v5, hv5'⟩ : ∃ v5, v5 = Value.slice (some ⟨g5', 0, none⟩) (f.n + 1) cap5 := ⟨_, rfl⟩
        rw [hv5, ← hv5'] at hO5 hG5
        rw [hv5]
        have hB5 := (H4.out.1.alloc (.cells #[.int .i64 0] 3)).fr hG5.1 (not_own H4.out.2.2)
        have k0 := hB5.cell 0
        have k1 := hB5.frozen 0
        have k2 := hB5.lt
        simp at k0
        have hR5 : Re (w5.setCell ⟨p, 0, none⟩ v5) p v5 (encScale E1) := by
          have hne : v5.ownBlock ≠ some p := by
            rcases hG5.2 with e | ⟨g5, e, hg⟩
            · rw [e]; exact H4.out.2.2
            · rw [e]; intro h; injection h with h; simp at hg; omega
          rw [← Hfe.out, encScale_more (by rw [← Hr.out]; exact hlt2), ← Hr.out, ← HM.out]
          refine ⟨?_, ?_, hne⟩
          · have := hB5.set_ 0 v5
            simpa using this
          · rw [bytesOf_zero, List.map_append]
            exact hO5.fr (S := [p]) ((Fr.refl _ _).setCell (.inl (by simp)) _) (fun k hk hm => by simp at hm; subst hm; exact hne hk)
        have hF5 : ReFr p v v5 w' (w5.setCell ⟨p, 0, none⟩ v5) := by
          obtain ⟨q1, q2⟩ := HF.out
          have q0 : ∀ k, (Value.slice g f.n cc).ownBlock = some k → k ∈ p :: v.ownBlock.toList ∨ w'.heap.size ≤ k := by
            intro k hk
            rcases q2 with e | ⟨g5, e, hg⟩
            · rw [e] at hk; exact .inl (by simp [hk])
            · rw [e] at hk; injection hk with hk; subst hk; exact .inr hg
          refine ⟨?_, ?_⟩
          · refine ((((q1.trans HF4.out (by simp)).alloc _).trans hG5.1 (fun x hx => q0 x (by simpa using hx)))).setCell (.inl (by simp)) _
          · have hs := q1.size
            have hs4 := HF4.out.size
            rcases hG5.2 with e | ⟨g5, e, hg⟩
            · rw [e]; exact q2
            · exact .inr ⟨g5, e, by simp at hg; omega⟩
        have H5 := Lib.hid hR5; clear hR5
        have HF5 := Lib.hid hF5; clear hF5 hO5 hG5
        have hm5 : (w5.setCell ⟨p, 0, none⟩ v5).cell? ⟨p, 1, none⟩ = some (.int .i64 (M : Int)) := by
          have := (hB5.set_ 0 v5).cell 1
          simpa using this
        have Hm5 := Lib.hid hm5; clear hm5 hB5
        have HL2 := Lib.hid hlt2; clear hlt2 hv5
        subst hv5'
        go_wp2_with fail
        refine ⟨⟨_, encScale E1, .inr rfl, H5.out, HF5.out⟩, ?_⟩
        rw [Hm5.out, Hc1.out]
        have := HMr.out
        simp only [intOf, Option.getD_some]
        omega
      · have eg : decide ((r : Int) < 16777216) = false := by simp; omega
        have hfe : f = encScale E1 := by
          rcases Hf.out with h0 | h0
          · rw [h0, encScale_same]
            rw [← h0, ← Hr.out]; exact hlt2
          · exact h0
        have Hfe := Lib.hid hfe; clear hfe
        clear hlt2
        go_wp2_with fail
        go_ret
        exact ⟨rfl, u, by rw [← HE2.out, ← Hfe.out]; exact HRe.out, HF.out⟩
end Go.Proofs.Ytendcmdpmohacaa

/-
  Contracts of the document's book: topic, place, width, New.
-/
namespace Go.Proofs.Ytendcmdpmohacaa
open Go.RowKit

theorem rtopic_any (t : Int) (w : World) :
    Calls Try.prog 70 #[.int .i64 t] w fun e w' => e = .returned (.bool (decide (0 ≤ t ∧ t ≤ 15))) ∧ w' = w := by
  obtain ⟨T, hT⟩ : ∃ T, T = decide (0 ≤ t ∧ t ≤ 15) := ⟨_, rfl⟩
  rw [← hT]
  by_cases h1 : 0 ≤ t
  · by_cases h2 : t < 16
    · obtain rfl : T = true := by rw [hT]; simp; omega
      have e1 : decide (0 ≤ t) = true := by simpa using h1
      have e2 : decide (t < 16) = true := by simpa using h2
      clear hT
      go_enter Try.func70, Try.ntmps70
      go_wp2_with fail
      go_ret
      exact ⟨rfl, rfl⟩
    · obtain rfl : T = false := by rw [hT]; simp; omega
      have e1 : decide (0 ≤ t) = true := by simpa using h1
      have e2 : decide (t < 16) = false := by simpa using h2
      clear hT
      go_enter Try.func70, Try.ntmps70
      go_wp2_with fail
      go_ret
      exact ⟨rfl, rfl⟩
  · obtain rfl : T = false := by rw [hT]; simp; omega
    have e1 : decide (0 ≤ t) = false := by simpa using h1
    clear hT
    go_enter Try.func70, Try.ntmps70
    go_wp2_with fail
    go_ret
    exact ⟨rfl, rfl⟩

/-- A place as the document's number: below 0 the even one. -/
def plI : Option Nat → Int
  | none => -1
  | some i => (i : Int)
theorem rplace_any (i a : Nat) (w : World) (hi : i ≤ 60) (ha : a ≤ 1099511627776) :
    Calls Try.prog 73 #[.int .i64 (i : Int), .int .i64 (a : Int)] w fun e w' => e = .returned (.int .i64 (plI (place i a))) ∧ w' = w := by
  obtain ⟨z, hz⟩ : ∃ z, z = plI (place i a) := ⟨_, rfl⟩
  rw [← hz]
  have Hz := Lib.hid hz; clear hz
  by_cases h : i < 4
  · have hc : i = 0 ∨ i = 1 ∨ i = 2 ∨ i = 3 := by omega
    rcases hc with rfl | rfl | rfl | rfl
    all_goals
      go_enter Try.func73, Try.ntmps73
      go_wp2_with fail
      go_ret
      refine ⟨?_, rfl⟩
      rw [Hz.out]
      refine congrArg (fun x => Ending.returned (Value.int .i64 x)) (?_ : _ = plI (place _ a))
      unfold plI place
      simp only [Nat.reduceLT, if_true]
      omega
  · have e1 : decide ((4 : Int) ≤ (i : Int)) = true := by simp; omega
    obtain rfl : z = -1 := by
      rw [Hz.out]
      unfold plI place
      rw [if_neg h]
    clear Hz
    go_enter Try.func73, Try.ntmps73
    go_wp2_with fail
    go_ret
    exact ⟨rfl, rfl⟩

/-! The document's book: 592 numbers in a row. -/
def arrI (n : Nat) (f : Nat → Nat) : Array Value := ((List.range n).map fun i => Value.int .i64 (f i : Int)).toArray
theorem arrI_size (n : Nat) (f : Nat → Nat) : (arrI n f).size = n := by simp [arrI]
theorem arrI_get {n : Nat} (f : Nat → Nat) {i : Nat} (h : i < n) : (arrI n f)[i]? = some (.int .i64 (f i : Int)) := by simp [arrI, h]
theorem arrI_congr {n : Nat} {f g : Nat → Nat} (h : ∀ i, i < n → f i = g i) : arrI n f = arrI n g := by
  unfold arrI
  congr 1
  apply List.map_congr_left
  intro i hi
  rw [h i (by simpa using hi)]
theorem arrI_set (n : Nat) (f : Nat → Nat) (i v : Nat) : (arrI n f).setIfInBounds i (.int .i64 (v : Int)) = arrI n (upd f i v) := by
  apply Array.ext_getElem?
  intro j
  rw [Array.getElem?_setIfInBounds, arrI_size]
  by_cases h : j < n
  · rw [arrI_get _ h, arrI_get _ h]
    unfold upd
    by_cases hj : i = j
    · subst hj; simp [h]
    · rw [if_neg hj, if_neg (fun e => hj e.symm)]
  · have : ∀ f, (arrI n f)[j]? = none := fun f => by rw [Array.getElem?_eq_none]; rw [arrI_size]; omega
    rw [this, this]
    split <;> simp_all
theorem arrI_zero (n : Nat) : Array.replicate n (Value.int .i64 0) = arrI n fun _ => 0 := by
  apply Array.ext_getElem?
  intro i
  by_cases h : i < n
  · rw [arrI_get _ h]; simp [h]
  · rw [Array.getElem?_eq_none (by simpa using h), Array.getElem?_eq_none (by rw [arrI_size]; omega)]
def Rb (w : World) (q : Nat) (B : Chs) : Prop := Blk w q 81 (arrI 592 B)
theorem Rb.cell {w : World} {q : Nat} {B : Chs} (h : Rb w q B) {j : Nat} (hj : j < 592) : w.cell? ⟨q, j, none⟩ = some (.int .i64 (B j : Int)) := by rw [Blk.cell h, arrI_get _ hj]
theorem Rb.set {w : World} {q : Nat} {B : Chs} (h : Rb w q B) (j x : Nat) : Rb (w.setCell ⟨q, j, none⟩ (.int .i64 (x : Int))) q (upd B j x) := by
  have := Blk.set_ h j (.int .i64 (x : Int))
  rw [arrI_set] at this
  exact this

theorem zero5 : (Try.prog.info? 81).map (fun i => (i.zero, i.size)) = some (some (.agg (Array.replicate 592 (.int .i64 0))), 592) := by kernel_rfl

set_option maxRecDepth 20000 in
theorem rnewB_any (w : World) :
    Calls Try.prog 22 #[] w fun e w' => ∃ q, e = .returned (.pointer (some ⟨q, 0, none⟩)) ∧ Rb w' q newBook ∧ Fr [] w w' ∧ w.heap.size ≤ q := by
  have z := (zero_of_info zero5).1
  go_enter Try.func22, Try.ntmps22
  go_upto_region 2 with fail
  have hF : Fr [] w (w.alloc (Obj.cells (Array.replicate 592 (Value.int IntKind.i64 0)) 81)) := (Fr.refl _ _).alloc _
  have hB := Blk.new w 81 (Array.replicate 592 (Value.int IntKind.i64 0))
  generalize hw2 : (w.alloc (Obj.cells (Array.replicate 592 (Value.int IntKind.i64 0)) 81)) = w2 at hF hB ⊢
  clear hw2 z
  rw [arrI_zero] at hB
  obtain ⟨q, hq⟩ : ∃ q, q = w.heap.size := ⟨_, rfl⟩
  rw [← hq] at hB ⊢
  have hB0 : Rb w2 q (fun j => if j < 37 * 0 then 1024 else 0) := by
    unfold Rb
    rw [arrI_congr (g := fun _ => 0) (fun i _ => by simp)]
    exact hB
  have HB0 := Lib.hid hB0
  have HF0 := Lib.hid hF
  have Hq := Lib.hid hq
  clear hB0 hF hq hB
  go_wp2_with fail
  go_loopw [2] (fun s2 wr => ∃ t : Nat, t ≤ 16 ∧ s2 = .int .i64 (t : Int) ∧ Rb wr q (fun j => if j < 37 * t then 1024 else 0) ∧ Fr [] w wr) (fun s2 _ => 16 - (intOf s2).toNat)
  case atStart => exact ⟨0, by omega, rfl, HB0.out, HF0.out⟩
  case round =>
    obtain ⟨t, ht, rfl, hB, hF⟩ := hrel
    have HB := Lib.hid hB; have HF := Lib.hid hF
    clear hB hF HB0 HF0
    by_cases h16 : t < 16
    · have e1 : decide ((t : Int) < 16) = true := by simp; omega
      go_wp2_with fail
      go_loopw [3] (fun s3 wr => ∃ i : Nat, i ≤ 37 ∧ s3 = .int .i64 (i : Int) ∧ Rb wr q (fun j => if j < 37 * t + i then 1024 else 0) ∧ Fr [] w wr) (fun s3 _ => 37 - (intOf s3).toNat)
      case atStart => exact ⟨0, by omega, rfl, HB.out, HF.out⟩
      case round =>
        obtain ⟨i, hi, rfl, hB, hF⟩ := hrel
        have HB2 := Lib.hid hB; have HF2 := Lib.hid hF
        clear hB hF HB HF
        by_cases h37 : i < 37
        · have e2 : decide ((i : Int) < 37) = true := by simp; omega
          have c0 := HB2.out.cell (j := t * 37 + i) (by omega)
          have f0 := Blk.frozen HB2.out (t * 37 + i)
          go_wp2_with fail
          refine ⟨⟨i + 1, by omega, by simp, ?_, HF2.out.setCell (.inr (by rw [Hq.out]; exact Nat.le_refl _)) _⟩, by simp [intOf]; omega⟩
          have h := HB2.out.set (t * 37 + i) 1024
          unfold Rb at h ⊢
          rw [arrI_congr (g := fun j => if j < 37 * t + (i + 1) then 1024 else 0)] at h
          · exact h
          · intro j _
            unfold upd
            by_cases hj : j = t * 37 + i
            · rw [if_pos hj, if_pos (by omega)]
            · rw [if_neg hj]
              show (if j < 37 * t + i then 1024 else 0) = _
              by_cases hl : j < 37 * t + i
              · rw [if_pos hl, if_pos (by omega)]
              · rw [if_neg hl, if_neg (by omega)]
        · have e2 : decide ((i : Int) < 37) = false := by simp; omega
          obtain rfl : i = 37 := by omega
          have hB3 : Rb wr q (fun j => if j < 37 * (t + 1) then 1024 else 0) := by
            rw [show 37 * (t + 1) = 37 * t + 37 by omega]
            exact HB2.out
          have HB3 := Lib.hid hB3
          clear hB3 HB2
          go_wp2_with fail
          exact ⟨⟨t + 1, by omega, by simp, HB3.out, HF2.out⟩, by simp [intOf]; omega⟩
    · have e1 : decide ((t : Int) < 16) = false := by simp; omega
      obtain rfl : t = 16 := by omega
      go_wp2_with fail
      go_ret
      refine ⟨q, rfl, ?_, HF.out, by rw [Hq.out]; exact Nat.le_refl _⟩
      have h := HB.out
      unfold Rb at h ⊢
      rw [arrI_congr (g := newBook)] at h
      · exact h
      · intro j hj
        rw [if_pos (by omega)]
        rfl
end Go.Proofs.Ytendcmdpmohacaa

/-
  Contracts of the document's coder of layer 4: Bytes, Open, End; conditions: the lengths are bounded as named.
-/
namespace Go.Proofs.Ytendcmdpmohacaa
open Go.RowKit

theorem Re.fr {w w' : World} {p : Nat} {v : Value} {e : Enc} {S : List Nat} (h : Re w p v e) (hf : Fr S w w') (h1 : p ∉ S) (h2 : ∀ k, v.ownBlock = some k → k ∉ S) : Re w' p v e :=
  ⟨h.1.fr hf h1, h.2.1.fr hf h2, h.2.2⟩
theorem Re.fr0 {w w' : World} {p : Nat} {v : Value} {e : Enc} (h : Re w p v e) (hf : Fr [] w w') : Re w' p v e := h.fr hf (by simp) (by simp)

set_option maxRecDepth 20000 in
theorem rbytes_any (p : Nat) (v : Value) (e : Enc) (w : World) (h : Re w p v e) (hn : e.n ≤ 1000000) :
    Calls Try.prog 27 #[.pointer (some ⟨p, 0, none⟩)] w fun e' w' => ∃ u, e' = .returned u ∧ Mine w w' u (bytesOf e.n e.v) := by
  obtain ⟨g, c, rfl⟩ := h.form
  obtain ⟨ds, hds⟩ : ∃ ds, ds = bytesOf e.n e.v := ⟨_, rfl⟩
  obtain ⟨n, hnn⟩ : ∃ n, n = e.n := ⟨_, rfl⟩
  have hdl : ds.length = n := by rw [hds, bytesOf_length, hnn]
  have hO := h.2.1
  have hB := h.1
  rw [← hds] at hO ⊢
  rw [← hnn] at hO hB hn
  have hlt := hB.lt
  have HO := Lib.hid hO
  have HB := Lib.hid hB
  have Hdl := Lib.hid hdl
  clear h hO hB hds hnn hdl
  go_enter Try.func27, Try.ntmps27
  go_wp2_with fail
  go_loopw [3, 4] (fun s3 s4 wr => ∃ i : Nat, i ≤ n ∧ s4 = .int .i64 (i : Int) ∧ Mine w wr s3 (ds.take i)) (fun _ s4 _ => n - (intOf s4).toNat)
  case atStart => exact ⟨0, Nat.zero_le _, rfl, Mine.nil w⟩
  case round =>
    obtain ⟨i, hi, rfl, hM⟩ := hrel
    have c0 := (HB.out.fr hM.fr (by simp)).cell 0
    simp at c0
    by_cases hlt2 : i < n
    · have eg : decide (i < n) = true := by simp [hlt2]
      have hid : i < ds.length := by have := Hdl.out; omega
      obtain ⟨x, hx⟩ : ∃ x, ds[i]? = some x := ⟨_, List.getElem?_eq_getElem hid⟩
      obtain ⟨g', rfl, c1, -, -, -⟩ := (HO.out.fr hM.fr (by simp)).cell (j := i) (by simpa using hid)
      rw [List.getElem?_map, hx] at c1
      have c2 : wr.cell? ⟨g', i, none⟩ = some (.int .i64 (x.toNat : Int)) := c1
      have hxl := x.toNat_lt
      have ew : IntKind.u8.wrap (x.toNat : Int) = (x.toNat : Int) := IntWalk.u8_in _ (by omega)
      have Hx := Lib.hid hx
      have HM := Lib.hid hM
      have hlen : (ds.take i).length ≤ 1000000 := by simp; omega
      clear hx hM c1
      go_wp2_with (at_builtin; go_loud (refine wp_append_u8 _ _ u3 (ds.take i) (.slice (some ⟨wr.heap.size, 0, none⟩) 1 1) [x] rfl rfl rfl rfl (HM.out.own.alloc _) (Src.one (by simp [go_sem]; rfl)) (by simp at hlen ⊢; omega) ?_))
      intro v4 w4 hO hG
      have hM4 := (HM.out.fr0 ((Fr.refl _ _).alloc (.cells #[.int .u8 (x.toNat : Int)] 5))).appended (ys := [x]) (by rw [List.map_append, List.map_take]; exact hO) hG
      have HM4 := Lib.hid hM4; clear hM4 hO hG HM
      go_wp2_with fail
      refine ⟨⟨i + 1, by omega, by simp, ?_⟩, by simp [intOf]; omega⟩
      rw [List.take_add_one, Hx.out]
      exact HM4.out
    · obtain rfl : i = n := by omega
      have eg : decide (i < i) = false := by simp
      have HM := Lib.hid hM; clear hM
      go_wp2_with fail
      go_ret
      refine ⟨_, rfl, ?_⟩
      have h4 := HM.out
      rw [← Hdl.out, List.take_length] at h4
      exact h4

/-- The document's decoder: the bytes, where it is, the rest, the range. -/
def Rd (w : World) (p : Nat) (A : Option Addr) (c : Nat) (bs : List UInt8) (d : Dec) : Prop :=
  Blk w p 93 #[.slice A bs.length c, .int .i64 (d.i : Int), .int .i64 (d.rest : Int), .int .i64 (d.r : Int)] ∧ Src w (.slice A bs.length c) (bs.map B8) ∧ ∀ ad, A = some ad → ad.block ≠ p

theorem Re.lt {w : World} {q : Nat} {u : Value} {e : Enc} (h : Re w q u e) : q < w.heap.size := h.1.lt
theorem own_lt {w : World} {t : TypeId} {u : Value} {xs : List Value} (h : Own w t u xs) : ∀ k, u.ownBlock = some k → k < w.heap.size := by
  intro k hk
  rcases h.form with ⟨rfl, -⟩ | ⟨g, cap, cur, rfl, hb, -⟩
  · simp [Value.ownBlock] at hk
  · have : g = k := by simpa [Value.ownBlock] using hk
    subst this
    exact hb.lt
end Go.Proofs.Ytendcmdpmohacaa

/-
  Contracts of the document's book: put, and what it changes.
-/
namespace Go.Proofs.Ytendcmdpmohacaa
open Go.RowKit

theorem Rb.fr {w w' : World} {q : Nat} {B : Chs} {S : List Nat} (h : Rb w q B) (hf : Fr S w w') (hq : q ∉ S) : Rb w' q B := Blk.fr h hf hq
theorem Rb.lt {w : World} {q : Nat} {B : Chs} (h : Rb w q B) : q < w.heap.size := Blk.lt h

/-- The document's book and encoder, apart; its digits' row at v. -/
structure Pen (w : World) (q : Nat) (B : Chs) (p : Nat) (v : Value) (e : Enc) : Prop where
  bk : Rb w q B
  en : Re w p v e
  qp : q ≠ p
  qv : v.ownBlock ≠ some q
  fine : FineB B
  ok : e.Ok
/-- What putting changes: the book, the encoder, its row; the row is the same or new. -/
def PenFr (q p : Nat) (v v' : Value) (w w' : World) : Prop := Fr (q :: p :: v.ownBlock.toList) w w' ∧ (v'.ownBlock = v.ownBlock ∨ ∃ g, v'.ownBlock = some g ∧ w.heap.size ≤ g)
theorem PenFr.refl (q p : Nat) (v : Value) (w : World) : PenFr q p v v w w := ⟨Fr.refl _ _, .inl rfl⟩
theorem PenFr.trans {q p : Nat} {v v2 v3 : Value} {w w2 w3 : World} (h : PenFr q p v v2 w w2) (k : PenFr q p v2 v3 w2 w3) : PenFr q p v v3 w w3 := by
  refine ⟨h.1.trans k.1 fun x hx => ?_, ?_⟩
  · rcases List.mem_cons.1 hx with rfl | hx
    · exact .inl (List.mem_cons_self ..)
    · rcases List.mem_cons.1 hx with rfl | hx
      · exact .inl (List.mem_cons_of_mem _ (List.mem_cons_self ..))
      · have hx : v2.ownBlock = some x := by simpa using hx
        rcases h.2 with h2 | ⟨g, h2, h3⟩
        · exact .inl (by rw [h2] at hx; simp [hx])
        · rw [h2] at hx
          injection hx with hx
          subst hx
          exact .inr h3
  · rcases k.2 with k2 | ⟨g, k2, k3⟩
    · rw [k2]; exact h.2
    · exact .inr ⟨g, k2, Nat.le_trans h.1.size k3⟩

set_option maxRecDepth 20000 in
theorem rputB_any (w : World) (q p t : Nat) (v : Value) (B : Chs) (e : Enc) (i : Option Nat) (bit : Bool) (h : Pen w q B p v e) (ht : t < 16) (hi : ∀ j, i = some j → j < 37) (hn : e.n ≤ 100000) :
    Calls Try.prog 71 #[pt q, pt p, .int .i64 (t : Int), .int .i64 (plI i), .int .u8 (bit.toNat : Int)] w fun r w' => r = .returned (.tuple #[]) ∧ ∃ v', Pen w' q (learn B t i bit) p v' (encPut e (chOf B t i) bit) ∧ PenFr q p v v' w w' := by
  have hc := chOf_right h.fine t i
  have hbw : IntKind.i64.wrap (bit.toNat : Int) = (bit.toNat : Int) := by cases bit <;> decide
  cases i with
  | none =>
    have HP := Lib.hid (rput_ok p v e 1024 bit w h.en h.ok (by decide) (by omega))
    have H := Lib.hid h
    clear h hc
    show Calls Try.prog 71 #[pt q, pt p, .int .i64 (t : Int), .int .i64 (-1), .int .u8 (bit.toNat : Int)] w _
    go_enter Try.func71, Try.ntmps71
    go_wp2_with fail
    refine HP.out.mono ?_
    rintro r w1 ⟨rfl, v', hR, hF⟩
    go_wp2_with fail
    refine bodyPost_ret (results_none rfl _ _ _) rfl ?_
    have h := H.out
    refine ⟨rfl, v', ⟨h.bk.fr hF.1 ?_, hR, h.qp, ?_, h.fine, encPut_ok h.ok (chOf_right h.fine t none) bit⟩, hF.1.mono (fun x hx => .inl (List.mem_cons_of_mem _ hx)), hF.2⟩
    · intro hm
      rcases List.mem_cons.1 hm with hm | hm
      · exact h.qp hm
      · exact h.qv (by simpa using hm)
    · rcases hF.2 with h2 | ⟨g, h2, h3⟩
      · rw [h2]; exact h.qv
      · rw [h2]
        intro hg
        injection hg with hg
        have := h.bk.lt
        omega
  | some i =>
    have hi37 := hi i rfl
    have hcr : rightC (B (37 * t + i)) := hc
    have hb := h.bk.cell (j := t * 37 + i) (by omega)
    rw [show t * 37 + i = 37 * t + i by omega] at hb
    obtain ⟨c, hcc⟩ : ∃ c, c = B (37 * t + i) := ⟨_, rfl⟩
    have hP := rput_ok p v e c bit w h.en h.ok (by rw [hcc]; exact hcr) (by omega)
    have hN := fun W => rnext_any c (bit.toNat : Int) W (by rw [hcc]; have := hcr.2; omega)
    have hbb : ((bit.toNat : Int) != 0) = bit := by cases bit <;> rfl
    rw [hbb] at hN
    obtain ⟨y, hy⟩ : ∃ y, y = nextC c bit := ⟨_, rfl⟩
    rw [← hy] at hN
    rw [← hcc] at hb
    have HP := Lib.hid hP
    have HN := Lib.hid hN
    have H := Lib.hid h
    have Hc := Lib.hid hcc
    have Hy := Lib.hid hy
    have ka : w.cell? ⟨q, t * 37 + i, none⟩ = some (.int .i64 (c : Int)) := by rw [show t * 37 + i = 37 * t + i by omega]; exact hb
    have e1 : decide ((i : Int) < 0) = false := by simp
    clear h hc hcr hb hcc hP hN hy hbb hi
    show Calls Try.prog 71 #[pt q, pt p, .int .i64 (t : Int), .int .i64 (i : Int), .int .u8 (bit.toNat : Int)] w _
    go_enter Try.func71, Try.ntmps71
    go_wp2_with fail
    refine HP.out.mono ?_
    rintro r w1 ⟨rfl, v', hR, hF⟩
    have hbk1 : Rb w1 q B := H.out.bk.fr hF.1 (fun hm => by
      rcases List.mem_cons.1 hm with hm | hm
      · exact H.out.qp hm
      · exact H.out.qv (by simpa using hm))
    have hqv' : v'.ownBlock ≠ some q := by
      rcases hF.2 with h2 | ⟨g, h2, h3⟩
      · rw [h2]; exact H.out.qv
      · rw [h2]
        intro hg
        injection hg with hg
        have := H.out.bk.lt
        omega
    have kb : w1.cell? ⟨q, t * 37 + i, none⟩ = some (.int .i64 (c : Int)) := by rw [hbk1.cell (by omega), Hc.out, show t * 37 + i = 37 * t + i by omega]
    have kf : w1.frozen? ⟨q, t * 37 + i, none⟩ = false := Blk.frozen hbk1 _
    have HR := Lib.hid hR; have HF := Lib.hid hF; have HB1 := Lib.hid hbk1; have Hqv := Lib.hid hqv'
    clear hR hF hbk1 hqv' ka HP
    go_upto_region 3 with fail
    have q1 : (t : Int) < 16 := by omega
    have q2 : (i : Int) < 37 := by omega
    have kb1 : w1.drew.cell? ⟨q, t * 37 + i, none⟩ = some (.int .i64 (c : Int)) := kb
    have kf1 : w1.drew.frozen? ⟨q, t * 37 + i, none⟩ = false := kf
    refine wp_region_held_drew (S := fun _ => True) (by kernel_rfl) ?_ (fun hHeld => ?_)
    · trivial
    refine wpAnyH_pick 0 (v := ?_) rfl (by kernel_rfl) (by kernel_rfl) (by kernel_rfl) (fun _ _ _ h => h) (by assumption) (by rfl) ?_ ?_
    rotate_left
    · (intro w hSw; (try dsimp only at hSw); go_simp) <;> (with_reducible rfl)
    (try simp only [Act.put, List.setIfInBounds_toArray, List.set_cons_zero, List.set_cons_succ])
    refine wpAnyH_pick 1 (v := ?_) rfl (by kernel_rfl) (by kernel_rfl) (by kernel_rfl) (fun _ _ _ h => h) (by assumption) (by rfl) ?_ ?_
    rotate_left
    · (intro w hSw; (try dsimp only at hSw); go_simp) <;> (with_reducible rfl)
    (try simp only [Act.put, List.setIfInBounds_toArray, List.set_cons_zero, List.set_cons_succ])
    refine wpAnyH_pick 2 (v := ?_) rfl (by kernel_rfl) (by kernel_rfl) (by kernel_rfl) (fun _ _ _ h => h) (by assumption) (by rfl) ?_ ?_
    rotate_left
    · (intro w hSw; (try dsimp only at hSw); go_simp) <;> (with_reducible rfl)
    (try simp only [Act.put, List.setIfInBounds_toArray, List.set_cons_zero, List.set_cons_succ])
    refine wpAnyH_pick 3 (v := ?_) rfl (by kernel_rfl) (by kernel_rfl) (by kernel_rfl) (fun _ _ _ h => h) (by assumption) (by rfl) ?_ ?_
    rotate_left
    · (intro w hSw; (try dsimp only at hSw); go_simp) <;> (with_reducible rfl)
    (try simp only [Act.put, List.setIfInBounds_toArray, List.set_cons_zero, List.set_cons_succ])
    refine wpAnyH_pick 4 (v := ?_) rfl (by kernel_rfl) (by kernel_rfl) (by kernel_rfl) (fun _ _ _ h => h) (by assumption) (by rfl) ?_ ?_
    rotate_left
    · (intro w hSw; (try dsimp only at hSw); go_simp) <;> (with_reducible rfl)
    (try simp only [Act.put, List.setIfInBounds_toArray, List.set_cons_zero, List.set_cons_succ])
    refine wpAnyH_pick 5 (v := ?_) rfl (by kernel_rfl) (by kernel_rfl) (by kernel_rfl) (fun _ _ _ h => h) (by assumption) (by rfl) ?_ ?_
    rotate_left
    · (intro w hSw; (try dsimp only at hSw); go_simp) <;> (with_reducible rfl)
    (try simp only [Act.put, List.setIfInBounds_toArray, List.set_cons_zero, List.set_cons_succ])
    refine wpAnyH_pick 6 (v := ?_) rfl (by kernel_rfl) (by kernel_rfl) (by kernel_rfl) (fun _ _ _ h => h) (by assumption) (by rfl) ?_ ?_
    rotate_left
    · (intro w hSw; (try dsimp only at hSw); go_simp) <;> (with_reducible rfl)
    (try simp only [Act.put, List.setIfInBounds_toArray, List.set_cons_zero, List.set_cons_succ])
    refine wpAnyH_pick 7 (v := ?_) rfl (by kernel_rfl) (by kernel_rfl) (by kernel_rfl) (fun _ _ _ h => h) (by assumption) (by rfl) ?_ ?_
    rotate_left
    · (intro w hSw; (try dsimp only at hSw); go_simp) <;> (with_reducible rfl)
    (try simp only [Act.put, List.setIfInBounds_toArray, List.set_cons_zero, List.set_cons_succ])
    refine wpAnyH_pick 8 (v := ?_) rfl (by kernel_rfl) (by kernel_rfl) (by kernel_rfl) (fun _ _ _ h => h) (by assumption) (by rfl) ?_ ?_
    rotate_left
    · (intro w hSw; (try dsimp only at hSw); go_simp) <;> (with_reducible rfl)
    (try simp only [Act.put, List.setIfInBounds_toArray, List.set_cons_zero, List.set_cons_succ])
    refine wpAnyH_pick 9 (v := ?_) rfl (by kernel_rfl) (by kernel_rfl) (by kernel_rfl) (fun _ _ _ h => h) (by assumption) (by rfl) ?_ ?_
    rotate_left
    · (intro w hSw; (try dsimp only at hSw); go_simp) <;> (with_reducible rfl)
    (try simp only [Act.put, List.setIfInBounds_toArray, List.set_cons_zero, List.set_cons_succ])
    refine wpAnyH_pick 11 (v := ?_) rfl (by kernel_rfl) (by kernel_rfl) (by kernel_rfl) (fun _ _ _ h => h) (by assumption) (by rfl) ?_ ?_
    rotate_left
    · (intro w hSw; (try dsimp only at hSw); go_simp) <;> (with_reducible rfl)
    (try simp only [Act.put, List.setIfInBounds_toArray, List.set_cons_zero, List.set_cons_succ])
    refine wpAnyH_pick 12 (v := ?_) rfl (by kernel_rfl) (by kernel_rfl) (by kernel_rfl) (fun _ _ _ h => h) (by assumption) (by rfl) ?_ ?_
    rotate_left
    · (intro w hSw; (try dsimp only at hSw); go_simp) <;> (with_reducible rfl)
    (try simp only [Act.put, List.setIfInBounds_toArray, List.set_cons_zero, List.set_cons_succ])
    refine wpAnyH_pick 14 (v := ?_) rfl (by kernel_rfl) (by kernel_rfl) (by kernel_rfl) (fun _ _ _ h => h) (by assumption) (by rfl) ?_ ?_
    rotate_left
    · (intro w hSw; (try dsimp only at hSw); go_simp) <;> (with_reducible rfl)
    (try simp only [Act.put, List.setIfInBounds_toArray, List.set_cons_zero, List.set_cons_succ])
    refine wpAnyH_pick 15 (v := ?_) rfl (by kernel_rfl) (by kernel_rfl) (by kernel_rfl) (fun _ _ _ h => h) (by assumption) (by rfl) ?_ ?_
    rotate_left
    · (intro w hSw; (try dsimp only at hSw); go_simp) <;> (with_reducible rfl)
    (try simp only [Act.put, List.setIfInBounds_toArray, List.set_cons_zero, List.set_cons_succ])
    refine wpAnyH_pick 16 (v := ?_) rfl (by kernel_rfl) (by kernel_rfl) (by kernel_rfl) (fun _ _ _ h => h) (by assumption) (by rfl) ?_ ?_
    rotate_left
    · (intro w hSw; (try dsimp only at hSw); go_simp) <;> (with_reducible rfl)
    (try simp only [Act.put, List.setIfInBounds_toArray, List.set_cons_zero, List.set_cons_succ])
    refine wpAnyH_ready (rs := [10]) (by kernel_rfl) (by simp) ?_
    refine AllReadyH_pick rfl (fun K hK => ?_) (AllReadyH.nil)
    skip
    go_simp
    refine hK.out _ _ ?_ (fun hHeld => ?_)
    · trivial
    clear hK K
    (try simp only [Act.put, List.setIfInBounds_toArray, List.set_cons_zero, List.set_cons_succ])
    refine wpAnyH_ready (rs := [13]) (by kernel_rfl) (by simp) ?_
    refine AllReadyH_pick rfl (fun K hK => ?_) (AllReadyH.nil)
    go_simp
    refine (HN.out _).mono ?_
    rintro r1 wN ⟨rfl, rfl⟩
    go_wp2_with fail
    refine hK.out _ _ ?_ (fun hHeld => ?_)
    · trivial
    clear hK K
    (try simp only [Act.put, List.setIfInBounds_toArray, List.set_cons_zero, List.set_cons_succ])
    refine wpAnyH_pick 17 (v := ?_) rfl (by kernel_rfl) (by kernel_rfl) (by kernel_rfl) (fun _ _ _ h => h) (by assumption) (by rfl) ?_ ?_
    rotate_left
    · (intro w hSw; (try dsimp only at hSw); go_simp) <;> (with_reducible rfl)
    (try simp only [Act.put, List.setIfInBounds_toArray, List.set_cons_zero, List.set_cons_succ])
    refine wpAnyH_ready (rs := [18]) (by kernel_rfl) (by simp) ?_
    refine AllReadyH_pick rfl (fun K hK => ?_) (AllReadyH.nil)
    skip
    go_simp
    refine hK.out _ _ ?_ (fun hHeld => ?_)
    · trivial
    clear hK K
    (try simp only [Act.put, List.setIfInBounds_toArray, List.set_cons_zero, List.set_cons_succ])
    refine wpAnyH_done (by kernel_rfl) ?_ _
    skip
    go_end0
    have hF2 : Fr [q] w1 (w1.setCell ⟨q, t * 37 + i, none⟩ (.int .i64 (y : Int))).drew := ((Fr.refl [q] w1).setCell (.inl (by simp)) _).drew
    have hq2 := H.out.bk.lt
    have hl : learn B t (some i) bit = upd B (t * 37 + i) y := by
      show upd B (37 * t + i) (nextC (B (37 * t + i)) bit) = _
      rw [Hy.out, Hc.out, show t * 37 + i = 37 * t + i by omega]
    have hcc : chOf B t (some i) = c := Hc.out.symm
    have hcr : rightC c := by rw [← hcc]; exact chOf_right H.out.fine t _
    refine ⟨rfl, v', ⟨?_, ?_, H.out.qp, Hqv.out, learn_fine H.out.fine t _ bit, ?_⟩, ?_, HF.out.2⟩
    · rw [hl]
      exact (HB1.out.set (t * 37 + i) y).drew
    · rw [hcc]
      exact HR.out.fr hF2 (by simp; exact fun e => H.out.qp e.symm) (fun k hk hm => Hqv.out (by simp at hm; rw [← hm]; exact hk))
    · rw [hcc]
      exact encPut_ok H.out.ok hcr bit
    · refine (HF.out.1.mono (fun x hx => .inl (List.mem_cons_of_mem _ hx))).trans hF2 (fun x hx => .inl ?_)
      simp at hx
      subst hx
      exact List.mem_cons_self ..
end Go.Proofs.Ytendcmdpmohacaa

/-
  Contracts of the document's book: Put.
-/
namespace Go.Proofs.Ytendcmdpmohacaa
open Go.RowKit

theorem onesEvs_snoc : ∀ (k n : Nat), onesEvs n (k + 1) = onesEvs n k ++ [(some (n + k), true)]
  | 0, n => rfl
  | k + 1, n => by
    show (some n, true) :: onesEvs (n + 1) (k + 1) = _
    rw [onesEvs_snoc k (n + 1), show n + 1 + k = n + (k + 1) by omega]
    rfl
theorem bitEvs_snoc : ∀ (l : List Bool) (i a : Nat) (b : Bool), bitEvs i a (l ++ [b]) = bitEvs i a l ++ [(place (i + l.length) (l.foldl (fun a b => 2 * a + b.toNat) a), b)]
  | [], _, _, _ => rfl
  | c :: l, i, a, b => by
    show (place i a, c) :: bitEvs (i + 1) (2 * a + c.toNat) (l ++ [b]) = _
    rw [bitEvs_snoc l (i + 1) _ b, show i + 1 + l.length = i + (c :: l).length by simp; omega]
    rfl
theorem bitEvs_take {l : List Bool} {j : Nat} (h : j < l.length) : bitEvs 0 0 (l.take (j + 1)) = bitEvs 0 0 (l.take j) ++ [(place j (number (l.take j)), l.getD j false)] := by
  rw [List.take_add_one, List.getElem?_eq_getElem h, Option.toList_some, bitEvs_snoc, List.length_take, Nat.min_eq_left (by omega), Nat.zero_add, List.getD_eq_getElem?_getD, List.getElem?_eq_getElem h]
  rfl

/-- Behind a row of bits, from w0 on. -/
def PenAt (w0 : World) (q p t : Nat) (v0 : Value) (B : Chs) (e : Enc) (w : World) (l : List Ev) : Prop :=
  ∃ v', Pen w q (learned t B l) p v' (puts e (track t B l)) ∧ PenFr q p v0 v' w0 w
theorem Pen.at_ {w : World} {q p t : Nat} {v : Value} {B : Chs} {e : Enc} (h : Pen w q B p v e) : PenAt w q p t v B e w [] := ⟨v, h, PenFr.refl q p v w⟩
theorem Pen.fr0 {w w' : World} {q p : Nat} {v : Value} {B : Chs} {e : Enc} (h : Pen w q B p v e) (hf : Fr [] w w') : Pen w' q B p v e :=
  ⟨h.bk.fr hf (by simp), h.en.fr0 hf, h.qp, h.qv, h.fine, h.ok⟩
theorem PenFr.fr0 {q p : Nat} {v v' : Value} {w w2 w3 : World} (h : PenFr q p v v' w w2) (hf : Fr [] w2 w3) : PenFr q p v v' w w3 :=
  ⟨h.1.trans hf (by simp), h.2⟩
theorem PenAt.fr0 {w0 w w' : World} {q p t : Nat} {v0 : Value} {B : Chs} {e : Enc} {l : List Ev} (h : PenAt w0 q p t v0 B e w l) (hf : Fr [] w w') : PenAt w0 q p t v0 B e w' l := by
  obtain ⟨v', h1, h2⟩ := h
  exact ⟨v', h1.fr0 hf, h2.fr0 hf⟩
theorem PenAt.put {w0 W : World} {q p t : Nat} {v0 : Value} {B : Chs} {e : Enc} {l : List Ev} (h : PenAt w0 q p t v0 B e W l) (i : Option Nat) (bit : Bool) (ht : t < 16) (hi : ∀ j, i = some j → j < 37) (hn : e.n + l.length ≤ 100000) :
    Calls Try.prog 71 #[pt q, pt p, .int .i64 (t : Int), .int .i64 (plI i), .int .u8 (bit.toNat : Int)] W fun r w' => r = .returned (.tuple #[]) ∧ PenAt w0 q p t v0 B e w' (l ++ [(i, bit)]) := by
  obtain ⟨v', h1, h2⟩ := h
  have hn2 := puts_n (track t B l) e
  rw [track_length] at hn2
  refine (rputB_any W q p t v' _ _ i bit h1 ht hi (by omega)).mono ?_
  rintro r w' ⟨hr, v2, h3, h4⟩
  refine ⟨hr, v2, ?_, h2.trans h4⟩
  rw [learned_append, track_append, puts_append]
  exact h3
/-- One row of bits behind another. -/
theorem PenAt.join {w0 w1 w : World} {q p t : Nat} {v0 v1 : Value} {B : Chs} {e : Enc} {l m : List Ev} (h : PenFr q p v0 v1 w0 w1) (k : PenAt w1 q p t v1 (learned t B l) (puts e (track t B l)) w m) : PenAt w0 q p t v0 B e w (l ++ m) := by
  obtain ⟨v', h1, h2⟩ := k
  refine ⟨v', ?_, h.trans h2⟩
  rw [learned_append, track_append, puts_append]
  exact h1

theorem PenAt.row {w0 W : World} {q p t : Nat} {v0 : Value} {B : Chs} {e : Enc} {l : List Ev} (h : PenAt w0 q p t v0 B e W l) {ty : TypeId} {g n c : Nat} {xs : List Value} (hO : Own w0 ty (.slice (some ⟨g, 0, none⟩) n c) xs) (h1 : g ≠ q) (h2 : g ≠ p) (h3 : v0.ownBlock ≠ some g) : Own W ty (.slice (some ⟨g, 0, none⟩) n c) xs := by
  obtain ⟨v', -, hf⟩ := h
  refine hO.fr hf.1 fun k hk hm => ?_
  have : g = k := by simpa [Value.ownBlock] using hk
  subst this
  rcases List.mem_cons.1 hm with hm | hm
  · exact h1 hm
  · rcases List.mem_cons.1 hm with hm | hm
    · exact h2 hm
    · exact h3 (by simpa using hm)
theorem Src.first {w : World} {A : Option Addr} {n c k : Nat} {xs : List Value} (h : Src w (.slice A n c) xs) (hk : k ≤ n) : Src w (.slice A k c) (xs.take k) := by
  rcases h with ⟨h1, rfl⟩ | ⟨ad, c', h1, hle, hc⟩
  · injection h1 with e1 e2 e3
    subst e1 e2 e3
    obtain rfl : k = 0 := by omega
    exact .inl ⟨rfl, rfl⟩
  · injection h1 with e1 e2 e3
    subst e1 e2 e3
    refine .inr ⟨ad, c, by simp; omega, by simp; omega, fun j u hu => hc j u ?_⟩
    rw [List.getElem?_take] at hu
    split at hu
    · exact hu
    · cases hu
theorem bitsU_take (l : List Bool) (k : Nat) : bitsU (l.take k) = (bitsU l).take k := by simp [bitsU]
theorem bitsU_getD (l : List Bool) (k : Nat) (h : k < l.length) : (bitsU l)[k]? = some (u8b (l.getD k false)) := by
  rw [bitsU, List.getElem?_map, List.getElem?_eq_getElem h, List.getD_eq_getElem?_getD, List.getElem?_eq_getElem h]
  rfl

theorem rPut_bad (t v : Int) (a b : Value) (w : World) (h : ¬ (0 ≤ t ∧ t ≤ 15) ∨ v < 0 ∨ 1048576 < v) :
    Calls Try.prog 48 #[a, b, .int .i64 t, .int .i64 v] w fun r w' => r = .returned (.int .i64 1) ∧ w' = w := by
  have HT := rtopic_any t w
  by_cases h1 : 0 ≤ t ∧ t ≤ 15
  · rw [decide_eq_true h1] at HT
    have HT := Lib.hid HT
    by_cases h2 : v < 0
    · have e1 : decide (v < 0) = true := by simpa using h2
      go_enter Try.func48, Try.ntmps48
      go_wp2_with fail
      refine HT.out.mono ?_
      rintro r w1 ⟨rfl, rfl⟩
      go_wp2_with fail
      go_ret
      exact ⟨rfl, rfl⟩
    · have e1 : decide (v < 0) = false := by simpa using h2
      have e2 : decide (1048576 < v) = true := by simp; omega
      go_enter Try.func48, Try.ntmps48
      go_wp2_with fail
      refine HT.out.mono ?_
      rintro r w1 ⟨rfl, rfl⟩
      go_wp2_with fail
      go_ret
      exact ⟨rfl, rfl⟩
  · rw [decide_eq_false h1] at HT
    have HT := Lib.hid HT
    go_enter Try.func48, Try.ntmps48
    go_wp2_with fail
    refine HT.out.mono ?_
    rintro r w1 ⟨rfl, rfl⟩
    go_wp2_with fail
    go_ret
    exact ⟨rfl, rfl⟩

set_option maxRecDepth 20000 in
set_option maxHeartbeats 4000000 in
theorem rPut_ok (w : World) (q p t n : Nat) (v : Value) (B : Chs) (e : Enc) (h : Pen w q B p v e) (ht : t < 16) (hn : n ≤ 1048576) (he : e.n ≤ 90000) :
    Calls Try.prog 48 #[pt q, pt p, .int .i64 (t : Int), .int .i64 (n : Int)] w fun r w' => r = .returned (.int .i64 0) ∧ PenAt w q p t v B e w' (numEvs n) := by
  have HT := rtopic_any t w
  rw [decide_eq_true (by omega : 0 ≤ (t : Int) ∧ (t : Int) ≤ 15)] at HT
  have HT := Lib.hid HT
  have e1 : decide (1048576 < (n : Int)) = false := by simp; omega
  have e0 : decide ((n : Int) < 0) = false := by simp
  obtain ⟨N, hN⟩ : ∃ N, N = (n + 1).log2 := ⟨_, rfl⟩
  have hb : bitLen (n + 1) = N + 1 := by unfold bitLen; rw [if_neg (by omega), hN]
  have hN20 : N ≤ 20 := by rw [hN]; exact log2_level hn
  have H0 := Lib.hid (h.at_ (t := t))
  have Hb := Lib.hid hb
  have HN := Lib.hid hN
  clear h hb hN
  go_enter Try.func48, Try.ntmps48
  go_wp2_with fail
  refine HT.out.mono ?_
  rintro r w1 ⟨rfl, rfl⟩
  clear HT
  go_wp2_with fail
  go_loopw [10, 11] (fun s10 s11 wr => ∃ (x k : Nat), k ≤ n + 1 ∧ s10 = .int .i64 (x : Int) ∧ s11 = .int .i64 (k : Int) ∧ x + bitLen k = N + 1 ∧ wr = w1) (fun _ s11 _ => (intOf s11).toNat)
  case atStart => exact ⟨0, n + 1, by omega, rfl, by simp, by have := Hb.out; omega, by trivial⟩
  case round =>
    obtain ⟨x, k, hk, rfl, rfl, hx, rfl⟩ := hrel
    have Hx := Lib.hid hx; clear hx
    by_cases h0 : 0 < k
    · have e2 : decide (0 < k) = true := by simpa using h0
      have Hs := Lib.hid (bitLen_step (v := k) (by omega))
      have hxb : x ≤ 21 := by have := Hx.out; omega
      go_wp2_with fail
      exact ⟨⟨x + 1, k / 2, by omega, by simp, by simp, by have := Hx.out; have := Hs.out; omega, by trivial⟩, by simp [intOf]; omega⟩
    · have e2 : decide (0 < k) = false := by simpa using h0
      have hx1 : x = N + 1 := by
        have := Hx.out
        rw [show k = 0 by omega] at this
        simpa [bitLen] using this
      have Hx1 := Lib.hid hx1
      have hxa : 1 ≤ x := by omega
      have hxb : x ≤ 21 := by omega
      clear Hx hk HT hx1
      go_wp2_with fail
      go_loopw [12] (fun s12 wx => ∃ i : Nat, i ≤ N ∧ s12 = .int .i64 (i : Int) ∧ PenAt wr q p t v B e wx (onesEvs 0 i)) (fun s12 _ => 20 - (intOf s12).toNat)
      case atStart => exact ⟨0, by omega, rfl, H0.out⟩
      case round =>
        clear H0
        obtain ⟨i, hi, rfl, hP⟩ := hrel
        have HP := Lib.hid hP; clear hP
        by_cases hiN : i < N
        · have e3 : decide ((i : Int) < (x : Int) - 1) = true := by have := Hx1.out; simp; omega
          have HPut := Lib.hid (HP.out.put (some i) true ht (fun j hj => by injection hj with hj; omega) (by simp; omega))
          have hpl : plI (some i) = (i : Int) := rfl
          rw [hpl, show ((true.toNat : Nat) : Int) = 1 from rfl, show onesEvs 0 i ++ [(some i, true)] = onesEvs 0 (i + 1) by rw [onesEvs_snoc, Nat.zero_add]] at HPut
          clear hpl
          go_wp2_with fail
          refine HPut.out.mono ?_
          rintro r1 w2 ⟨rfl, hP2⟩
          have HP2 := Lib.hid hP2; clear hP2 HPut
          go_wp2_with fail
          exact ⟨⟨i + 1, by omega, by simp, HP2.out⟩, by simp [intOf]; omega⟩
        · have e3 : decide ((i : Int) < (x : Int) - 1) = false := by have := Hx1.out; simp; omega
          have hiN2 : i = N := by omega
          have HiN := Lib.hid hiN2
          have exi : (x : Int) - 1 = (i : Int) := by have := Hx1.out; omega
          have Hxi := Lib.hid exi
          clear hi hiN hiN2 exi
          rcases Nat.lt_or_ge i 20 with h20 | h20
          case' inl =>
            have e4 : decide ((x : Int) < 21) = true := by have := Hx1.out; have := HiN.out; simp; omega
            have HPut := Lib.hid (HP.out.put (some i) false ht (fun j hj => by injection hj with hj; omega) (by simp; omega))
            have hpl : plI (some i) = (i : Int) := rfl
            rw [hpl, ← Hxi.out, show ((false.toNat : Nat) : Int) = 0 from rfl, show onesEvs 0 i ++ [(some i, false)] = onesEvs 0 i ++ stopEvs i by unfold stopEvs; rw [if_pos h20]] at HPut
            clear hpl
            go_wp2_with fail
            refine HPut.out.mono ?_
            rintro r1 w2 ⟨rfl, hQ⟩
            go_upto_region 15 with fail
            clear HPut
          case' inr =>
            have e4 : decide ((x : Int) < 21) = false := by have := Hx1.out; have := HiN.out; simp; omega
            have hQ := HP.out
            rw [show onesEvs 0 i = onesEvs 0 i ++ stopEvs i by unfold stopEvs; rw [if_neg (by omega), List.append_nil]] at hQ
            go_upto_region 15 with fail
            clear HP
            generalize wr = w2 at hQ ⊢
          all_goals
            rw [HiN.out] at hQ
            obtain ⟨v1, hPen, hPF⟩ := hQ
            have hDg := digits_any' (n + 1) N w2 (by omega) (by omega)
            have HPen := Lib.hid hPen
            have HPF := Lib.hid hPF
            rw [show ((n + 1 : Nat) : Int) = (n : Int) + 1 by simp, show (N : Int) = (x : Int) - 1 by have := Hx1.out; omega] at hDg
            have HDg := Lib.hid hDg
            have eU : IntKind.u64.wrap ((n : Int) + 1) = (n : Int) + 1 := IntWalk.u64_in _ (by omega)
            clear hPen hPF hDg e4 h20 e3
            go_wp2_with fail
            refine HDg.out.mono ?_
            rintro r1 w5 ⟨c5, rfl, hO5, hF5⟩
            have hlq := HPen.out.bk.lt
            have hlp := HPen.out.en.1.lt
            have hlv : v1.ownBlock ≠ some w2.heap.size := fun hk => by
              rcases HPen.out.en.2.1.form with ⟨rfl, -⟩ | ⟨g, cap, cur, rfl, hb, -⟩
              · simp [Value.ownBlock] at hk
              · have : g = w2.heap.size := by simpa [Value.ownBlock] using hk
                have := hb.lt
                omega
            obtain ⟨g, hg⟩ : ∃ g, g = w2.heap.size := ⟨_, rfl⟩
            rw [← hg] at hO5 hlv ⊢
            obtain ⟨B1, hB1⟩ : ∃ B1, B1 = learned t B (onesEvs 0 N ++ stopEvs N) := ⟨_, rfl⟩
            obtain ⟨f1, hf1⟩ : ∃ f1, f1 = puts e (track t B (onesEvs 0 N ++ stopEvs N)) := ⟨_, rfl⟩
            have hfn : f1.n ≤ 90021 := by
              have := puts_n (track t B (onesEvs 0 N ++ stopEvs N)) e
              rw [← hf1, track_length, List.length_append, onesEvs_length] at this
              have h2 : (stopEvs N).length ≤ 1 := by unfold stopEvs; split <;> simp
              omega
            obtain ⟨ds, hds⟩ : ∃ ds, ds = digits (n + 1) N := ⟨_, rfl⟩
            have hdl : ds.length = N := by rw [hds]; simp
            have hPF := HPF.out.fr0 hF5
            have hP5 := HPen.out.fr0 hF5
            rw [← hB1, ← hf1] at hP5
            rw [← hds] at hO5
            have HQ := Lib.hid (hP5.at_ (t := t))
            have HPF5 := Lib.hid hPF
            have HO : Hid (∀ W l, PenAt w5 q p t v1 B1 f1 W l → Own W 5 (.slice (some ⟨g, 0, none⟩) N c5) ((bitsU ds).map B8)) := Lib.hid fun W l hW => hW.row hO5 (by omega) (by omega) hlv
            have HB1 := Lib.hid hB1; have Hf1 := Lib.hid hf1; have Hds := Lib.hid hds; have Hdl := Lib.hid hdl
            clear hlq hlp hlv hg hB1 hf1 hds hdl hPF hP5 hO5 hF5 HPen HPF HDg
            go_wp2_with fail
            go_loopw [14] (fun s14 wx => ∃ j : Nat, j ≤ N ∧ s14 = .int .i64 (j : Int) ∧ PenAt w5 q p t v1 B1 f1 wx (bitEvs 0 0 (ds.take j))) (fun s14 _ => 20 - (intOf s14).toNat)
            case atStart => exact ⟨0, by omega, rfl, HQ.out⟩
            case round =>
              clear HQ
              obtain ⟨j, hj, rfl, hP⟩ := hrel
              have HP := Lib.hid hP; clear hP
              by_cases hjN : j < N
              · have e3 : decide ((j : Int) < (x : Int) - 1) = true := by have := Hx1.out; simp; omega
                have hOw := HO.out _ _ HP.out
                obtain ⟨bit, hbit⟩ : ∃ bit, bit = ds.getD j false := ⟨_, rfl⟩
                have hcell : wr.cell? ⟨g, j, none⟩ = some (.int .u8 (bit.toNat : Int)) := by
                  have h1 := (hOw.at_ (j := j) (by simp; rw [Hdl.out]; exact hjN)).1
                  rw [h1, List.getElem?_map, bitsU_getD ds j (by rw [Hdl.out]; exact hjN), ← hbit]
                  exact congrArg some (B8_u8b bit)
                obtain ⟨a, ha⟩ : ∃ a, a = number (ds.take j) := ⟨_, rfl⟩
                have halt : a < 2 ^ j := by
                  have := number_lt (ds.take j)
                  rw [List.length_take, Nat.min_eq_left (by rw [Hdl.out]; omega)] at this
                  omega
                have ha20 : a < 1048576 := Nat.lt_of_lt_of_le halt (Nat.pow_le_pow_right (n := 2) (i := j) (j := 20) (by omega) (by omega))
                have hNum := number_any (.slice (some ⟨g, 0, none⟩) j c5) (ds.take j) wr.drew (by rw [bitsU_take, List.map_take]; exact ((hOw.src).first (by omega)).drew) (by rw [List.length_take]; omega)
                rw [← ha] at hNum
                have hPl := rplace_any j a wr.drew (by omega) (by omega)
                obtain ⟨pl, hpl⟩ : ∃ pl, pl = place j a := ⟨_, rfl⟩
                have hPu := (HP.out.fr0 (Fr.refl [] wr).drew).put pl bit ht (by rw [hpl]; exact place_lt halt) (by rw [bitEvs_length, List.length_take]; omega)
                have hsn : bitEvs 0 0 (ds.take j) ++ [(pl, bit)] = bitEvs 0 0 (ds.take (j + 1)) := by rw [bitEvs_take (by rw [Hdl.out]; exact hjN), ← ha, ← hbit, hpl]
                rw [hsn] at hPu
                rw [← hpl] at hPl
                obtain ⟨z, hz⟩ : ∃ z, z = plI pl := ⟨_, rfl⟩
                rw [← hz] at hPl hPu
                have HNum := Lib.hid hNum; have HPl := Lib.hid hPl; have HPu := Lib.hid hPu
                have eA : IntKind.i64.wrap (a : Int) = (a : Int) := IntWalk.i64_in _ (by omega)
                have qc : j ≤ c5 := by
                  rcases hOw.form with ⟨h1, -⟩ | ⟨g', cap, cur, h1, -, h2, -⟩
                  · cases h1
                  · injection h1 with h3 h4 h5
                    rw [h5]
                    omega
                have hcw : ∀ W l, PenAt w5 q p t v1 B1 f1 W l → W.cell? ⟨g, j, none⟩ = some (.int .u8 (bit.toNat : Int)) := fun W l hW => by
                  have h1 := ((HO.out W l hW).at_ (j := j) (by simp; rw [Hdl.out]; exact hjN)).1
                  rw [h1, List.getElem?_map, bitsU_getD ds j (by rw [Hdl.out]; exact hjN), ← hbit]
                  exact congrArg some (B8_u8b bit)
                have Hcw := Lib.hid hcw
                clear hcw
                clear hNum hPl hPu hsn hz hpl ha halt hbit hOw HP
                go_upto_region 19 with fail
                have hcell2 : wr.drew.cell? ⟨g, j, none⟩ = some (.int .u8 (bit.toNat : Int)) := hcell
                have qj : (j : Int) < (N : Int) := by omega
                refine wp_region_held_drew (S := fun W => W.cell? ⟨g, j, none⟩ = some (.int .u8 (bit.toNat : Int))) (by kernel_rfl) ?_ (fun hHeld => ?_)
                · (repeat' (first | trivial | assumption | refine ⟨?_, ?_⟩))
                refine wpAnyH_pick 0 (v := ?_) rfl (by kernel_rfl) (by kernel_rfl) (by kernel_rfl) (fun _ _ _ h => h) (by assumption) (by rfl) ?_ ?_
                rotate_left
                · (intro w hSw; (try dsimp only at hSw); go_simp) <;> (with_reducible rfl)
                (try simp only [Act.put, List.setIfInBounds_toArray, List.set_cons_zero, List.set_cons_succ])
                refine wpAnyH_pick 1 (v := ?_) rfl (by kernel_rfl) (by kernel_rfl) (by kernel_rfl) (fun _ _ _ h => h) (by assumption) (by rfl) ?_ ?_
                rotate_left
                · (intro w hSw; (try dsimp only at hSw); go_simp) <;> (with_reducible rfl)
                (try simp only [Act.put, List.setIfInBounds_toArray, List.set_cons_zero, List.set_cons_succ])
                refine wpAnyH_pick 2 (v := ?_) rfl (by kernel_rfl) (by kernel_rfl) (by kernel_rfl) (fun _ _ _ h => h) (by assumption) (by rfl) ?_ ?_
                rotate_left
                · (intro w hSw; (try dsimp only at hSw); go_simp) <;> (with_reducible rfl)
                (try simp only [Act.put, List.setIfInBounds_toArray, List.set_cons_zero, List.set_cons_succ])
                refine wpAnyH_pick 3 (v := ?_) rfl (by kernel_rfl) (by kernel_rfl) (by kernel_rfl) (fun _ _ _ h => h) (by assumption) (by rfl) ?_ ?_
                rotate_left
                · (intro w hSw; (try dsimp only at hSw); go_simp) <;> (with_reducible rfl)
                (try simp only [Act.put, List.setIfInBounds_toArray, List.set_cons_zero, List.set_cons_succ])
                refine wpAnyH_pick 4 (v := ?_) rfl (by kernel_rfl) (by kernel_rfl) (by kernel_rfl) (fun _ _ _ h => h) (by assumption) (by rfl) ?_ ?_
                rotate_left
                · (intro w hSw; (try dsimp only at hSw); go_simp) <;> (with_reducible rfl)
                (try simp only [Act.put, List.setIfInBounds_toArray, List.set_cons_zero, List.set_cons_succ])
                refine wpAnyH_pick 5 (v := ?_) rfl (by kernel_rfl) (by kernel_rfl) (by kernel_rfl) (fun _ _ _ h => h) (by assumption) (by rfl) ?_ ?_
                rotate_left
                · (intro w hSw; (try dsimp only at hSw); go_simp) <;> (with_reducible rfl)
                (try simp only [Act.put, List.setIfInBounds_toArray, List.set_cons_zero, List.set_cons_succ])
                refine wpAnyH_pick 6 (v := ?_) rfl (by kernel_rfl) (by kernel_rfl) (by kernel_rfl) (fun _ _ _ h => h) (by assumption) (by rfl) ?_ ?_
                rotate_left
                · (intro w hSw; (try dsimp only at hSw); go_simp) <;> (with_reducible rfl)
                (try simp only [Act.put, List.setIfInBounds_toArray, List.set_cons_zero, List.set_cons_succ])
                refine wpAnyH_pick 10 (v := ?_) rfl (by kernel_rfl) (by kernel_rfl) (by kernel_rfl) (fun _ _ _ h => h) (by assumption) (by rfl) ?_ ?_
                rotate_left
                · (intro w hSw; (try dsimp only at hSw); go_simp) <;> (with_reducible rfl)
                (try simp only [Act.put, List.setIfInBounds_toArray, List.set_cons_zero, List.set_cons_succ])
                refine wpAnyH_pick 11 (v := ?_) rfl (by kernel_rfl) (by kernel_rfl) (by kernel_rfl) (fun _ _ _ h => h) (by assumption) (by rfl) ?_ ?_
                rotate_left
                · (intro w hSw; (try dsimp only at hSw); go_simp) <;> (with_reducible rfl)
                (try simp only [Act.put, List.setIfInBounds_toArray, List.set_cons_zero, List.set_cons_succ])
                refine wpAnyH_pick 12 (v := ?_) rfl (by kernel_rfl) (by kernel_rfl) (by kernel_rfl) (fun _ _ _ h => h) (by assumption) (by rfl) ?_ ?_
                rotate_left
                · (intro w hSw; (try dsimp only at hSw); go_simp) <;> (with_reducible rfl)
                (try simp only [Act.put, List.setIfInBounds_toArray, List.set_cons_zero, List.set_cons_succ])
                refine wpAnyH_pick 13 (v := ?_) rfl (by kernel_rfl) (by kernel_rfl) (by kernel_rfl) (fun _ _ _ h => h) (by assumption) (by rfl) ?_ ?_
                rotate_left
                · (intro w hSw; (try dsimp only at hSw); go_simp) <;> (with_reducible rfl)
                (try simp only [Act.put, List.setIfInBounds_toArray, List.set_cons_zero, List.set_cons_succ])
                refine wpAnyH_ready (rs := [7]) (by kernel_rfl) (by simp) ?_
                refine AllReadyH_pick rfl (fun K hK => ?_) (AllReadyH.nil)
                go_simp
                refine HNum.out.mono ?_
                rintro r1 wN ⟨rfl, rfl⟩
                go_wp2_with fail
                refine hK.out _ _ ?_ (fun hHeld => ?_)
                · (repeat' (first | trivial | assumption | refine ⟨?_, ?_⟩))
                clear hK K
                (try simp only [Act.put, List.setIfInBounds_toArray, List.set_cons_zero, List.set_cons_succ])
                refine wpAnyH_pick 8 (v := ?_) rfl (by kernel_rfl) (by kernel_rfl) (by kernel_rfl) (fun _ _ _ h => h) (by assumption) (by rfl) ?_ ?_
                rotate_left
                · (intro w hSw; (try dsimp only at hSw); go_simp) <;> (with_reducible rfl)
                (try simp only [Act.put, List.setIfInBounds_toArray, List.set_cons_zero, List.set_cons_succ])
                refine wpAnyH_ready (rs := [9]) (by kernel_rfl) (by simp) ?_
                refine AllReadyH_pick rfl (fun K hK => ?_) (AllReadyH.nil)
                go_simp
                refine HPl.out.mono ?_
                rintro r1 wP ⟨rfl, rfl⟩
                go_wp2_with fail
                refine hK.out _ _ ?_ (fun hHeld => ?_)
                · (repeat' (first | trivial | assumption | refine ⟨?_, ?_⟩))
                clear hK K
                (try simp only [Act.put, List.setIfInBounds_toArray, List.set_cons_zero, List.set_cons_succ])
                refine wpAnyH_ready (rs := [14]) (by kernel_rfl) (by simp) ?_
                refine AllReadyH_pick rfl (fun K hK => ?_) (AllReadyH.nil)
                go_simp
                refine HPu.out.mono ?_
                rintro r1 w6 ⟨rfl, hP6⟩
                have hc6 : w6.cell? ⟨g, j, none⟩ = some (.int .u8 (bit.toNat : Int)) := Hcw.out _ _ hP6
                have HP6 := Lib.hid hP6; clear hP6
                go_wp2_with fail
                refine hK.out _ _ ?_ (fun hHeld => ?_)
                · (repeat' (first | trivial | assumption | refine ⟨?_, ?_⟩))
                clear hK K
                (try simp only [Act.put, List.setIfInBounds_toArray, List.set_cons_zero, List.set_cons_succ])
                refine wpAnyH_done (by kernel_rfl) ?_ _
                skip
                go_wp2_with fail
                exact ⟨⟨j + 1, by omega, by simp, HP6.out⟩, by simp [intOf]; omega⟩
              · have e3 : decide ((j : Int) < (x : Int) - 1) = false := by have := Hx1.out; simp; omega
                have hjN2 : j = N := by omega
                have hfin := HP.out
                rw [hjN2, List.take_of_length_le (by rw [Hdl.out]; exact Nat.le_refl _)] at hfin
                rw [HB1.out, Hf1.out] at hfin
                have hall := PenAt.join HPF5.out hfin
                rw [List.append_assoc, Hds.out, HN.out] at hall
                have HAll := Lib.hid hall
                clear hfin hall hjN2
                go_wp2_with fail
                go_ret
                exact ⟨rfl, HAll.out⟩
end Go.Proofs.Ytendcmdpmohacaa

/-
  Contracts of the program's coder: isOne, bound, isNarrow, Next, bytes.Clone; conditions: the widths are below 2^32.
-/
namespace Go.Proofs.Ytendcmdpmohacaa
open Go.RowKit

theorem isOne_any (c : Nat) (w : World) :
    Calls Try.prog 90 #[.int .u16 (c : Int)] w fun e w' => e = .returned (.bool (decide (rightC c))) ∧ w' = w := by
  by_cases h1 : 31 ≤ c
  · have e1 : decide ((31 : Int) ≤ (c : Int)) = true := by simp; omega
    by_cases h2 : c ≤ 2017
    · have e2 : decide ((c : Int) ≤ 2017) = true := by simp; omega
      have e3 : decide (rightC c) = true := decide_eq_true ⟨h1, h2⟩
      go_enter Try.func90, Try.ntmps90
      go_wp2_with fail
      go_ret
      exact ⟨by rw [e3]; rfl, rfl⟩
    · have e2 : decide ((c : Int) ≤ 2017) = false := by simp; omega
      have e3 : decide (rightC c) = false := decide_eq_false fun h => h2 h.2
      go_enter Try.func90, Try.ntmps90
      go_wp2_with fail
      go_ret
      exact ⟨by rw [e3]; rfl, rfl⟩
  · have e1 : decide ((31 : Int) ≤ (c : Int)) = false := by simp; omega
    have e3 : decide (rightC c) = false := decide_eq_false fun h => h1 h.1
    go_enter Try.func90, Try.ntmps90
    go_wp2_with fail
    go_ret
    exact ⟨by rw [e3]; rfl, rfl⟩

theorem bound_any (c r : Nat) (w : World) (hc : rightC c) (hr : 16777216 ≤ r) (hr2 : r ≤ 4294967295) :
    Calls Try.prog 91 #[.int .u16 (c : Int), .int .u32 (r : Int)] w fun e w' => e = .returned (.int .u32 (bnd r c : Int)) ∧ w' = w := by
  obtain ⟨B, hB⟩ : ∃ B, B = bnd r c := ⟨_, rfl⟩
  have hb2 := bnd_hi hr hc
  rw [← hB] at hb2 ⊢
  have eB : (r : Int) / 2048 * (c : Int) = (B : Int) := by rw [hB]; unfold bnd; simp
  have e1 : IntKind.wrap .u32 (c : Int) = (c : Int) := IntWalk.u32_in _ (by have := hc.2; omega)
  have e2 : IntKind.wrap .u32 (B : Int) = (B : Int) := IntWalk.u32_in _ (by omega)
  clear hB hb2
  go_enter Try.func91, Try.ntmps91
  go_wp2_with fail
  go_ret
  exact ⟨rfl, rfl⟩

theorem isNarrow_any (r : Nat) (w : World) :
    Calls Try.prog 93 #[.int .u32 (r : Int)] w fun e w' => e = .returned (.bool (decide (r < 16777216))) ∧ w' = w := by
  by_cases h1 : r < 16777216
  · have e1 : decide ((r : Int) < 16777216) = true := by simp; omega
    rw [decide_eq_true h1]
    go_enter Try.func93, Try.ntmps93
    go_wp2_with fail
    go_ret
    exact ⟨rfl, rfl⟩
  · have e1 : decide ((r : Int) < 16777216) = false := by simp; omega
    rw [decide_eq_false h1]
    go_enter Try.func93, Try.ntmps93
    go_wp2_with fail
    go_ret
    exact ⟨rfl, rfl⟩

theorem next_any : NextSpec := by
  intro w c bit hc hb1 hb2
  obtain ⟨y, hy⟩ : ∃ y, y = nextC c (bit != 0) := ⟨_, rfl⟩
  have hyr : rightC y := by rw [hy]; exact nextC_right _ _
  have hyl := hyr.2
  rw [← hy]
  have HY := Lib.hid hy; clear hy hyr
  by_cases hb : bit = 0
  · have eb : (bit == 0) = true := by simp [hb]
    have HB := Lib.hid (show (bit != 0) = false by simp [hb]); clear hb
    go_enter Try.func83, Try.ntmps83
    go_wp2_with fail
    all_goals
      go_ret
      refine ⟨?_, Fr.refl _ _⟩
      have hy := HY.out
      unfold nextC clampC at hy
      rw [HB.out, if_neg (by simp)] at hy
      first
        | (refine congrArg (fun z => Ending.returned (Value.int .u16 z)) (?_ : _ = (y : Int)); omega)
        | (exfalso; simp_all <;> omega)
  · have eb : (bit == 0) = false := by simp [hb]
    have HB := Lib.hid (show (bit != 0) = true by simp [hb]); clear hb
    go_enter Try.func83, Try.ntmps83
    go_wp2_with fail
    all_goals
      go_ret
      refine ⟨?_, Fr.refl _ _⟩
      have hy := HY.out
      unfold nextC clampC at hy
      rw [HB.out, if_pos rfl] at hy
      first
        | (refine congrArg (fun z => Ending.returned (Value.int .u16 z)) (?_ : _ = (y : Int)); omega)
        | (exfalso; simp_all <;> omega)

theorem clone_any (src : Value) (xs : List UInt8) (w : World) (hs : Src w src (xs.map B8)) (hn : xs.length ≤ 1000000000000) (hne : src.ownBlock ≠ none) :
    Calls Try.prog 50 #[src] w fun e w' => ∃ u, e = .returned u ∧ Mine w w' u xs ∧ u.ownBlock ≠ none := by
  obtain ⟨ad, c, rfl⟩ : ∃ ad c, src = .slice (some ad) xs.length c := by
    rcases hs with ⟨rfl, h0⟩ | ⟨ad, c, rfl, -⟩
    · simp [Value.ownBlock] at hne
    · exact ⟨ad, c, by simp⟩
  obtain ⟨n, hnn⟩ : ∃ n, n = xs.length := ⟨_, rfl⟩
  rw [← hnn] at hs hn ⊢
  have HS := Lib.hid hs
  have Hn := Lib.hid hnn
  clear hs hnn hne
  have q : ∀ (w : World) (a : Option Addr) (n c n' c' : Nat), (binOp .eql 45 (.slice a n c) (.slice none n' c')).run Try.prog w = .ok (.bool a.isNone) w := fun w a n c n' c' => Lib.run_eql_slice_nil w _ _ a n c n' c' Try.underlying45
  go_enter Try.func50, Try.ntmps50
  go_wp2_with (at_builtin; refine wp_append_u8 _ _ (.slice (some ⟨w.heap.size, 0, none⟩) 0 0) [] (.slice (some ad) n c) xs rfl rfl rfl rfl (Own.lit w 5 #[] 0 rfl (by simp [maxLen])) (HS.out.fr0 ((Fr.refl _ _).alloc _)) (by simp; have := Hn.out; omega) ?_)
  intro vo w1 hO hG
  have hM := Mine.copied (w0 := w) (w := w) hO hG (Fr.refl _ _)
  have hne : vo.ownBlock ≠ none := by
    rcases hG.2 with e | ⟨g, e, -⟩
    · rw [e]; simp [Value.ownBlock]
    · rw [e]; simp
  have HM := Lib.hid hM
  clear hM hO hG
  go_wp2_with fail
  go_ret
  exact ⟨_, rfl, HM.out, hne⟩
end Go.Proofs.Ytendcmdpmohacaa

/-
  The program's encoder: New, add; conditions: the code fits.
-/
namespace Go.Proofs.Ytendcmdpmohacaa
open Go.RowKit

/-- The program's encoder: its bytes, in a row of its own, and the range. -/
def Pe (w : World) (p : Nat) (v : Value) (e : Enc) : Prop :=
  Blk w p 77 #[v, .int .u32 (e.r : Int)] ∧ Own w 5 v ((bytesOf e.n e.v).map B8) ∧ v.ownBlock ≠ some p

theorem four0 : [Value.int IntKind.u8 0, Value.int IntKind.u8 0, Value.int IntKind.u8 0, Value.int IntKind.u8 0] = ((bytesOf 4 0).map B8) := by rfl

theorem pnew_any (w : World) :
    Calls Try.prog 21 #[] w fun e w' => ∃ p v, e = .returned (.pointer (some ⟨p, 0, none⟩)) ∧ Pe w' p v encNew ∧ Fr [] w w' ∧ w.heap.size ≤ p ∧ ∀ k, v.ownBlock = some k → w.heap.size ≤ k := by
  obtain ⟨i, hi, hz, h1, h2⟩ := info_parts info_u8
  go_enter Try.func21, Try.ntmps21
  go_wp2_with (at_make; refine wpList_make_mine _ _ 45 5 i _ 1 _ _ 4 rfl rfl Try.underlying45 hi hz h1 h2 rfl rfl rfl (by omega) (by simp only [maxLen]; omega) ?_)
  intro w1 hO hF hlt
  have HO := Lib.hid hO
  have HF := Lib.hid hF
  clear hO hF
  go_wp2_with fail
  go_ret
  have hO := HO.out
  rw [four0] at hO
  refine ⟨w1.heap.size, .slice (some ⟨w.heap.size, 0, none⟩) 4 4, rfl, ⟨?_, hO.alloc _, ?_⟩, HF.out.alloc _, by omega, by simp [Value.ownBlock]⟩
  · exact Blk.new w1 77 #[Value.slice (some ⟨w.heap.size, 0, none⟩) 4 4, Value.int IntKind.u32 4294967295]
  · simp [Value.ownBlock]; omega

theorem Pe.form {w : World} {p : Nat} {v : Value} {e : Enc} (h : Pe w p v e) : ∃ g c, v = .slice g e.n c ∧ e.n ≤ c := by
  rcases h.2.1.form with ⟨rfl, h0⟩ | ⟨g, cap, cur, rfl, -, hc, -⟩
  · have := congrArg List.length h0
    simp at this
    exact ⟨none, 0, by rw [this], by omega⟩
  · exact ⟨_, _, by simp; exact ⟨rfl, rfl⟩, by simpa using hc⟩

set_option maxRecDepth 20000 in
set_option maxHeartbeats 4000000 in
theorem padd_any (p : Nat) (v : Value) (e : Enc) (n : Nat) (w : World) (h : Pe w p v e) (hn : e.v + n < 256 ^ e.n) (hl : e.n ≤ 1000000000) (hs : n ≤ 4294967295) :
    Calls Try.prog 92 #[.pointer (some ⟨p, 0, none⟩), .int .u32 (n : Int)] w fun e' w' => e' = .returned (.tuple #[]) ∧ Pe w' p v ⟨e.v + n, e.n, e.r⟩ ∧ Fr v.ownBlock.toList w w' := by
  obtain ⟨g, c, rfl, hgc⟩ := h.form
  obtain ⟨hB, hO, hne⟩ := h
  obtain ⟨ds, hds⟩ : ∃ ds, ds = bytesOf e.n e.v := ⟨_, rfl⟩
  have hdl : ds.length = e.n := by rw [hds, bytesOf_length]
  have hdv : valueOf ds = e.v := by rw [hds, valueOf_bytesOf, Nat.mod_eq_of_lt (by omega)]
  rw [← hds] at hO
  obtain ⟨L, hL⟩ : ∃ L, L = e.n := ⟨_, rfl⟩
  rw [← hL] at hdl hn hl hO hne hB ⊢
  have c0 := hB.cell 0
  have hlt := hB.lt
  simp at c0
  have ew : IntKind.u64.wrap (n : Int) = (n : Int) := IntWalk.u64_in _ (by omega)
  have Hds := Lib.hid hds; clear hds
  have Hdl := Lib.hid hdl; clear hdl
  have Hdv := Lib.hid hdv; clear hdv
  have HO := Lib.hid hO; clear hO
  have HB := Lib.hid hB; clear hB
  have Hne := Lib.hid hne; clear hne
  have Hn := Lib.hid hn; clear hn
  have HL := Lib.hid hL; clear hL
  go_enter Try.func92, Try.ntmps92
  go_wp2_with fail
  go_loopw [4, 5] (fun s4 s5 wr => ∃ (j cy : Nat) (xs : List UInt8), j ≤ L ∧ s5 = .int .i64 ((j : Int) - 1) ∧ s4 = .int .u64 (cy : Int) ∧ cy ≤ 4294967295 ∧ xs.length = L ∧ valueOf xs + cy * 256 ^ (L - j) = e.v + n ∧ Own wr 5 (.slice g L c) (xs.map B8) ∧ Blk wr p 77 #[.slice g L c, .int .u32 (e.r : Int)] ∧ Fr (Value.slice g L c).ownBlock.toList w wr) (fun _ s5 _ => (intOf s5 + 1).toNat)
  case atStart => exact ⟨L, n, ds, Nat.le_refl _, rfl, rfl, hs, Hdl.out, by rw [Nat.sub_self, Nat.pow_zero, Nat.mul_one, Hdv.out], HO.out, HB.out, Fr.refl _ _⟩
  case round =>
    obtain ⟨j, cy, xs, hj, rfl, rfl, hcy, hxl, hV, hO, hB, hF⟩ := hrel
    have Hxl := Lib.hid hxl; clear hxl
    have HV := Lib.hid hV; clear hV
    have HF := Lib.hid hF; clear hF
    have c1 := hB.cell 0
    simp at c1
    have hdone : (j = 0 ∨ cy = 0) → Pe wr p (.slice g L c) ⟨e.v + n, L, e.r⟩ := by
      intro hx
      have hval : valueOf xs = e.v + n := by
        have h1 := HV.out
        have h2 := Hn.out
        rcases hx with rfl | rfl
        · rw [Nat.sub_zero] at h1
          by_cases h0 : cy = 0
          · subst h0; omega
          · have : 1 * 256 ^ L ≤ cy * 256 ^ L := Nat.mul_le_mul_right _ (by omega)
            omega
        · omega
      refine ⟨hB, ?_, Hne.out⟩
      rw [← of_value Hxl.out hval]
      exact hO
    have HB2 := Lib.hid hB; clear hB
    by_cases hj0 : j = 0
    · subst hj0
      have hR := Lib.hid (hdone (.inl rfl)); clear hdone hO
      go_wp2_with fail
      go_end0
      exact ⟨rfl, hR.out, HF.out⟩
    · by_cases hc0 : cy = 0
      · subst hc0
        obtain ⟨k, rfl⟩ : ∃ k, j = k + 1 := ⟨j - 1, by omega⟩
        have hR := Lib.hid (hdone (.inr rfl)); clear hdone hO
        go_wp2_with fail
        go_end0
        exact ⟨rfl, hR.out, HF.out⟩
      · obtain ⟨k, rfl⟩ : ∃ k, j = k + 1 := ⟨j - 1, by omega⟩
        have e0 : decide ((0 : Int) < (cy : Int)) = true := by simp; omega
        clear hdone
        obtain ⟨g', rfl, c2, c3, -, -⟩ := hO.cell (j := k) (by simp; have := Hxl.out; omega)
        obtain ⟨x, hx⟩ : ∃ x, x = xs.getD k 0 := ⟨_, rfl⟩
        have hk : k < xs.length := by have := Hxl.out; omega
        have c4 : wr.cell? ⟨g', k, none⟩ = some (.int .u8 (x.toNat : Int)) := by
          rw [c2, List.getElem?_map, List.getElem?_eq_getElem hk, hx, List.getD_eq_getElem?_getD, List.getElem?_eq_getElem hk]; rfl
        have hxl := x.toNat_lt
        obtain ⟨V, hVV⟩ : ∃ V, V = cy + x.toNat := ⟨_, rfl⟩
        have eV : (cy : Int) + (x.toNat : Int) = (V : Int) := by omega
        obtain ⟨z, hz⟩ : ∃ z : UInt8, z = UInt8.ofNat (V % 256) := ⟨_, rfl⟩
        have hzn : z.toNat = V % 256 := by rw [hz]; simp
        have ex : IntKind.u64.wrap (x.toNat : Int) = (x.toNat : Int) := IntWalk.u64_in _ (by omega)
        have ew1 : IntKind.u64.wrap (V : Int) = (V : Int) := IntWalk.u64_in _ (by omega)
        have ez : (V : Int) % 256 = (z.toNat : Int) := by omega
        obtain ⟨cy', hcy'⟩ : ∃ cy', cy' = V / 256 := ⟨_, rfl⟩
        have ec : (V : Int) / 256 = (cy' : Int) := by omega
        have hsum : z.toNat + 256 * cy' = x.toNat + cy := by omega
        have hcl : cy' ≤ 4294967295 := by omega
        have h3 := hO.set k (B8 z)
        have hne : g' ≠ p := by have := Hne.out; simpa [Value.ownBlock] using this
        have hVn : valueOf (xs.set k z) + cy' * 256 ^ (L - k) = e.v + n := by
          have h1 := HV.out
          have h2 := valueOf_set xs k z hk
          rw [← hx, Hxl.out] at h2
          rw [show L - (k + 1) = L - 1 - k by omega] at h1
          rw [show L - k = (L - 1 - k) + 1 by omega, Nat.pow_succ]
          generalize 256 ^ (L - 1 - k) = P at h1 h2 ⊢
          have h4 : z.toNat * P + 256 * cy' * P = x.toNat * P + cy * P := by rw [← Nat.add_mul, hsum, Nat.add_mul]
          rw [show cy' * (P * 256) = 256 * cy' * P by rw [Nat.mul_comm P 256, ← Nat.mul_assoc, Nat.mul_comm cy' 256]]
          omega
        have H3 := Lib.hid h3
        have HVn := Lib.hid hVn
        have hVl : V ≤ 4294967550 := by omega
        clear h3 hVn hz hzn hVV hcy' hsum hx c2 hO
        go_wp2_with fail
        refine ⟨⟨k, cy', xs.set k z, by omega, by simp, rfl, hcl, by rw [List.length_set]; exact Hxl.out, HVn.out, ?_, HB2.out.far (by simp; omega) _, HF.out.setCell (.inl (by simp [Value.ownBlock])) _⟩, by simp [intOf]⟩
        have h5 := H3.out
        rw [← List.map_set] at h5
        exact h5

theorem Pe.span {w : World} {p : Nat} {v : Value} {e : Enc} (h : Pe w p v e) (r : Nat) : Pe (w.setCell ⟨p, 1, none⟩ (.int .u32 (r : Int))) p v ⟨e.v, e.n, r⟩ := by
  refine ⟨?_, h.2.1.fr (S := [p]) ((Fr.refl _ _).setCell (.inl (by simp)) _) (fun k hk hm => ?_), h.2.2⟩
  · have := h.1.set_ 1 (.int .u32 (r : Int))
    simpa using this
  · simp at hm; subst hm; exact h.2.2 hk

/-- What writing changes: the encoder's own cells, its row; the row is the same or new. -/
def PeFr (p : Nat) (v v' : Value) (w w' : World) : Prop := Fr (p :: v.ownBlock.toList) w w' ∧ (v'.ownBlock = v.ownBlock ∨ ∃ g, v'.ownBlock = some g ∧ w.heap.size ≤ g)

theorem pput_nil (w : World) (c : Nat) (bit : Int) : Calls Try.prog 82 #[.pointer none, .int .u16 (c : Int), .int .i64 bit] w fun r w' => r = .returned (.int .i64 1) ∧ Fr [] w w' := by
  go_enter Try.func82, Try.ntmps82
  go_wp2_with fail
  go_ret
  exact ⟨rfl, Fr.refl _ _⟩

theorem pput_bad (w : World) (p c : Nat) (bit : Int) (h : ¬ (rightC c ∧ (bit = 0 ∨ bit = 1))) :
    Calls Try.prog 82 #[pt p, .int .u16 (c : Int), .int .i64 bit] w fun r w' => r = .returned (.int .i64 1) ∧ Fr [] w w' := by
  by_cases hc : rightC c
  · have e0 : decide (rightC c) = true := decide_eq_true hc
    have h0 : bit ≠ 0 := fun e => h ⟨hc, .inl e⟩
    have h1 : bit ≠ 1 := fun e => h ⟨hc, .inr e⟩
    have e1 : (bit != 0) = true := by simp [h0]
    have e2 : (bit != 1) = true := by simp [h1]
    have HC := Lib.hid (isOne_any c w)
    clear h hc h0 h1
    go_enter Try.func82, Try.ntmps82
    go_wp2_with fail
    refine HC.out.mono ?_
    rintro e w' ⟨rfl, rfl⟩
    rw [e0]
    go_wp2_with fail
    go_ret
    exact ⟨rfl, Fr.refl _ _⟩
  · have e0 : decide (rightC c) = false := decide_eq_false hc
    have HC := Lib.hid (isOne_any c w)
    clear h hc
    go_enter Try.func82, Try.ntmps82
    go_wp2_with fail
    refine HC.out.mono ?_
    rintro e w' ⟨rfl, rfl⟩
    rw [e0]
    go_wp2_with fail
    go_ret
    exact ⟨rfl, Fr.refl _ _⟩

theorem Src.le {w : World} {A : Option Addr} {n c : Nat} {xs : List Value} (h : Src w (.slice A n c) xs) : n ≤ c := by
  rcases h with ⟨h1, rfl⟩ | ⟨ad, c', h1, hle, -⟩
  · injection h1 with e1 e2 e3
    subst e1 e2 e3
    exact Nat.le_refl _
  · injection h1 with e1 e2 e3
    subst e1 e2 e3
    exact hle
theorem Src.cut {w : World} {A : Option Addr} {n c : Nat} {xs : List Value} (h : Src w (.slice A n c) xs) : Src w (.slice A n n) xs := by
  rcases h with ⟨h1, rfl⟩ | ⟨ad, c', h1, hle, hx⟩
  · injection h1 with e1 e2 e3
    subst e1 e2 e3
    exact .inl ⟨rfl, rfl⟩
  · injection h1 with e1 e2 e3
    subst e1 e2 e3
    exact .inr ⟨ad, xs.length, rfl, Nat.le_refl _, hx⟩

theorem bytesNil_any (w : World) : Calls Try.prog 26 #[.pointer none] w fun r w' => r = .returned (.slice none 0 0) ∧ Fr [] w w' := by
  go_enter Try.func26, Try.ntmps26
  go_wp2_with fail
  go_ret
  exact ⟨rfl, Fr.refl _ _⟩

theorem pbytes_any (w : World) (p : Nat) (v : Value) (e : Enc) (h : Pe w p v e) (hl : 0 < e.n) (hn : e.n ≤ 100000) :
    Calls Try.prog 26 #[pt p] w fun r w' => ∃ u, r = .returned u ∧ Src w' u ((bytesOf e.n e.v).map B8) ∧ Fr [] w w' ∧ ∀ k, u.ownBlock = some k → w.heap.size ≤ k := by
  obtain ⟨g, c, rfl, hgc⟩ := h.form
  obtain ⟨hB, hO, hne⟩ := h
  have hcl := clone_any (.slice g e.n c) (bytesOf e.n e.v) w hO.src (by simp; omega) (by
    rcases hO.form with ⟨h0, h1⟩ | ⟨g1, cap, cur, h1, -⟩
    · have := congrArg List.length h1
      simp at this; omega
    · rw [h1]; simp [Value.ownBlock])
  have c0 := hB.cell 0
  have hlt := hB.lt
  simp at c0
  have HC := Lib.hid hcl
  obtain ⟨n, hN⟩ : ∃ n, n = e.n := ⟨_, rfl⟩
  rw [← hN] at c0 HC hn hgc hl ⊢
  have HN := Lib.hid hN
  clear hO hB hcl hN
  go_enter Try.func26, Try.ntmps26
  go_wp2_with fail
  refine HC.out.mono ?_
  rintro r w1 ⟨u, rfl, hM, hnn⟩
  obtain ⟨g2, c2, hform⟩ := hM.slice
  subst hform
  rw [bytesOf_length] at *
  have hc2 := hM.src.le
  go_wp2_with fail
  go_ret
  refine ⟨_, rfl, hM.src.cut, hM.fr, ?_⟩
  cases g2 with
  | none => simp [Value.ownBlock]
  | some a => exact fun k hk => hM.new k hk
end Go.Proofs.Ytendcmdpmohacaa

/-
  The program's encoder: Put; conditions: the code is at most as long as named.
-/
namespace Go.Proofs.Ytendcmdpmohacaa
open Go.RowKit

theorem PeFr.own {p : Nat} {v : Value} {w w' : World} (h : Fr (p :: v.ownBlock.toList) w w') : PeFr p v v w w' := ⟨h, .inl rfl⟩

set_option maxRecDepth 100000 in
set_option maxHeartbeats 4000000 in
theorem pput_ok (p : Nat) (v : Value) (e : Enc) (c : Nat) (bit : Bool) (w : World) (h : Pe w p v e) (he : e.Ok) (hc : rightC c) (hn : e.n ≤ 1000000) :
    Calls Try.prog 82 #[pt p, .int .u16 (c : Int), .int .i64 (bit.toNat : Int)] w fun e' w' => e' = .returned (.int .i64 0) ∧ ∃ v', Pe w' p v' (encPut e c bit) ∧ PeFr p v v' w w' := by
  have e0 : decide (rightC c) = true := decide_eq_true hc
  have HC := Lib.hid (isOne_any c w)
  have HBd := Lib.hid (bound_any c e.r w hc he.lo he.hi)
  obtain ⟨B, hB⟩ : ∃ B, B = bnd e.r c := ⟨_, rfl⟩
  have hb1 := bnd_lo he.lo hc
  have hb2 := bnd_hi he.lo hc
  have hr2 := he.hi
  rw [← hB] at hb1 hb2 HBd
  have hfit := he.fit
  obtain ⟨E1, hE1⟩ : ∃ E1, E1 = encBit e c bit := ⟨_, rfl⟩
  have hpo : (encScale E1).Ok := by rw [hE1]; exact encPut_ok he hc bit
  have hpo := Lib.hid hpo
  obtain ⟨E2, hE2⟩ : ∃ E2, encScale E1 = E2 := ⟨_, rfl⟩
  rw [show encPut e c bit = E2 by rw [← hE2, hE1]; rfl]
  have HE2 := Lib.hid hE2
  have hEn : E1.n ≤ 1000000 := by rw [hE1, (encBit_facts he hc bit).1]; exact hn
  have hEr : 253952 ≤ E1.r ∧ E1.r ≤ 4294967295 := by
    obtain ⟨q1, q2, q3, q4, q5⟩ := encBit_facts he hc bit
    rw [hE1]; omega
  have h1 := h.1.cell 1
  have h1f := h.1.frozen 1
  have hlt := h.1.lt
  simp at h1
  have hadd := fun hb : bit = true => padd_any p v e B w h (by omega) (by omega) (by omega)
  obtain ⟨R, hR⟩ : ∃ R, R = e.r := ⟨_, rfl⟩
  rw [← hR] at h1 hb2 hr2 HBd
  have H := Lib.hid h
  have HB := Lib.hid hB
  have HR := Lib.hid hR
  have HE1 := Lib.hid hE1
  have HEr := Lib.hid hEr
  have HAdd := Lib.hid hadd
  clear h hB hR hc he hE1 hE2 hEr hadd
  cases bit
  case' false =>
    have h3 : Pe (w.setCell ⟨p, 1, none⟩ (.int .u32 (B : Int))) p v E1 := by
      have := H.out.span B
      rw [HE1.out]
      unfold encBit
      rw [if_neg (by simp), ← HB.out]
      exact this
    have hF3 : PeFr p v v w (w.setCell ⟨p, 1, none⟩ (.int .u32 (B : Int))) := PeFr.own ((Fr.refl (p :: v.ownBlock.toList) w).setCell (p := ⟨p, 1, none⟩) (.inl (by simp)) (.int .u32 (B : Int)))
    have H3 := Lib.hid h3
    have HF3 := Lib.hid hF3
    clear h3 hF3
    go_enter Try.func82, Try.ntmps82
    go_wp2_with fail
    refine HC.out.mono ?_
    rintro e1 w' ⟨rfl, rfl⟩
    rw [e0]
    go_wp2_with fail
    refine HBd.out.mono ?_
    rintro e1 w2 ⟨rfl, rfl⟩
    clear HC HBd HAdd
    go_upto_region 8 with fail
    generalize w2.setCell ⟨p, 1, none⟩ (.int .u32 (B : Int)) = w4 at H3 HF3 ⊢
    clear h1 h1f hlt
  case' true =>
    obtain ⟨S, hS⟩ : ∃ S, S = R - B := ⟨_, rfl⟩
    have eS : (R : Int) - (B : Int) = (S : Int) := by omega
    have HS := Lib.hid hS
    clear hS
    go_enter Try.func82, Try.ntmps82
    go_wp2_with fail
    refine HC.out.mono ?_
    rintro e1 w' ⟨rfl, rfl⟩
    rw [e0]
    go_wp2_with fail
    refine HBd.out.mono ?_
    rintro e1 w2 ⟨rfl, rfl⟩
    clear HC HBd
    go_wp2_with fail
    refine (HAdd.out trivial).mono ?_
    rintro e1 w3 ⟨rfl, hR3, hF3⟩
    have h3 : Pe (w3.setCell ⟨p, 1, none⟩ (.int .u32 (S : Int))) p v E1 := by
      have := hR3.span S
      rw [HE1.out]
      unfold encBit
      rw [if_pos rfl, ← HB.out, ← HR.out, ← HS.out]
      exact this
    have c1 := hR3.1.cell 1
    have f1 := hR3.1.frozen 1
    have hl3 := hR3.1.lt
    simp at c1
    rw [← HR.out] at c1
    have hF3 : PeFr p v v w2 (w3.setCell ⟨p, 1, none⟩ (.int .u32 (S : Int))) := PeFr.own ((hF3.mono (S' := p :: v.ownBlock.toList) (fun x hx => .inl (List.mem_cons_of_mem _ hx))).setCell (.inl (by simp)) _)
    have H3 := Lib.hid h3
    have HF3 := Lib.hid hF3
    clear h3 hF3 hR3 h1 h1f HAdd
    go_upto_region 8 with fail
    generalize w3.setCell ⟨p, 1, none⟩ (.int .u32 (S : Int)) = w4 at H3 HF3 ⊢
    clear c1 f1 hl3 eS HS hlt
  all_goals
    have c1 := H3.out.1.cell 1
    have f1 := H3.out.1.frozen 1
    have hl := H3.out.1.lt
    simp at c1
    obtain ⟨r, hr⟩ : ∃ r, r = E1.r := ⟨_, rfl⟩
    rw [← hr] at c1
    have HN := Lib.hid (isNarrow_any r w4)
    have Hr := Lib.hid hr
    have hr3 : r ≤ 4294967295 := by have := HEr.out.2; omega
    clear hr
    by_cases hlt : r < 16777216
    · rw [decide_eq_true hlt] at HN
      obtain ⟨M, hM⟩ : ∃ M, M = r * 256 := ⟨_, rfl⟩
      have eM : (r : Int) * 256 = (M : Int) := by omega
      have eM2 : (M : Int) % 4294967296 = (M : Int) := by omega
      have HM := Lib.hid hM
      have Hlt := Lib.hid hlt
      clear hlt hM
      go_wp2_with fail
      refine HN.out.mono ?_
      rintro e1 w5 ⟨rfl, rfl⟩
      go_upto_region 10 with fail
      have h6 := H3.out.span M
      obtain ⟨g, cc, hv, -⟩ := H3.out.form
      have hF6 : Fr [p] w5 (w5.setCell ⟨p, 1, none⟩ (.int .u32 (M : Int))) := (Fr.refl _ _).setCell (.inl (by simp)) _
      generalize w5.setCell ⟨p, 1, none⟩ (.int .u32 (M : Int)) = w6 at h6 hF6 ⊢
      clear c1 f1 hl
      have c0 := h6.1.cell 0
      have hl6 := h6.1.lt
      simp at c0
      have H6 := Lib.hid h6
      have HF6 := Lib.hid hF6
      rw [hv] at c0
      have Hv := Lib.hid hv
      clear h6 hF6 hv
      go_wp2_with (at_builtin; refine wp_append_u8 _ _ (.slice g E1.n cc) (bytesOf E1.n E1.v) (.slice (some ⟨w6.heap.size, 0, none⟩) 1 1) [0] rfl rfl rfl rfl (by rw [← Hv.out]; exact H6.out.2.1.alloc _) (Src.one (by simp [go_sem]; rfl)) (by simp; omega) ?_)
      intro v7 w7 hO7 hG7
      rw [← Hv.out] at hG7
      have hB7 := (H6.out.1.alloc (.cells #[.int .u8 0] 5)).fr hG7.1 (not_own H6.out.2.2)
      have k0 := hB7.cell 0
      have k1 := hB7.frozen 0
      have k2 := hB7.lt
      simp at k0
      have hlen7 : ((bytesOf E1.n E1.v).map B8 ++ [B8 0]).length = E1.n + 1 := by simp
      obtain ⟨g7, cap7, hv7, -, -, -, -⟩ := hO7.last (i := E1.n) hlen7
      have hne7 : v7.ownBlock ≠ some p := by
        rcases hG7.2 with e' | ⟨g5, e', hg⟩
        · rw [e']; exact H6.out.2.2
        · rw [e']; intro h; injection h with h; simp at hg; omega
      have hR7 : Pe (w7.setCell ⟨p, 0, none⟩ v7) p v7 E2 := by
        rw [← HE2.out, encScale_more (by rw [← Hr.out]; exact Hlt.out), ← Hr.out, ← HM.out]
        refine ⟨?_, ?_, hne7⟩
        · have := hB7.set_ 0 v7
          simpa using this
        · rw [bytesOf_zero, List.map_append]
          exact hO7.fr (S := [p]) ((Fr.refl _ _).setCell (.inl (by simp)) _) (fun k hk hm => by simp at hm; subst hm; exact hne7 hk)
      have hF7 : PeFr p v v7 w2 (w7.setCell ⟨p, 0, none⟩ v7) := by
        obtain ⟨q1, -⟩ := HF3.out
        have q3 := HF6.out
        refine ⟨((((q1.trans q3 (by simp)).alloc _).trans hG7.1 (fun x hx => .inl (List.mem_cons_of_mem _ hx)))).setCell (.inl (by simp)) _, ?_⟩
        have hs := q1.size
        have hs4 := q3.size
        rcases hG7.2 with e' | ⟨g5, e', hg⟩
        · exact .inl e'
        · exact .inr ⟨g5, e', by simp at hg; omega⟩
      have HR7 := Lib.hid hR7
      have HF7 := Lib.hid hF7
      obtain ⟨n1, hn1⟩ : ∃ n1, n1 = E1.n := ⟨_, rfl⟩
      rw [← hn1] at hv7
      have HNN := Lib.hid hn1
      clear hn1
      clear hR7 hF7 hO7 hG7 hB7 hne7 hlen7
      subst hv7
      go_wp2_with fail
      go_ret
      exact ⟨rfl, _, HR7.out, HF7.out⟩
    · rw [decide_eq_false hlt] at HN
      have Hlt := Lib.hid hlt
      clear hlt
      go_wp2_with fail
      refine HN.out.mono ?_
      rintro e1 w5 ⟨rfl, rfl⟩
      go_wp2_with fail
      go_ret
      refine ⟨rfl, v, ?_, HF3.out⟩
      rw [← HE2.out, encScale_same (by rw [← Hr.out]; exact Hlt.out)]
      exact H3.out
end Go.Proofs.Ytendcmdpmohacaa

/-
  Contracts of the document's coder of layer 4: Open, Get; conditions: the lengths are bounded as named.
-/
namespace Go.Proofs.Ytendcmdpmohacaa
open Go.RowKit

theorem ropen_short (A : Option Addr) (n c : Nat) (w : World) (h : n < 4) :
    Calls Try.prog 29 #[.slice A n c] w fun e w' => e = .returned (.tuple #[.pointer none, .int .i64 41]) ∧ w' = w := by
  have e1 : decide ((n : Int) < 4) = true := by simp; omega
  clear h
  go_enter Try.func29, Try.ntmps29
  go_wp2_with fail
  go_ret2
  exact ⟨rfl, rfl⟩

set_option maxRecDepth 20000 in
set_option maxHeartbeats 4000000 in
theorem ropen_any (A : Option Addr) (c : Nat) (bs : List UInt8) (w : World) (hs : Src w (.slice A bs.length c) (bs.map B8)) (hn : 4 ≤ bs.length) (hm : bs.length ≤ 1000000) :
    Calls Try.prog 29 #[.slice A bs.length c] w fun e w' => ∃ p, e = .returned (.tuple #[.pointer (some ⟨p, 0, none⟩), .int .i64 0]) ∧ Rd w' p A c bs (decOpen bs) ∧ Fr [] w w' ∧ w.heap.size ≤ p := by
  obtain ⟨n, hnn⟩ : ∃ n, n = bs.length := ⟨_, rfl⟩
  rw [← hnn] at hs hn hm
  have e1 : decide ((n : Int) < 4) = false := by simp; omega
  have HS := Lib.hid hs
  have Hnn := Lib.hid hnn
  rw [show (bs.length) = n from hnn.symm]
  clear hs hnn
  go_enter Try.func29, Try.ntmps29
  go_wp2_with fail
  generalize hw : w.alloc _ = w1
  have hB : Blk w1 w.heap.size 93 #[.slice A n c, .int .i64 ((4 : Nat) : Int), .int .i64 ((0 : Nat) : Int), .int .i64 4294967295] := by rw [← hw]; exact Blk.new _ _ _
  have hF : Fr [] w w1 := by rw [← hw]; exact (Fr.refl _ _).alloc _
  obtain ⟨p, hp⟩ : ∃ p, p = w.heap.size := ⟨_, rfl⟩
  rw [← hp] at hB ⊢
  have Hp := Lib.hid hp
  have HB := Lib.hid hB
  have HF := Lib.hid hF
  clear hB hF hw hp
  go_loopw [5] (fun s5 wr => ∃ i : Nat, i ≤ 4 ∧ s5 = .int .i64 (i : Int) ∧ Fr [] w wr ∧ Blk wr p 93 #[.slice A n c, .int .i64 ((4 : Nat) : Int), .int .i64 (valueOf (bs.take i) : Int), .int .i64 4294967295]) (fun s5 _ => 4 - (intOf s5).toNat)
  case atStart => exact ⟨0, by omega, rfl, HF.out, HB.out⟩
  case round =>
    obtain ⟨i, hi, rfl, hF, hB⟩ := hrel
    by_cases hlt : i < 4
    · have eg : decide ((i : Int) < 4) = true := by simp; omega
      obtain ⟨x, hx⟩ : ∃ x, bs[i]? = some x := ⟨_, List.getElem?_eq_getElem (by have := Hnn.out; omega)⟩
      have hcell : ∀ W, Fr [] w W → ∃ ad, A = some ad ∧ W.cell? (ad.add i) = some (.int .u8 (x.toNat : Int)) := by
        intro W hF
        obtain ⟨ad, r1, c1⟩ := (HS.out.fr0 hF).cellAt hx
        exact ⟨ad, r1, c1⟩
      obtain ⟨ad, rfl, -⟩ := hcell wr hF
      have hcells : ∀ W, Fr [] w W → W.cell? (ad.add i) = some (.int .u8 (x.toNat : Int)) := by
        intro W hF
        obtain ⟨a1, r1, c1⟩ := hcell W hF
        injection r1 with r1
        subst r1
        exact c1
      obtain ⟨V, hV⟩ : ∃ V, V = valueOf (bs.take i) := ⟨_, rfl⟩
      have hVl : V < 4294967296 := by
        have h1 := valueOf_lt (bs.take i)
        have h2 : (bs.take i).length ≤ 4 := by simp; omega
        have h3 : 256 ^ (bs.take i).length ≤ 256 ^ 4 := Nat.pow_le_pow_right (by omega) h2
        rw [← hV] at h1
        omega
      rw [← hV] at hB
      have hxl := x.toNat_lt
      obtain ⟨U, hU⟩ : ∃ U, U = 256 * V + x.toNat := ⟨_, rfl⟩
      have eU : 256 * (V : Int) + (x.toNat : Int) = (U : Int) := by omega
      have hval : valueOf (bs.take (i + 1)) = U := by
        rw [take_value bs i (by have := Hnn.out; omega), ← hV, hU, List.getD_eq_getElem?_getD, hx]; rfl
      have hin : i < n := by omega
      have w1 : IntKind.i64.wrap (256 * (V : Int)) = 256 * (V : Int) := IntWalk.i64_in _ (by omega)
      have w2 : IntKind.i64.wrap (U : Int) = (U : Int) := IntWalk.i64_in _ (by omega)
      have w3 : IntKind.i64.wrap (x.toNat : Int) = (x.toNat : Int) := IntWalk.i64_in _ (by omega)
      have k2 := hB.drew.cell 2
      have k3 := hB.drew.frozen 2
      have k4 := hB.drew.lt
      simp at k2
      have kx := hcells _ hF.drew
      have h5 := hB.drew.set_ 2 (.int .i64 (U : Int))
      have h6 := hF.drew.setCell (p := ⟨p, 2, none⟩) (.inr (by have := Hp.out; simp; omega)) (.int .i64 (U : Int))
      have kx2 := hcells _ h6
      have H5 := Lib.hid h5
      have H6 := Lib.hid h6
      have HV := Lib.hid hV
      have Hval := Lib.hid hval
      have Hx := Lib.hid hx
      clear h5 h6 hV hval hx hcell hcells hB hF hU
      go_upto_region 7 with fail
      refine wp_region_held_drew (S := fun W => W.cell? (ad.add i) = some (.int .u8 (x.toNat : Int))) (by kernel_rfl) ?_ (fun hHeld => ?_)
      · (repeat' (first | trivial | assumption | refine ⟨?_, ?_⟩))
      refine wpAnyH_pick 0 (v := ?_) rfl (by kernel_rfl) (by kernel_rfl) (by kernel_rfl) (fun _ _ _ h => h) (by assumption) (by rfl) ?_ ?_
      rotate_left
      · (intro w hSw; (try dsimp only at hSw); go_simp) <;> (with_reducible rfl)
      (try simp only [Act.put, List.setIfInBounds_toArray, List.set_cons_zero, List.set_cons_succ])
      refine wpAnyH_pick 1 (v := ?_) rfl (by kernel_rfl) (by kernel_rfl) (by kernel_rfl) (fun _ _ _ h => h) (by assumption) (by rfl) ?_ ?_
      rotate_left
      · (intro w hSw; (try dsimp only at hSw); go_simp) <;> (with_reducible rfl)
      (try simp only [Act.put, List.setIfInBounds_toArray, List.set_cons_zero, List.set_cons_succ])
      refine wpAnyH_pick 2 (v := ?_) rfl (by kernel_rfl) (by kernel_rfl) (by kernel_rfl) (fun _ _ _ h => h) (by assumption) (by rfl) ?_ ?_
      rotate_left
      · (intro w hSw; (try dsimp only at hSw); go_simp) <;> (with_reducible rfl)
      (try simp only [Act.put, List.setIfInBounds_toArray, List.set_cons_zero, List.set_cons_succ])
      refine wpAnyH_pick 3 (v := ?_) rfl (by kernel_rfl) (by kernel_rfl) (by kernel_rfl) (fun _ _ _ h => h) (by assumption) (by rfl) ?_ ?_
      rotate_left
      · (intro w hSw; (try dsimp only at hSw); go_simp) <;> (with_reducible rfl)
      (try simp only [Act.put, List.setIfInBounds_toArray, List.set_cons_zero, List.set_cons_succ])
      refine wpAnyH_pick 6 (v := ?_) rfl (by kernel_rfl) (by kernel_rfl) (by kernel_rfl) (fun _ _ _ h => h) (by assumption) (by rfl) ?_ ?_
      rotate_left
      · (intro w hSw; (try dsimp only at hSw); go_simp) <;> (with_reducible rfl)
      (try simp only [Act.put, List.setIfInBounds_toArray, List.set_cons_zero, List.set_cons_succ])
      refine wpAnyH_pick 7 (v := ?_) rfl (by kernel_rfl) (by kernel_rfl) (by kernel_rfl) (fun _ _ _ h => h) (by assumption) (by rfl) ?_ ?_
      rotate_left
      · (intro w hSw; (try dsimp only at hSw); go_simp) <;> (with_reducible rfl)
      (try simp only [Act.put, List.setIfInBounds_toArray, List.set_cons_zero, List.set_cons_succ])
      refine wpAnyH_pick 8 (v := ?_) rfl (by kernel_rfl) (by kernel_rfl) (by kernel_rfl) (fun _ _ _ h => h) (by assumption) (by rfl) ?_ ?_
      rotate_left
      · (intro w hSw; (try dsimp only at hSw); go_simp) <;> (with_reducible rfl)
      (try simp only [Act.put, List.setIfInBounds_toArray, List.set_cons_zero, List.set_cons_succ])
      refine wpAnyH_pick 9 (v := ?_) rfl (by kernel_rfl) (by kernel_rfl) (by kernel_rfl) (fun _ _ _ h => h) (by assumption) (by rfl) ?_ ?_
      rotate_left
      · (intro w hSw; (try dsimp only at hSw); go_simp) <;> (with_reducible rfl)
      (try simp only [Act.put, List.setIfInBounds_toArray, List.set_cons_zero, List.set_cons_succ])
      refine wpAnyH_pick 10 (v := ?_) rfl (by kernel_rfl) (by kernel_rfl) (by kernel_rfl) (fun _ _ _ h => h) (by assumption) (by rfl) ?_ ?_
      rotate_left
      · (intro w hSw; (try dsimp only at hSw); go_simp) <;> (with_reducible rfl)
      (try simp only [Act.put, List.setIfInBounds_toArray, List.set_cons_zero, List.set_cons_succ])
      refine wpAnyH_ready (rs := [4]) (by kernel_rfl) (by simp) ?_
      refine AllReadyH_pick rfl (fun K hK => ?_) (AllReadyH.nil)
      skip
      go_simp
      refine hK.out _ _ ?_ (fun hHeld => ?_)
      · (repeat' (first | trivial | assumption | refine ⟨?_, ?_⟩))
      clear hK K
      (try simp only [Act.put, List.setIfInBounds_toArray, List.set_cons_zero, List.set_cons_succ])
      refine wpAnyH_pick 5 (v := ?_) rfl (by kernel_rfl) (by kernel_rfl) (by kernel_rfl) (fun _ _ _ h => h) (by assumption) (by rfl) ?_ ?_
      rotate_left
      · (intro w hSw; (try dsimp only at hSw); go_simp) <;> (with_reducible rfl)
      (try simp only [Act.put, List.setIfInBounds_toArray, List.set_cons_zero, List.set_cons_succ])
      refine wpAnyH_pick 11 (v := ?_) rfl (by kernel_rfl) (by kernel_rfl) (by kernel_rfl) (fun _ _ _ h => h) (by assumption) (by rfl) ?_ ?_
      rotate_left
      · (intro w hSw; (try dsimp only at hSw); go_simp) <;> (with_reducible rfl)
      (try simp only [Act.put, List.setIfInBounds_toArray, List.set_cons_zero, List.set_cons_succ])
      refine wpAnyH_pick 12 (v := ?_) rfl (by kernel_rfl) (by kernel_rfl) (by kernel_rfl) (fun _ _ _ h => h) (by assumption) (by rfl) ?_ ?_
      rotate_left
      · (intro w hSw; (try dsimp only at hSw); go_simp) <;> (with_reducible rfl)
      (try simp only [Act.put, List.setIfInBounds_toArray, List.set_cons_zero, List.set_cons_succ])
      refine wpAnyH_pick 13 (v := ?_) rfl (by kernel_rfl) (by kernel_rfl) (by kernel_rfl) (fun _ _ _ h => h) (by assumption) (by rfl) ?_ ?_
      rotate_left
      · (intro w hSw; (try dsimp only at hSw); go_simp) <;> (with_reducible rfl)
      (try simp only [Act.put, List.setIfInBounds_toArray, List.set_cons_zero, List.set_cons_succ])
      refine wpAnyH_ready (rs := [14]) (by kernel_rfl) (by simp) ?_
      refine AllReadyH_pick rfl (fun K hK => ?_) (AllReadyH.nil)
      skip
      go_simp
      refine hK.out _ _ ?_ (fun hHeld => ?_)
      · (repeat' (first | trivial | assumption | refine ⟨?_, ?_⟩))
      clear hK K
      (try simp only [Act.put, List.setIfInBounds_toArray, List.set_cons_zero, List.set_cons_succ])
      refine wpAnyH_done (by kernel_rfl) ?_ _
      skip
      have k5 : Blk (wr.setCell ⟨p, 2, none⟩ (.int .i64 (U : Int))).drew p 93 (#[.slice (some ad) n c, .int .i64 ((4 : Nat) : Int), .int .i64 (V : Int), .int .i64 4294967295].setIfInBounds 2 (.int .i64 (U : Int))) := H5.out
      have k6 : Fr [] w (wr.setCell ⟨p, 2, none⟩ (.int .i64 (U : Int))).drew := H6.out
      generalize (wr.setCell ⟨p, 2, none⟩ (.int .i64 (U : Int))).drew = w7 at k5 k6 ⊢
      have k5' : Blk w7 p 93 #[.slice (some ad) n c, .int .i64 ((4 : Nat) : Int), .int .i64 (U : Int), .int .i64 4294967295] := by simpa using k5
      have K5 := Lib.hid k5'
      have K6 := Lib.hid k6
      clear k5 k5' k6 hHeld k2 k3 k4 kx kx2 H5 H6
      go_wp2_with fail
      exact ⟨⟨i + 1, by omega, by simp, K6.out, by rw [Hval.out]; exact K5.out⟩, by simp [intOf]; omega⟩
    · obtain rfl : i = 4 := by omega
      have eg : decide ((4 : Int) < 4) = false := by decide
      have HF2 := Lib.hid hF
      have HB2 := Lib.hid hB
      clear hF hB
      go_wp2_with fail
      go_ret2
      refine ⟨p, rfl, ⟨?_, ?_, ?_⟩, HF2.out, by rw [Hp.out]; exact Nat.le_refl _⟩
      · rw [← Hnn.out]; exact HB2.out
      · rw [← Hnn.out]; exact HS.out.fr0 HF2.out
      · intro ad had
        obtain ⟨a1, r1, c1⟩ := HS.out.cellAt (k := 0) (List.getElem?_eq_getElem (by have := Hnn.out; omega))
        rw [had] at r1
        injection r1 with r1
        subst r1
        have := World.block_lt_of_cell? w _ c1
        rw [addr_block] at this
        have := Hp.out
        omega

theorem decScale_none {bs : List UInt8} {bit : Bool} {d : Dec} (h1 : d.r < 16777216) (h2 : bs.length ≤ d.i) : decScale bs bit d = none := by unfold decScale; rw [if_pos h1, if_neg (by omega)]
theorem decScale_more {bs : List UInt8} {bit : Bool} {d : Dec} (h1 : d.r < 16777216) (h2 : d.i < bs.length) : decScale bs bit d = some (bit, ⟨d.i + 1, 256 * d.rest + (bs.getD d.i 0).toNat, d.r * 256⟩) := by unfold decScale; rw [if_pos h1, if_pos h2]
theorem decScale_same {bs : List UInt8} {bit : Bool} {d : Dec} (h1 : ¬ d.r < 16777216) : decScale bs bit d = some (bit, d) := by unfold decScale; rw [if_neg h1]

theorem Rd.fr0 {w w' : World} {p : Nat} {A : Option Addr} {c : Nat} {bs : List UInt8} {d : Dec} (h : Rd w p A c bs d) (hf : Fr [] w w') : Rd w' p A c bs d := ⟨h.1.fr hf (by simp), h.2.1.fr0 hf, h.2.2⟩

theorem rget_arg (a : Value) (c : Nat) (w : World) (h : ¬ rightC c) :
    Calls Try.prog 88 #[a, .int .i64 (c : Int)] w fun e w' => e = .returned (.tuple #[.int .i64 0, .int .i64 1]) ∧ w' = w := by
  have e0 : decide (rightC c) = false := decide_eq_false h
  have HC := Lib.hid (rright_any c w)
  clear h
  go_enter Try.func88, Try.ntmps88
  go_wp2_with fail
  refine HC.out.mono ?_
  rintro e w' ⟨rfl, rfl⟩
  rw [e0]
  go_wp2_with fail
  go_ret2
  exact ⟨rfl, rfl⟩

/-- The rest is too great. -/
theorem rget_great (p : Nat) (A : Option Addr) (cc : Nat) (bs : List UInt8) (d : Dec) (c : Nat) (w : World) (h : Rd w p A cc bs d) (hc : rightC c) (hr : d.r ≤ d.rest) :
    Calls Try.prog 88 #[.pointer (some ⟨p, 0, none⟩), .int .i64 (c : Int)] w fun e w' => e = .returned (.tuple #[.int .i64 0, .int .i64 41]) ∧ ∃ m, w' = w.drewN m := by
  have e0 : decide (rightC c) = true := decide_eq_true hc
  have HC := Lib.hid (rright_any c w)
  have c2 := h.1.cell 2
  have c3 := h.1.cell 3
  have hlt := h.1.lt
  simp at c2 c3
  obtain ⟨i, r, k⟩ := d
  simp only at *
  have e1 : decide (k ≤ r) = true := by simp [hr]
  clear h hc hr
  go_enter Try.func88, Try.ntmps88
  go_wp2_with fail
  refine HC.out.mono ?_
  rintro e w' ⟨rfl, rfl⟩
  rw [e0]
  go_upto_region 4 with fail
  go_quiet (fail)
  go_wp2_with fail
  go_ret2
  exact ⟨rfl, _, rfl⟩

set_option maxRecDepth 100000 in
set_option maxHeartbeats 4000000 in
theorem rget_any (p : Nat) (A : Option Addr) (cc : Nat) (bs : List UInt8) (d : Dec) (c : Nat) (w : World) (h : Rd w p A cc bs d) (hc : rightC c) (hr : d.rest < d.r) (hr1 : 16777216 ≤ d.r) (hr2 : d.r ≤ 4294967295) (hi : d.i ≤ 1000000) :
    Calls Try.prog 88 #[.pointer (some ⟨p, 0, none⟩), .int .i64 (c : Int)] w fun e w' =>
      (∃ bit d', decGet bs d c = some (bit, d') ∧ e = .returned (.tuple #[.int .i64 (bit.toNat : Int), .int .i64 0]) ∧ Rd w' p A cc bs d' ∧ Fr [p] w w') ∨
      (decGet bs d c = none ∧ e = .returned (.tuple #[.int .i64 0, .int .i64 41]) ∧ Fr [] w w') := by
  have e0 : decide (rightC c) = true := decide_eq_true hc
  have HC := Lib.hid (rright_any c w)
  obtain ⟨B, hB⟩ : ∃ B, B = bnd d.r c := ⟨_, rfl⟩
  have hb1 := bnd_lo hr1 hc
  have hb2 := bnd_hi hr1 hc
  rw [← hB] at hb1 hb2
  have eB : (d.r : Int) / 2048 * (c : Int) = (B : Int) := by rw [hB]; unfold bnd; simp
  obtain ⟨D, hD⟩ : ∃ D, D = decBit d c := ⟨_, rfl⟩
  have hget : decGet bs d c = decScale bs D.1 D.2 := by unfold decGet; rw [if_pos hr, hD]
  have hD2 : D = if d.rest < B then (false, ⟨d.i, d.rest, B⟩) else (true, ⟨d.i, d.rest - B, d.r - B⟩) := by rw [hD, hB]; rfl
  have Hget := Lib.hid hget
  have HD := Lib.hid hD2
  have H := Lib.hid h
  have c2 := h.1.cell 2
  have c3 := h.1.cell 3
  have hlt := h.1.lt
  have hz : (Try.prog.info? 93).map (·.size) = some 4 := by kernel_rfl
  have Hz := Lib.hid hz
  simp at c2 c3
  obtain ⟨i, r, k⟩ := d
  simp only at *
  have e1 : decide (k ≤ r) = false := by simp; omega
  clear h hc hget hD2 hD hz hB
  go_enter Try.func88, Try.ntmps88
  go_wp2_with fail
  refine HC.out.mono ?_
  rintro e w' ⟨rfl, rfl⟩
  rw [e0]
  go_upto_region 4 with fail
  go_quiet (fail)
  have H2 := Lib.hid (H.out.fr0 ((Fr.refl [] w').drewN nq))
  have HFd := Lib.hid ((Fr.refl [] w').drewN nq)
  generalize w'.drewN nq = w2 at H2 HFd ⊢
  go_upto_region 6 with fail
  have hz4 : (Try.prog.info? 93).map (·.size) = some (#[Value.slice A bs.length cc, .int .i64 (i : Int), .int .i64 (r : Int), .int .i64 (k : Int)] : Array Value).size := Hz.out
  obtain ⟨n, hn⟩ : ∃ n, n = bs.length := ⟨_, rfl⟩
  rw [← hn] at hz4
  have Hn := Lib.hid hn
  have hR2 := H2.out.1
  rw [← hn] at hR2
  have HR2 := Lib.hid hR2
  clear hR2 hn
  go_upto_region 7 with (first
    | refine wpList_load_row rfl 93 _ rfl p rfl 93 _ _ _ HR2.out.here Try.underlying93 rfl hz4 ?_
    | refine wpList_store_row rfl 93 _ _ rfl w2.heap.size _ rfl rfl 93 _ (heap_alloc_new _ _) hz4 rfl rfl ?_)
  (try rw [World.setRow_alloc_new])
  generalize hw : w2.alloc (.cells #[.slice A n cc, .int .i64 (i : Int), .int .i64 (r : Int), .int .i64 (k : Int)] 93) = w3
  have hB3 : Blk w3 w2.heap.size 93 #[.slice A n cc, .int .i64 (i : Int), .int .i64 (r : Int), .int .i64 (k : Int)] := by rw [← hw]; exact Blk.new _ _ _
  have hF3 : Fr [] w2 w3 := by rw [← hw]; exact (Fr.refl _ _).alloc _
  obtain ⟨q, hq⟩ : ∃ q, q = w2.heap.size := ⟨_, rfl⟩
  rw [← hq] at hB3 ⊢
  have Hq := Lib.hid hq
  have k2 := hB3.cell 2
  have k3 := hB3.cell 3
  have k4 := hB3.frozen 2
  have k5 := hB3.frozen 3
  have k6 := hB3.lt
  simp at k2 k3
  have HB3 := Lib.hid hB3
  have HF3 := Lib.hid hF3
  clear hw hq hB3 hF3 c2 c3 hlt HC e0 hz4
  by_cases hb : r < B
  · have eb : decide (r < B) = true := by simp [hb]
    obtain ⟨D1, hD1⟩ : ∃ D1 : Dec, D1 = ⟨i, r, B⟩ := ⟨_, rfl⟩
    have HrD : Hid (D1.rest < D1.r) := Lib.hid (by rw [hD1]; exact hb)
    have Hr1 : Hid (253952 ≤ D1.r) := Lib.hid (by rw [hD1]; exact hb1)
    rw [if_pos hb, ← hD1] at HD
    have hB4 : Blk (w3.setCell ⟨q, 3, none⟩ (.int .i64 (B : Int))) q 93 #[.slice A n cc, .int .i64 (D1.i : Int), .int .i64 (D1.rest : Int), .int .i64 (D1.r : Int)] := by
      rw [hD1]
      have := HB3.out.set_ 3 (.int .i64 (B : Int))
      simpa using this
    have hF4 : Fr [] w2 (w3.setCell ⟨q, 3, none⟩ (.int .i64 (B : Int))) := HF3.out.setCell (.inr (by rw [← Hq.out]; exact Nat.le_refl _)) _
    have HB4' := Lib.hid hB4
    have HF4' := Lib.hid hF4
    have HD1 := Lib.hid hD1
    clear hB4 hF4 hD1 hb
    go_wp2_with fail
    have HB4 := HB4'
    have HF4 := HF4'
    go_loopw [49] (fun _ wr => ∃ f : Dec, (f = D1 ∨ (D1.r < 16777216 ∧ decScale bs false D1 = some (false, f) ∧ 16777216 ≤ f.r)) ∧ Fr [] w2 wr ∧ Blk wr q 93 #[.slice A n cc, .int .i64 (f.i : Int), .int .i64 (f.rest : Int), .int .i64 (f.r : Int)]) (fun _ wr => 4294967296 - (intOf ((wr.cell? ⟨q, 3, none⟩).getD undef)).toNat)
    case atStart => exact ⟨D1, .inl rfl, HF4.out, HB4.out⟩
    case round =>
      obtain ⟨f, hf, hF, hB⟩ := hrel
      have Hf := Lib.hid hf
      have HF := Lib.hid hF
      have d0 := hB.cell 0
      have d1 := hB.cell 1
      have d2 := hB.cell 2
      have d3 := hB.cell 3
      have g1 := hB.frozen 1
      have g2 := hB.frozen 2
      have g3 := hB.frozen 3
      have hlq := hB.lt
      simp at d0 d1 d2 d3
      have HBr := Lib.hid hB
      clear hf hF hB
      by_cases hlt2 : f.r < 16777216
      · have hfe : f = D1 := by
          rcases Hf.out with h0 | ⟨_, _, h0⟩
          · exact h0
          · omega
        have eg : decide ((f.r : Int) < 16777216) = true := by simp; omega
        have Hfe := Lib.hid hfe
        clear hfe
        by_cases hin : f.i < n
        · have ei : decide (n ≤ f.i) = false := by simp; omega
          have hrest : f.rest < 16777216 := by rw [Hfe.out] at hlt2 ⊢; have := HrD.out; omega
          obtain ⟨x, hx⟩ : ∃ x, bs[f.i]? = some x := ⟨_, List.getElem?_eq_getElem (by have := Hn.out; omega)⟩
          have hmore : decScale bs false D1 = some (false, ⟨f.i + 1, 256 * f.rest + x.toNat, f.r * 256⟩) := by
            rw [← Hfe.out, decScale_more hlt2 (by rw [← Hn.out]; exact hin), List.getD_eq_getElem?_getD, hx]; rfl
          have hfi : f.i ≤ 1000000 := by rw [Hfe.out, HD1.out]; exact hi
          have hf1 : 253952 ≤ f.r := by rw [Hfe.out]; exact Hr1.out
          obtain ⟨I, R, G⟩ := f
          simp only at *
          have hcell : ∀ W, Fr [] w2 W → ∃ ad, A = some ad ∧ W.cell? (ad.add I) = some (.int .u8 (x.toNat : Int)) := by
            intro W hF
            have hS := H2.out.2.1.fr0 hF
            rw [← Hn.out] at hS
            obtain ⟨ad, r1, c1⟩ := hS.cellAt hx
            exact ⟨ad, r1, c1⟩
          obtain ⟨ad, rfl, -⟩ := hcell wr HF.out
          have hcells : ∀ W, Fr [] w2 W → W.cell? (ad.add I) = some (.int .u8 (x.toNat : Int)) := by
            intro W hF
            obtain ⟨a1, r1, c1⟩ := hcell W hF
            have r2 := Option.some.inj r1
            rw [r2]
            exact c1
          have hxl := x.toNat_lt
          obtain ⟨M, hM⟩ : ∃ M, M = G * 256 := ⟨_, rfl⟩
          have eM : 256 * (G : Int) = (M : Int) := by omega
          obtain ⟨U, hU⟩ : ∃ U, U = 256 * R + x.toNat := ⟨_, rfl⟩
          have eU : 256 * (R : Int) + (x.toNat : Int) = (U : Int) := by omega
          have v1 : IntKind.i64.wrap (256 * (R : Int)) = 256 * (R : Int) := IntWalk.i64_in _ (by omega)
          have v2 : IntKind.i64.wrap (U : Int) = (U : Int) := IntWalk.i64_in _ (by omega)
          have v3 : IntKind.i64.wrap (x.toNat : Int) = (x.toNat : Int) := IntWalk.i64_in _ (by omega)
          have v4 : IntKind.i64.wrap (M : Int) = (M : Int) := IntWalk.i64_in _ (by omega)
          rw [← hM, ← hU] at hmore
          have hqn : w2.heap.size ≤ q := by rw [Hq.out]; exact Nat.le_refl _
          have b5 : Blk (wr.setCell ⟨q, 3, none⟩ (.int .i64 (M : Int))) q 93 #[.slice (some ad) n cc, .int .i64 (I : Int), .int .i64 (R : Int), .int .i64 (M : Int)] := by
            have := HBr.out.set_ 3 (.int .i64 (M : Int)); simpa using this
          have f5 : Fr [] w2 (wr.setCell ⟨q, 3, none⟩ (.int .i64 (M : Int))) := HF.out.setCell (.inr hqn) _
          generalize hw5 : wr.setCell ⟨q, 3, none⟩ (.int .i64 (M : Int)) = w5 at b5 f5
          have Hw5 := Lib.hid hw5
          have Hmore := Lib.hid hmore
          have HM := Lib.hid hM
          have Hlt2 := Lib.hid hlt2
          have B5 := Lib.hid b5
          have F5 := Lib.hid f5
          have Hcells := Lib.hid hcells
          have Hd3 := Lib.hid d3
          clear hw5 hmore hM hlt2 hU hx hcell hcells b5 f5
          go_upto_region 18 with fail
          rw [Hw5.out]
          clear d0 d1 d2 d3 g1 g2 g3 hlq eg
          have d0 := B5.out.drew.cell 0
          have d1 := B5.out.drew.cell 1
          have d2 := B5.out.drew.cell 2
          have g2 := B5.out.drew.frozen 2
          simp at d0 d1 d2
          have dx := Hcells.out _ F5.out.drew
          have b6 : Blk (w5.drew.setCell ⟨q, 2, none⟩ (.int .i64 (U : Int))) q 93 #[.slice (some ad) n cc, .int .i64 (I : Int), .int .i64 (U : Int), .int .i64 (M : Int)] := by
            have := B5.out.drew.set_ 2 (.int .i64 (U : Int)); simpa using this
          have f6 : Fr [] w2 (w5.drew.setCell ⟨q, 2, none⟩ (.int .i64 (U : Int))) := F5.out.drew.setCell (.inr hqn) _
          have p0 := b6.cell 0
          have p1 := b6.cell 1
          simp at p0 p1
          have px := Hcells.out _ f6
          have B6 := Lib.hid b6
          have F6 := Lib.hid f6
          clear b6 f6
          refine wp_region_held_drew (S := fun W => W.cell? ⟨q, 0, none⟩ = some (.slice (some ad) n cc) ∧ W.cell? ⟨q, 1, none⟩ = some (.int .i64 (I : Int)) ∧ W.cell? (ad.add I) = some (.int .u8 (x.toNat : Int))) (by kernel_rfl) ?_ (fun hHeld => ?_)
          · (repeat' (first | trivial | assumption | refine ⟨?_, ?_⟩))
          refine wpAnyH_pick 0 (v := ?_) rfl (by kernel_rfl) (by kernel_rfl) (by kernel_rfl) (fun _ _ _ h => h) (by assumption) (by rfl) ?_ ?_
          rotate_left
          · (intro w hSw; (try dsimp only at hSw); go_simp) <;> (with_reducible rfl)
          (try simp only [Act.put, List.setIfInBounds_toArray, List.set_cons_zero, List.set_cons_succ])
          refine wpAnyH_pick 3 (v := ?_) rfl (by kernel_rfl) (by kernel_rfl) (by kernel_rfl) (fun _ _ _ h => h) (by assumption) (by rfl) ?_ ?_
          rotate_left
          · (intro w hSw; (try dsimp only at hSw); go_simp) <;> (with_reducible rfl)
          (try simp only [Act.put, List.setIfInBounds_toArray, List.set_cons_zero, List.set_cons_succ])
          refine wpAnyH_pick 4 (v := ?_) rfl (by kernel_rfl) (by kernel_rfl) (by kernel_rfl) (fun _ _ _ h => h) (by assumption) (by rfl) ?_ ?_
          rotate_left
          · (intro w hSw; (try dsimp only at hSw); go_simp) <;> (with_reducible rfl)
          (try simp only [Act.put, List.setIfInBounds_toArray, List.set_cons_zero, List.set_cons_succ])
          refine wpAnyH_pick 5 (v := ?_) rfl (by kernel_rfl) (by kernel_rfl) (by kernel_rfl) (fun _ _ _ h => h) (by assumption) (by rfl) ?_ ?_
          rotate_left
          · (intro w hSw; (try dsimp only at hSw); go_simp) <;> (with_reducible rfl)
          (try simp only [Act.put, List.setIfInBounds_toArray, List.set_cons_zero, List.set_cons_succ])
          refine wpAnyH_pick 6 (v := ?_) rfl (by kernel_rfl) (by kernel_rfl) (by kernel_rfl) (fun _ _ _ h => h) (by assumption) (by rfl) ?_ ?_
          rotate_left
          · (intro w hSw; (try dsimp only at hSw); go_simp) <;> (with_reducible rfl)
          (try simp only [Act.put, List.setIfInBounds_toArray, List.set_cons_zero, List.set_cons_succ])
          refine wpAnyH_pick 7 (v := ?_) rfl (by kernel_rfl) (by kernel_rfl) (by kernel_rfl) (fun _ _ _ h => h) (by assumption) (by rfl) ?_ ?_
          rotate_left
          · (intro w hSw; (try dsimp only at hSw); go_simp) <;> (with_reducible rfl)
          (try simp only [Act.put, List.setIfInBounds_toArray, List.set_cons_zero, List.set_cons_succ])
          refine wpAnyH_pick 8 (v := ?_) rfl (by kernel_rfl) (by kernel_rfl) (by kernel_rfl) (fun _ _ _ h => h) (by assumption) (by rfl) ?_ ?_
          rotate_left
          · (intro w hSw; (try dsimp only at hSw); go_simp) <;> (with_reducible rfl)
          (try simp only [Act.put, List.setIfInBounds_toArray, List.set_cons_zero, List.set_cons_succ])
          refine wpAnyH_pick 9 (v := ?_) rfl (by kernel_rfl) (by kernel_rfl) (by kernel_rfl) (fun _ _ _ h => h) (by assumption) (by rfl) ?_ ?_
          rotate_left
          · (intro w hSw; (try dsimp only at hSw); go_simp) <;> (with_reducible rfl)
          (try simp only [Act.put, List.setIfInBounds_toArray, List.set_cons_zero, List.set_cons_succ])
          refine wpAnyH_ready (rs := [1]) (by kernel_rfl) (by simp) ?_
          refine AllReadyH_pick rfl (fun K hK => ?_) (AllReadyH.nil)
          skip
          go_simp
          refine hK.out _ _ ?_ (fun hHeld => ?_)
          · (repeat' (first | trivial | assumption | refine ⟨?_, ?_⟩))
          clear hK K
          (try simp only [Act.put, List.setIfInBounds_toArray, List.set_cons_zero, List.set_cons_succ])
          refine wpAnyH_pick 2 (v := ?_) rfl (by kernel_rfl) (by kernel_rfl) (by kernel_rfl) (fun _ _ _ h => h) (by assumption) (by rfl) ?_ ?_
          rotate_left
          · (intro w hSw; (try dsimp only at hSw); go_simp) <;> (with_reducible rfl)
          (try simp only [Act.put, List.setIfInBounds_toArray, List.set_cons_zero, List.set_cons_succ])
          refine wpAnyH_pick 10 (v := ?_) rfl (by kernel_rfl) (by kernel_rfl) (by kernel_rfl) (fun _ _ _ h => h) (by assumption) (by rfl) ?_ ?_
          rotate_left
          · (intro w hSw; (try dsimp only at hSw); go_simp) <;> (with_reducible rfl)
          (try simp only [Act.put, List.setIfInBounds_toArray, List.set_cons_zero, List.set_cons_succ])
          refine wpAnyH_pick 11 (v := ?_) rfl (by kernel_rfl) (by kernel_rfl) (by kernel_rfl) (fun _ _ _ h => h) (by assumption) (by rfl) ?_ ?_
          rotate_left
          · (intro w hSw; (try dsimp only at hSw); go_simp) <;> (with_reducible rfl)
          (try simp only [Act.put, List.setIfInBounds_toArray, List.set_cons_zero, List.set_cons_succ])
          refine wpAnyH_ready (rs := [12]) (by kernel_rfl) (by simp) ?_
          refine AllReadyH_pick rfl (fun K hK => ?_) (AllReadyH.nil)
          skip
          go_simp
          refine hK.out _ _ ?_ (fun hHeld => ?_)
          · (repeat' (first | trivial | assumption | refine ⟨?_, ?_⟩))
          clear hK K
          (try simp only [Act.put, List.setIfInBounds_toArray, List.set_cons_zero, List.set_cons_succ])
          refine wpAnyH_done (by kernel_rfl) ?_ _
          skip
          have b7 : Blk (w5.setCell ⟨q, 2, none⟩ (.int .i64 (U : Int))).drew q 93 #[.slice (some ad) n cc, .int .i64 (I : Int), .int .i64 (U : Int), .int .i64 (M : Int)] := B6.out
          have f7 : Fr [] w2 (w5.setCell ⟨q, 2, none⟩ (.int .i64 (U : Int))).drew := F6.out
          generalize (w5.setCell ⟨q, 2, none⟩ (.int .i64 (U : Int))).drew = w7 at b7 f7 ⊢
          clear hHeld d0 d1 d2 g2 dx p0 p1 px B6 F6
          have d1 := b7.cell 1
          have g1 := b7.frozen 1
          have hlq := b7.lt
          simp at d1
          have b8 : Blk (w7.setCell ⟨q, 1, none⟩ (.int .i64 ((I + 1 : Nat) : Int))) q 93 #[.slice (some ad) n cc, .int .i64 ((I + 1 : Nat) : Int), .int .i64 (U : Int), .int .i64 (M : Int)] := by
            have := b7.set_ 1 (.int .i64 ((I + 1 : Nat) : Int)); simpa using this
          have f8 : Fr [] w2 (w7.setCell ⟨q, 1, none⟩ (.int .i64 ((I + 1 : Nat) : Int))) := f7.setCell (.inr hqn) _
          have B8 := Lib.hid b8
          have F8 := Lib.hid f8
          clear b7 f7 b8 f8
          go_wp2_with fail
          have hm3 : (w7.setCell ⟨q, 1, none⟩ (.int .i64 ((I : Int) + 1))).cell? ⟨q, 3, none⟩ = some (.int .i64 (M : Int)) := by
            have := B8.out.cell 3
            simpa using this
          have hMG : G < M ∧ 16777216 ≤ M ∧ M ≤ 4294967295 := by have := HM.out; have := Hlt2.out; omega
          refine ⟨⟨⟨I + 1, U, M⟩, .inr ⟨by rw [← Hfe.out]; exact Hlt2.out, Hmore.out, hMG.2.1⟩, F8.out, B8.out⟩, ?_⟩
          rw [hm3, Hd3.out]
          simp only [intOf, Option.getD_some]
          omega
        · have ei : decide ((n : Int) ≤ (f.i : Int)) = true := by simp; omega
          have ei2 : decide (n ≤ f.i) = true := by simp; omega
          have hnone : decScale bs false D1 = none := by rw [← Hfe.out]; exact decScale_none hlt2 (by rw [← Hn.out]; omega)
          have Hnone := Lib.hid hnone
          have Hlt2 := Lib.hid hlt2
          have Hin := Lib.hid hin
          clear hnone hlt2 hin
          go_wp2_with fail
          go_ret2
          refine .inr ⟨?_, rfl, HFd.out.trans HF.out (by simp)⟩
          rw [Hget.out, HD.out, Hnone.out]
      · have hdone : decScale bs false D1 = some (false, f) := by
          rcases Hf.out with h0 | ⟨_, h0, _⟩
          · rw [h0]; exact decScale_same (by rw [← h0]; exact hlt2)
          · exact h0
        have eg : decide ((f.r : Int) < 16777216) = false := by simp; omega
        have Hdone := Lib.hid hdone
        have hP := HR2.out.fr HF.out (by simp)
        have HP := Lib.hid hP
        have hz5 : (Try.prog.info? 93).map (·.size) = some (#[Value.slice A n cc, .int .i64 (f.i : Int), .int .i64 (f.rest : Int), .int .i64 (f.r : Int)] : Array Value).size := Hz.out
        have Hz5 := Lib.hid hz5
        clear hdone hlt2 hP hz5
        go_upto_region 20 with fail
        have m0 := HP.out.cell 0
        have m1 := HP.out.cell 1
        have m2 := HP.out.cell 2
        have m3 := HP.out.cell 3
        have n0 := HP.out.frozen 0
        have n1 := HP.out.frozen 1
        have n2 := HP.out.frozen 2
        have n3 := HP.out.frozen 3
        simp at m0 m1 m2 m3
        clear g1 g2 g3
        go_wp2_with fail
        go_ret2
        have hfr : Fr [p] wr ((((wr.setCell ⟨p, 0, none⟩ (.slice A n cc)).setCell ⟨p, 1, none⟩ (.int .i64 (f.i : Int))).setCell ⟨p, 2, none⟩ (.int .i64 (f.rest : Int))).setCell ⟨p, 3, none⟩ (.int .i64 (f.r : Int))) :=
          ((((Fr.refl [p] wr).setCell (.inl (by simp)) _).setCell (.inl (by simp)) _).setCell (.inl (by simp)) _).setCell (.inl (by simp)) _
        refine .inl ⟨false, f, by rw [Hget.out, HD.out, Hdone.out], rfl, ⟨?_, ?_, H2.out.2.2⟩, ((HFd.out.trans HF.out (by simp)).mono (S' := [p]) (by simp)).trans hfr (fun x hx => .inl hx)⟩
        · rw [← Hn.out]
          have := (((HP.out.set_ 0 (.slice A n cc)).set_ 1 (.int .i64 (f.i : Int))).set_ 2 (.int .i64 (f.rest : Int))).set_ 3 (.int .i64 (f.r : Int))
          simpa using this
        · refine (H2.out.2.1.fr0 HF.out).fr hfr ?_
          intro k hk hm
          simp at hm
          subst hm
          cases A with
          | none => simp [Value.ownBlock] at hk
          | some ad => exact H2.out.2.2 ad rfl (by simpa [Value.ownBlock] using hk)
  · have eb : decide (r < B) = false := by simp [hb]
    obtain ⟨D1, hD1⟩ : ∃ D1 : Dec, D1 = ⟨i, r - B, k - B⟩ := ⟨_, rfl⟩
    have HrD : Hid (D1.rest < D1.r) := Lib.hid (by rw [hD1]; simp only; omega)
    have Hr1 : Hid (253952 ≤ D1.r) := Lib.hid (by rw [hD1]; simp only; omega)
    rw [if_neg hb, ← hD1] at HD
    obtain ⟨R1, hR1⟩ : ∃ R1, R1 = r - B := ⟨_, rfl⟩
    obtain ⟨K1, hK1⟩ : ∃ K1, K1 = k - B := ⟨_, rfl⟩
    have eR : (r : Int) - (B : Int) = (R1 : Int) := by omega
    have eK : (k : Int) - (B : Int) = (K1 : Int) := by omega
    have hB4 : Blk ((w3.setCell ⟨q, 2, none⟩ (.int .i64 (R1 : Int))).setCell ⟨q, 3, none⟩ (.int .i64 (K1 : Int))) q 93 #[.slice A n cc, .int .i64 (D1.i : Int), .int .i64 (D1.rest : Int), .int .i64 (D1.r : Int)] := by
      rw [hD1, hR1, hK1]
      have := (HB3.out.set_ 2 (.int .i64 ((r - B : Nat) : Int))).set_ 3 (.int .i64 ((k - B : Nat) : Int))
      simpa using this
    have hqw : w2.heap.size ≤ q := by rw [← Hq.out]; exact Nat.le_refl _
    have hF4 : Fr [] w2 ((w3.setCell ⟨q, 2, none⟩ (.int .i64 (R1 : Int))).setCell ⟨q, 3, none⟩ (.int .i64 (K1 : Int))) := (HF3.out.setCell (.inr hqw) _).setCell (.inr hqw) _
    have k7 := (HB3.out.set_ 2 (.int .i64 (R1 : Int))).cell 3
    have k8 := (HB3.out.set_ 2 (.int .i64 (R1 : Int))).frozen 3
    simp at k7
    have HB4' := Lib.hid hB4
    have HF4' := Lib.hid hF4
    have HD1 := Lib.hid hD1
    clear hB4 hF4 hD1 hb hR1 hK1 hqw
    go_wp2_with fail
    have HB4 := HB4'
    have HF4 := HF4'
    go_loopw [49] (fun _ wr => ∃ f : Dec, (f = D1 ∨ (D1.r < 16777216 ∧ decScale bs true D1 = some (true, f) ∧ 16777216 ≤ f.r)) ∧ Fr [] w2 wr ∧ Blk wr q 93 #[.slice A n cc, .int .i64 (f.i : Int), .int .i64 (f.rest : Int), .int .i64 (f.r : Int)]) (fun _ wr => 4294967296 - (intOf ((wr.cell? ⟨q, 3, none⟩).getD undef)).toNat)
    case atStart => exact ⟨D1, .inl rfl, HF4.out, HB4.out⟩
    case round =>
      obtain ⟨f, hf, hF, hB⟩ := hrel
      have Hf := Lib.hid hf
      have HF := Lib.hid hF
      have d0 := hB.cell 0
      have d1 := hB.cell 1
      have d2 := hB.cell 2
      have d3 := hB.cell 3
      have g1 := hB.frozen 1
      have g2 := hB.frozen 2
      have g3 := hB.frozen 3
      have hlq := hB.lt
      simp at d0 d1 d2 d3
      have HBr := Lib.hid hB
      clear hf hF hB
      by_cases hlt2 : f.r < 16777216
      · have hfe : f = D1 := by
          rcases Hf.out with h0 | ⟨_, _, h0⟩
          · exact h0
          · omega
        have eg : decide ((f.r : Int) < 16777216) = true := by simp; omega
        have Hfe := Lib.hid hfe
        clear hfe
        by_cases hin : f.i < n
        · have ei : decide (n ≤ f.i) = false := by simp; omega
          have hrest : f.rest < 16777216 := by rw [Hfe.out] at hlt2 ⊢; have := HrD.out; omega
          obtain ⟨x, hx⟩ : ∃ x, bs[f.i]? = some x := ⟨_, List.getElem?_eq_getElem (by have := Hn.out; omega)⟩
          have hmore : decScale bs true D1 = some (true, ⟨f.i + 1, 256 * f.rest + x.toNat, f.r * 256⟩) := by
            rw [← Hfe.out, decScale_more hlt2 (by rw [← Hn.out]; exact hin), List.getD_eq_getElem?_getD, hx]; rfl
          have hfi : f.i ≤ 1000000 := by rw [Hfe.out, HD1.out]; exact hi
          have hf1 : 253952 ≤ f.r := by rw [Hfe.out]; exact Hr1.out
          obtain ⟨I, R, G⟩ := f
          simp only at *
          have hcell : ∀ W, Fr [] w2 W → ∃ ad, A = some ad ∧ W.cell? (ad.add I) = some (.int .u8 (x.toNat : Int)) := by
            intro W hF
            have hS := H2.out.2.1.fr0 hF
            rw [← Hn.out] at hS
            obtain ⟨ad, r1, c1⟩ := hS.cellAt hx
            exact ⟨ad, r1, c1⟩
          obtain ⟨ad, rfl, -⟩ := hcell wr HF.out
          have hcells : ∀ W, Fr [] w2 W → W.cell? (ad.add I) = some (.int .u8 (x.toNat : Int)) := by
            intro W hF
            obtain ⟨a1, r1, c1⟩ := hcell W hF
            have r2 := Option.some.inj r1
            rw [r2]
            exact c1
          have hxl := x.toNat_lt
          obtain ⟨M, hM⟩ : ∃ M, M = G * 256 := ⟨_, rfl⟩
          have eM : 256 * (G : Int) = (M : Int) := by omega
          obtain ⟨U, hU⟩ : ∃ U, U = 256 * R + x.toNat := ⟨_, rfl⟩
          have eU : 256 * (R : Int) + (x.toNat : Int) = (U : Int) := by omega
          have v1 : IntKind.i64.wrap (256 * (R : Int)) = 256 * (R : Int) := IntWalk.i64_in _ (by omega)
          have v2 : IntKind.i64.wrap (U : Int) = (U : Int) := IntWalk.i64_in _ (by omega)
          have v3 : IntKind.i64.wrap (x.toNat : Int) = (x.toNat : Int) := IntWalk.i64_in _ (by omega)
          have v4 : IntKind.i64.wrap (M : Int) = (M : Int) := IntWalk.i64_in _ (by omega)
          rw [← hM, ← hU] at hmore
          have hqn : w2.heap.size ≤ q := by rw [Hq.out]; exact Nat.le_refl _
          have b5 : Blk (wr.setCell ⟨q, 3, none⟩ (.int .i64 (M : Int))) q 93 #[.slice (some ad) n cc, .int .i64 (I : Int), .int .i64 (R : Int), .int .i64 (M : Int)] := by
            have := HBr.out.set_ 3 (.int .i64 (M : Int)); simpa using this
          have f5 : Fr [] w2 (wr.setCell ⟨q, 3, none⟩ (.int .i64 (M : Int))) := HF.out.setCell (.inr hqn) _
          generalize hw5 : wr.setCell ⟨q, 3, none⟩ (.int .i64 (M : Int)) = w5 at b5 f5
          have Hw5 := Lib.hid hw5
          have Hmore := Lib.hid hmore
          have HM := Lib.hid hM
          have Hlt2 := Lib.hid hlt2
          have B5 := Lib.hid b5
          have F5 := Lib.hid f5
          have Hcells := Lib.hid hcells
          have Hd3 := Lib.hid d3
          clear hw5 hmore hM hlt2 hU hx hcell hcells b5 f5
          go_upto_region 18 with fail
          rw [Hw5.out]
          clear d0 d1 d2 d3 g1 g2 g3 hlq eg
          have d0 := B5.out.drew.cell 0
          have d1 := B5.out.drew.cell 1
          have d2 := B5.out.drew.cell 2
          have g2 := B5.out.drew.frozen 2
          simp at d0 d1 d2
          have dx := Hcells.out _ F5.out.drew
          have b6 : Blk (w5.drew.setCell ⟨q, 2, none⟩ (.int .i64 (U : Int))) q 93 #[.slice (some ad) n cc, .int .i64 (I : Int), .int .i64 (U : Int), .int .i64 (M : Int)] := by
            have := B5.out.drew.set_ 2 (.int .i64 (U : Int)); simpa using this
          have f6 : Fr [] w2 (w5.drew.setCell ⟨q, 2, none⟩ (.int .i64 (U : Int))) := F5.out.drew.setCell (.inr hqn) _
          have p0 := b6.cell 0
          have p1 := b6.cell 1
          simp at p0 p1
          have px := Hcells.out _ f6
          have B6 := Lib.hid b6
          have F6 := Lib.hid f6
          clear b6 f6
          refine wp_region_held_drew (S := fun W => W.cell? ⟨q, 0, none⟩ = some (.slice (some ad) n cc) ∧ W.cell? ⟨q, 1, none⟩ = some (.int .i64 (I : Int)) ∧ W.cell? (ad.add I) = some (.int .u8 (x.toNat : Int))) (by kernel_rfl) ?_ (fun hHeld => ?_)
          · (repeat' (first | trivial | assumption | refine ⟨?_, ?_⟩))
          refine wpAnyH_pick 0 (v := ?_) rfl (by kernel_rfl) (by kernel_rfl) (by kernel_rfl) (fun _ _ _ h => h) (by assumption) (by rfl) ?_ ?_
          rotate_left
          · (intro w hSw; (try dsimp only at hSw); go_simp) <;> (with_reducible rfl)
          (try simp only [Act.put, List.setIfInBounds_toArray, List.set_cons_zero, List.set_cons_succ])
          refine wpAnyH_pick 3 (v := ?_) rfl (by kernel_rfl) (by kernel_rfl) (by kernel_rfl) (fun _ _ _ h => h) (by assumption) (by rfl) ?_ ?_
          rotate_left
          · (intro w hSw; (try dsimp only at hSw); go_simp) <;> (with_reducible rfl)
          (try simp only [Act.put, List.setIfInBounds_toArray, List.set_cons_zero, List.set_cons_succ])
          refine wpAnyH_pick 4 (v := ?_) rfl (by kernel_rfl) (by kernel_rfl) (by kernel_rfl) (fun _ _ _ h => h) (by assumption) (by rfl) ?_ ?_
          rotate_left
          · (intro w hSw; (try dsimp only at hSw); go_simp) <;> (with_reducible rfl)
          (try simp only [Act.put, List.setIfInBounds_toArray, List.set_cons_zero, List.set_cons_succ])
          refine wpAnyH_pick 5 (v := ?_) rfl (by kernel_rfl) (by kernel_rfl) (by kernel_rfl) (fun _ _ _ h => h) (by assumption) (by rfl) ?_ ?_
          rotate_left
          · (intro w hSw; (try dsimp only at hSw); go_simp) <;> (with_reducible rfl)
          (try simp only [Act.put, List.setIfInBounds_toArray, List.set_cons_zero, List.set_cons_succ])
          refine wpAnyH_pick 6 (v := ?_) rfl (by kernel_rfl) (by kernel_rfl) (by kernel_rfl) (fun _ _ _ h => h) (by assumption) (by rfl) ?_ ?_
          rotate_left
          · (intro w hSw; (try dsimp only at hSw); go_simp) <;> (with_reducible rfl)
          (try simp only [Act.put, List.setIfInBounds_toArray, List.set_cons_zero, List.set_cons_succ])
          refine wpAnyH_pick 7 (v := ?_) rfl (by kernel_rfl) (by kernel_rfl) (by kernel_rfl) (fun _ _ _ h => h) (by assumption) (by rfl) ?_ ?_
          rotate_left
          · (intro w hSw; (try dsimp only at hSw); go_simp) <;> (with_reducible rfl)
          (try simp only [Act.put, List.setIfInBounds_toArray, List.set_cons_zero, List.set_cons_succ])
          refine wpAnyH_pick 8 (v := ?_) rfl (by kernel_rfl) (by kernel_rfl) (by kernel_rfl) (fun _ _ _ h => h) (by assumption) (by rfl) ?_ ?_
          rotate_left
          · (intro w hSw; (try dsimp only at hSw); go_simp) <;> (with_reducible rfl)
          (try simp only [Act.put, List.setIfInBounds_toArray, List.set_cons_zero, List.set_cons_succ])
          refine wpAnyH_pick 9 (v := ?_) rfl (by kernel_rfl) (by kernel_rfl) (by kernel_rfl) (fun _ _ _ h => h) (by assumption) (by rfl) ?_ ?_
          rotate_left
          · (intro w hSw; (try dsimp only at hSw); go_simp) <;> (with_reducible rfl)
          (try simp only [Act.put, List.setIfInBounds_toArray, List.set_cons_zero, List.set_cons_succ])
          refine wpAnyH_ready (rs := [1]) (by kernel_rfl) (by simp) ?_
          refine AllReadyH_pick rfl (fun K hK => ?_) (AllReadyH.nil)
          skip
          go_simp
          refine hK.out _ _ ?_ (fun hHeld => ?_)
          · (repeat' (first | trivial | assumption | refine ⟨?_, ?_⟩))
          clear hK K
          (try simp only [Act.put, List.setIfInBounds_toArray, List.set_cons_zero, List.set_cons_succ])
          refine wpAnyH_pick 2 (v := ?_) rfl (by kernel_rfl) (by kernel_rfl) (by kernel_rfl) (fun _ _ _ h => h) (by assumption) (by rfl) ?_ ?_
          rotate_left
          · (intro w hSw; (try dsimp only at hSw); go_simp) <;> (with_reducible rfl)
          (try simp only [Act.put, List.setIfInBounds_toArray, List.set_cons_zero, List.set_cons_succ])
          refine wpAnyH_pick 10 (v := ?_) rfl (by kernel_rfl) (by kernel_rfl) (by kernel_rfl) (fun _ _ _ h => h) (by assumption) (by rfl) ?_ ?_
          rotate_left
          · (intro w hSw; (try dsimp only at hSw); go_simp) <;> (with_reducible rfl)
          (try simp only [Act.put, List.setIfInBounds_toArray, List.set_cons_zero, List.set_cons_succ])
          refine wpAnyH_pick 11 (v := ?_) rfl (by kernel_rfl) (by kernel_rfl) (by kernel_rfl) (fun _ _ _ h => h) (by assumption) (by rfl) ?_ ?_
          rotate_left
          · (intro w hSw; (try dsimp only at hSw); go_simp) <;> (with_reducible rfl)
          (try simp only [Act.put, List.setIfInBounds_toArray, List.set_cons_zero, List.set_cons_succ])
          refine wpAnyH_ready (rs := [12]) (by kernel_rfl) (by simp) ?_
          refine AllReadyH_pick rfl (fun K hK => ?_) (AllReadyH.nil)
          skip
          go_simp
          refine hK.out _ _ ?_ (fun hHeld => ?_)
          · (repeat' (first | trivial | assumption | refine ⟨?_, ?_⟩))
          clear hK K
          (try simp only [Act.put, List.setIfInBounds_toArray, List.set_cons_zero, List.set_cons_succ])
          refine wpAnyH_done (by kernel_rfl) ?_ _
          skip
          have b7 : Blk (w5.setCell ⟨q, 2, none⟩ (.int .i64 (U : Int))).drew q 93 #[.slice (some ad) n cc, .int .i64 (I : Int), .int .i64 (U : Int), .int .i64 (M : Int)] := B6.out
          have f7 : Fr [] w2 (w5.setCell ⟨q, 2, none⟩ (.int .i64 (U : Int))).drew := F6.out
          generalize (w5.setCell ⟨q, 2, none⟩ (.int .i64 (U : Int))).drew = w7 at b7 f7 ⊢
          clear hHeld d0 d1 d2 g2 dx p0 p1 px B6 F6
          have d1 := b7.cell 1
          have g1 := b7.frozen 1
          have hlq := b7.lt
          simp at d1
          have b8 : Blk (w7.setCell ⟨q, 1, none⟩ (.int .i64 ((I + 1 : Nat) : Int))) q 93 #[.slice (some ad) n cc, .int .i64 ((I + 1 : Nat) : Int), .int .i64 (U : Int), .int .i64 (M : Int)] := by
            have := b7.set_ 1 (.int .i64 ((I + 1 : Nat) : Int)); simpa using this
          have f8 : Fr [] w2 (w7.setCell ⟨q, 1, none⟩ (.int .i64 ((I + 1 : Nat) : Int))) := f7.setCell (.inr hqn) _
          have B8 := Lib.hid b8
          have F8 := Lib.hid f8
          clear b7 f7 b8 f8
          go_wp2_with fail
          have hm3 : (w7.setCell ⟨q, 1, none⟩ (.int .i64 ((I : Int) + 1))).cell? ⟨q, 3, none⟩ = some (.int .i64 (M : Int)) := by
            have := B8.out.cell 3
            simpa using this
          have hMG : G < M ∧ 16777216 ≤ M ∧ M ≤ 4294967295 := by have := HM.out; have := Hlt2.out; omega
          refine ⟨⟨⟨I + 1, U, M⟩, .inr ⟨by rw [← Hfe.out]; exact Hlt2.out, Hmore.out, hMG.2.1⟩, F8.out, B8.out⟩, ?_⟩
          rw [hm3, Hd3.out]
          simp only [intOf, Option.getD_some]
          omega
        · have ei : decide ((n : Int) ≤ (f.i : Int)) = true := by simp; omega
          have ei2 : decide (n ≤ f.i) = true := by simp; omega
          have hnone : decScale bs true D1 = none := by rw [← Hfe.out]; exact decScale_none hlt2 (by rw [← Hn.out]; omega)
          have Hnone := Lib.hid hnone
          have Hlt2 := Lib.hid hlt2
          have Hin := Lib.hid hin
          clear hnone hlt2 hin
          go_wp2_with fail
          go_ret2
          refine .inr ⟨?_, rfl, HFd.out.trans HF.out (by simp)⟩
          rw [Hget.out, HD.out, Hnone.out]
      · have hdone : decScale bs true D1 = some (true, f) := by
          rcases Hf.out with h0 | ⟨_, h0, _⟩
          · rw [h0]; exact decScale_same (by rw [← h0]; exact hlt2)
          · exact h0
        have eg : decide ((f.r : Int) < 16777216) = false := by simp; omega
        have Hdone := Lib.hid hdone
        have hP := HR2.out.fr HF.out (by simp)
        have HP := Lib.hid hP
        have hz5 : (Try.prog.info? 93).map (·.size) = some (#[Value.slice A n cc, .int .i64 (f.i : Int), .int .i64 (f.rest : Int), .int .i64 (f.r : Int)] : Array Value).size := Hz.out
        have Hz5 := Lib.hid hz5
        clear hdone hlt2 hP hz5
        go_upto_region 20 with fail
        have m0 := HP.out.cell 0
        have m1 := HP.out.cell 1
        have m2 := HP.out.cell 2
        have m3 := HP.out.cell 3
        have n0 := HP.out.frozen 0
        have n1 := HP.out.frozen 1
        have n2 := HP.out.frozen 2
        have n3 := HP.out.frozen 3
        simp at m0 m1 m2 m3
        clear g1 g2 g3
        go_wp2_with fail
        go_ret2
        have hfr : Fr [p] wr ((((wr.setCell ⟨p, 0, none⟩ (.slice A n cc)).setCell ⟨p, 1, none⟩ (.int .i64 (f.i : Int))).setCell ⟨p, 2, none⟩ (.int .i64 (f.rest : Int))).setCell ⟨p, 3, none⟩ (.int .i64 (f.r : Int))) :=
          ((((Fr.refl [p] wr).setCell (.inl (by simp)) _).setCell (.inl (by simp)) _).setCell (.inl (by simp)) _).setCell (.inl (by simp)) _
        refine .inl ⟨true, f, by rw [Hget.out, HD.out, Hdone.out], rfl, ⟨?_, ?_, H2.out.2.2⟩, ((HFd.out.trans HF.out (by simp)).mono (S' := [p]) (by simp)).trans hfr (fun x hx => .inl hx)⟩
        · rw [← Hn.out]
          have := (((HP.out.set_ 0 (.slice A n cc)).set_ 1 (.int .i64 (f.i : Int))).set_ 2 (.int .i64 (f.rest : Int))).set_ 3 (.int .i64 (f.r : Int))
          simpa using this
        · refine (H2.out.2.1.fr0 HF.out).fr hfr ?_
          intro k hk hm
          simp at hm
          subst hm
          cases A with
          | none => simp [Value.ownBlock] at hk
          | some ad => exact H2.out.2.2 ad rfl (by simpa [Value.ownBlock] using hk)
end Go.Proofs.Ytendcmdpmohacaa

/-
  The program's decoder: split, take, Open, End; conditions: the numbers are bounded as named.
-/
namespace Go.Proofs.Ytendcmdpmohacaa
open Go.RowKit

theorem split_any (q : Nat) (v : Value) (rest r B : Nat) (w : World) (h : Blk w q 91 #[v, .int .u32 (rest : Int), .int .u32 (r : Int)]) (hB : B ≤ r) (hr : r ≤ 4294967295) (hrest : rest < 4294967296) :
    Calls Try.prog 96 #[pt q, .int .u32 (B : Int)] w fun e w' => Fr [q] w w' ∧
      ((rest < B ∧ e = .returned (.int .i64 0) ∧ Blk w' q 91 #[v, .int .u32 (rest : Int), .int .u32 (B : Int)]) ∨
      (B ≤ rest ∧ e = .returned (.int .i64 1) ∧ Blk w' q 91 #[v, .int .u32 ((rest - B : Nat) : Int), .int .u32 ((r - B : Nat) : Int)])) := by
  have c1 := h.cell 1
  have c2 := h.cell 2
  have f1 := h.frozen 1
  have f2 := h.frozen 2
  have hl := h.lt
  simp at c1 c2
  have H := Lib.hid h
  clear h
  by_cases hb : rest < B
  · have eb : decide (rest < B) = true := by simp [hb]
    have hB2 := H.out.set_ 2 (.int .u32 (B : Int))
    have HB2 := Lib.hid hB2
    have Hb := Lib.hid hb
    clear hB2 hb
    go_enter Try.func96, Try.ntmps96
    go_wp2_with fail
    go_ret
    exact ⟨(Fr.refl _ _).setCell (.inl (by simp)) _, .inl ⟨Hb.out, rfl, by simpa using HB2.out⟩⟩
  · have eb : decide (rest < B) = false := by simp; omega
    obtain ⟨R1, hR1⟩ : ∃ R1, R1 = rest - B := ⟨_, rfl⟩
    obtain ⟨K1, hK1⟩ : ∃ K1, K1 = r - B := ⟨_, rfl⟩
    rw [← hR1, ← hK1]
    have eR : (rest : Int) - (B : Int) = (R1 : Int) := by omega
    have eK : (r : Int) - (B : Int) = (K1 : Int) := by omega
    have h3 := H.out.set_ 1 (.int .u32 (R1 : Int))
    have k2 := h3.cell 2
    have kf := h3.frozen 2
    simp at k2
    have h4 := h3.set_ 2 (.int .u32 (K1 : Int))
    have H4 := Lib.hid h4
    have Hb := Lib.hid hb
    have lR : R1 ≤ 4294967295 := by omega
    have lK : K1 ≤ 4294967295 := by omega
    clear h3 h4 hb hR1 hK1
    go_enter Try.func96, Try.ntmps96
    go_wp2_with fail
    go_ret
    exact ⟨((Fr.refl _ _).setCell (.inl (by simp)) _).setCell (.inl (by simp)) _, .inr ⟨by have := Hb.out; omega, rfl, by simpa using H4.out⟩⟩

theorem take_none (q : Nat) (v : Value) (rest r : Nat) (w : World) (h : Blk w q 91 #[v, .int .u32 (rest : Int), .int .u32 (r : Int)]) (hs : Src w v []) :
    Calls Try.prog 97 #[pt q] w fun e w' => e = .returned (.bool false) ∧ w' = w := by
  obtain ⟨A, c, rfl⟩ : ∃ A c, v = .slice A 0 c := by
    rcases hs with ⟨rfl, -⟩ | ⟨ad, c, rfl, -⟩
    · exact ⟨_, _, rfl⟩
    · exact ⟨_, _, rfl⟩
  have c0 := h.cell 0
  have hl := h.lt
  simp at c0
  clear h hs
  go_enter Try.func97, Try.ntmps97
  go_wp2_with fail
  go_ret
  exact ⟨rfl, rfl⟩

theorem or_256 (R : Nat) (x : UInt8) (h : R < 16777216) : bits .or .u32 ((R * 256 : Nat) : Int) (x.toNat : Int) = ((256 * R + x.toNat : Nat) : Int) := by
  have hx := x.toNat_lt
  rw [u32_or_nat _ _ (by omega) (by omega)]
  congr 1
  have := Nat.two_pow_add_eq_or_of_lt (i := 8) (b := x.toNat) (by omega) R
  rw [Nat.mul_comm R 256]
  exact this.symm

set_option maxRecDepth 20000 in
theorem take_one (q : Nat) (v : Value) (rest r : Nat) (x : UInt8) (ys : List UInt8) (w : World) (h : Blk w q 91 #[v, .int .u32 (rest : Int), .int .u32 (r : Int)]) (hs : Src w v ((x :: ys).map B8)) (hn : v.ownBlock ≠ some q) (hr : r < 16777216) (hrest : rest < r) :
    Calls Try.prog 97 #[pt q] w fun e w' => e = .returned (.bool true) ∧ ∃ v', Blk w' q 91 #[v', .int .u32 ((256 * rest + x.toNat : Nat) : Int), .int .u32 ((r * 256 : Nat) : Int)] ∧ Src w' v' (ys.map B8) ∧ v'.ownBlock = v.ownBlock ∧ Fr [q] w w' := by
  obtain ⟨ad, c, rfl, hc, hcell⟩ : ∃ ad c, v = .slice (some ad) (ys.length + 1) c ∧ ys.length + 1 ≤ c ∧ w.cell? ad = some (.int .u8 (x.toNat : Int)) := by
    rcases hs with ⟨rfl, h0⟩ | ⟨ad, c, rfl, hc, hx⟩
    · cases h0
    · refine ⟨ad, c, by simp, by simpa using hc, ?_⟩
      have := hx 0 (B8 x) rfl
      rw [show ad.add 0 = ad by simp [Addr.add]] at this
      exact this
  have hdrop := hs.drop (k := 1) (by omega)
  obtain ⟨n, hnn⟩ : ∃ n, n = ys.length := ⟨_, rfl⟩
  rw [← hnn] at h hc hdrop hs
  have c0 := h.cell 0
  have c1 := h.cell 1
  have c2 := h.cell 2
  have f2 := h.frozen 2
  have hl := h.lt
  simp at c0 c1 c2
  obtain ⟨M, hM⟩ : ∃ M, M = r * 256 := ⟨_, rfl⟩
  have eM : (r : Int) * 256 = (M : Int) := by omega
  have eM2 : (M : Int) % 4294967296 = (M : Int) := by omega
  obtain ⟨T, hT⟩ : ∃ T, T = rest * 256 := ⟨_, rfl⟩
  have eT : (rest : Int) * 256 = (T : Int) := by omega
  have eT2 : (T : Int) % 4294967296 = (T : Int) := by omega
  have eT3 : IntKind.wrap .u32 (T : Int) = (T : Int) := IntWalk.u32_in _ (by omega)
  obtain ⟨U, hU⟩ : ∃ U, U = 256 * rest + x.toNat := ⟨_, rfl⟩
  have eU := or_256 rest x (by omega)
  rw [← hT, ← hU] at eU
  have hxl := x.toNat_lt
  have ex : IntKind.wrap .u32 (x.toNat : Int) = (x.toNat : Int) := IntWalk.u32_in _ (by omega)
  have hlx := World.block_lt_of_cell? w _ hcell
  have e9 : (((n : Int) + 1) == 0) = false := by simp; omega
  have hne : ad.block ≠ q := by simpa [Value.ownBlock] using hn
  have h3 := h.set_ 2 (.int .u32 (M : Int))
  generalize hw3 : w.setCell ⟨q, 2, none⟩ (.int .u32 (M : Int)) = w3 at h3
  have hF3 : Fr [q] w w3 := by rw [← hw3]; exact (Fr.refl _ _).setCell (.inl (by simp)) _
  have hcell3 : w3.cell? ad = some (.int .u8 (x.toNat : Int)) := by rw [hF3.cell hlx (by simpa using hne)]; exact hcell
  have Hw3 := Lib.hid hw3
  have H := Lib.hid h
  have HS := Lib.hid hs
  have HD := Lib.hid hdrop
  have H3 := Lib.hid h3
  have HF3 := Lib.hid hF3
  have HM := Lib.hid hM
  have HU := Lib.hid hU
  have HT := Lib.hid hT
  have Hnn := Lib.hid hnn
  clear h hs hdrop h3 hF3 hM hU hT hnn hw3
  go_enter Try.func97, Try.ntmps97
  go_upto_region 4 with fail
  rw [Hw3.out]
  clear c0 c1 c2 f2 hl hcell Hw3
  have k0 := H3.out.drew.cell 0
  have k1 := H3.out.drew.cell 1
  have g1 := H3.out.drew.frozen 1
  have hl3 := H3.out.drew.lt
  have kx : w3.drew.cell? ad = some (.int .u8 (x.toNat : Int)) := hcell3
  simp at k0 k1
  have h5 := H3.out.drew.set_ 1 (.int .u32 (U : Int))
  have h5' : Blk (w3.drew.setCell ⟨q, 1, none⟩ (.int .u32 (U : Int))) q 91 #[.slice (some ad) (n + 1) c, .int .u32 (U : Int), .int .u32 (M : Int)] := by simpa using h5
  have f5 : Fr [q] w (w3.drew.setCell ⟨q, 1, none⟩ (.int .u32 (U : Int))) := HF3.out.drew.setCell (.inl (by simp)) _
  have p0 := h5'.cell 0
  simp at p0
  have px : (w3.drew.setCell ⟨q, 1, none⟩ (.int .u32 (U : Int))).cell? ad = some (.int .u8 (x.toNat : Int)) := by rw [f5.cell hlx (by simpa using hne)]; rw [← hcell3]; exact (HF3.out.cell hlx (by simpa using hne)).symm
  have H5 := Lib.hid h5'
  have F5 := Lib.hid f5
  clear h5 h5' f5 hcell3
  refine wp_region_held_drew (S := fun W => W.cell? ⟨q, 0, none⟩ = some (.slice (some ad) (n + 1) c) ∧ W.cell? ad = some (.int .u8 (x.toNat : Int))) (by kernel_rfl) ?_ (fun hHeld => ?_)
  · (repeat' (first | trivial | assumption | refine ⟨?_, ?_⟩))
  refine wpAnyH_pick 0 (v := ?_) rfl (by kernel_rfl) (by kernel_rfl) (by kernel_rfl) (fun _ _ _ h => h) (by assumption) (by rfl) ?_ ?_
  rotate_left
  · (intro w hSw; (try dsimp only at hSw); go_simp) <;> (with_reducible rfl)
  (try simp only [Act.put, List.setIfInBounds_toArray, List.set_cons_zero, List.set_cons_succ])
  refine wpAnyH_pick 1 (v := ?_) rfl (by kernel_rfl) (by kernel_rfl) (by kernel_rfl) (fun _ _ _ h => h) (by assumption) (by rfl) ?_ ?_
  rotate_left
  · (intro w hSw; (try dsimp only at hSw); go_simp) <;> (with_reducible rfl)
  (try simp only [Act.put, List.setIfInBounds_toArray, List.set_cons_zero, List.set_cons_succ])
  refine wpAnyH_pick 2 (v := ?_) rfl (by kernel_rfl) (by kernel_rfl) (by kernel_rfl) (fun _ _ _ h => h) (by assumption) (by rfl) ?_ ?_
  rotate_left
  · (intro w hSw; (try dsimp only at hSw); go_simp) <;> (with_reducible rfl)
  (try simp only [Act.put, List.setIfInBounds_toArray, List.set_cons_zero, List.set_cons_succ])
  refine wpAnyH_pick 3 (v := ?_) rfl (by kernel_rfl) (by kernel_rfl) (by kernel_rfl) (fun _ _ _ h => h) (by assumption) (by rfl) ?_ ?_
  rotate_left
  · (intro w hSw; (try dsimp only at hSw); go_simp) <;> (with_reducible rfl)
  (try simp only [Act.put, List.setIfInBounds_toArray, List.set_cons_zero, List.set_cons_succ])
  refine wpAnyH_pick 6 (v := ?_) rfl (by kernel_rfl) (by kernel_rfl) (by kernel_rfl) (fun _ _ _ h => h) (by assumption) (by rfl) ?_ ?_
  rotate_left
  · (intro w hSw; (try dsimp only at hSw); go_simp) <;> (with_reducible rfl)
  (try simp only [Act.put, List.setIfInBounds_toArray, List.set_cons_zero, List.set_cons_succ])
  refine wpAnyH_pick 7 (v := ?_) rfl (by kernel_rfl) (by kernel_rfl) (by kernel_rfl) (fun _ _ _ h => h) (by assumption) (by rfl) ?_ ?_
  rotate_left
  · (intro w hSw; (try dsimp only at hSw); go_simp) <;> (with_reducible rfl)
  (try simp only [Act.put, List.setIfInBounds_toArray, List.set_cons_zero, List.set_cons_succ])
  refine wpAnyH_pick 8 (v := ?_) rfl (by kernel_rfl) (by kernel_rfl) (by kernel_rfl) (fun _ _ _ h => h) (by assumption) (by rfl) ?_ ?_
  rotate_left
  · (intro w hSw; (try dsimp only at hSw); go_simp) <;> (with_reducible rfl)
  (try simp only [Act.put, List.setIfInBounds_toArray, List.set_cons_zero, List.set_cons_succ])
  refine wpAnyH_pick 9 (v := ?_) rfl (by kernel_rfl) (by kernel_rfl) (by kernel_rfl) (fun _ _ _ h => h) (by assumption) (by rfl) ?_ ?_
  rotate_left
  · (intro w hSw; (try dsimp only at hSw); go_simp) <;> (with_reducible rfl)
  (try simp only [Act.put, List.setIfInBounds_toArray, List.set_cons_zero, List.set_cons_succ])
  refine wpAnyH_pick 10 (v := ?_) rfl (by kernel_rfl) (by kernel_rfl) (by kernel_rfl) (fun _ _ _ h => h) (by assumption) (by rfl) ?_ ?_
  rotate_left
  · (intro w hSw; (try dsimp only at hSw); go_simp) <;> (with_reducible rfl)
  (try simp only [Act.put, List.setIfInBounds_toArray, List.set_cons_zero, List.set_cons_succ])
  refine wpAnyH_pick 11 (v := ?_) rfl (by kernel_rfl) (by kernel_rfl) (by kernel_rfl) (fun _ _ _ h => h) (by assumption) (by rfl) ?_ ?_
  rotate_left
  · (intro w hSw; (try dsimp only at hSw); go_simp) <;> (with_reducible rfl)
  (try simp only [Act.put, List.setIfInBounds_toArray, List.set_cons_zero, List.set_cons_succ])
  refine wpAnyH_pick 12 (v := ?_) rfl (by kernel_rfl) (by kernel_rfl) (by kernel_rfl) (fun _ _ _ h => h) (by assumption) (by rfl) ?_ ?_
  rotate_left
  · (intro w hSw; (try dsimp only at hSw); go_simp) <;> (with_reducible rfl)
  (try simp only [Act.put, List.setIfInBounds_toArray, List.set_cons_zero, List.set_cons_succ])
  refine wpAnyH_ready (rs := [4]) (by kernel_rfl) (by simp) ?_
  refine AllReadyH_pick rfl (fun K hK => ?_) (AllReadyH.nil)
  skip
  go_simp
  refine hK.out _ _ ?_ (fun hHeld => ?_)
  · (repeat' (first | trivial | assumption | refine ⟨?_, ?_⟩))
  clear hK K
  (try simp only [Act.put, List.setIfInBounds_toArray, List.set_cons_zero, List.set_cons_succ])
  refine wpAnyH_pick 5 (v := ?_) rfl (by kernel_rfl) (by kernel_rfl) (by kernel_rfl) (fun _ _ _ h => h) (by assumption) (by rfl) ?_ ?_
  rotate_left
  · (intro w hSw; (try dsimp only at hSw); go_simp) <;> (with_reducible rfl)
  (try simp only [Act.put, List.setIfInBounds_toArray, List.set_cons_zero, List.set_cons_succ])
  refine wpAnyH_pick 13 (v := ?_) rfl (by kernel_rfl) (by kernel_rfl) (by kernel_rfl) (fun _ _ _ h => h) (by assumption) (by rfl) ?_ ?_
  rotate_left
  · (intro w hSw; (try dsimp only at hSw); go_simp) <;> (with_reducible rfl)
  (try simp only [Act.put, List.setIfInBounds_toArray, List.set_cons_zero, List.set_cons_succ])
  refine wpAnyH_pick 14 (v := ?_) rfl (by kernel_rfl) (by kernel_rfl) (by kernel_rfl) (fun _ _ _ h => h) (by assumption) (by rfl) ?_ ?_
  rotate_left
  · (intro w hSw; (try dsimp only at hSw); go_simp) <;> (with_reducible rfl)
  (try simp only [Act.put, List.setIfInBounds_toArray, List.set_cons_zero, List.set_cons_succ])
  refine wpAnyH_pick 15 (v := ?_) rfl (by kernel_rfl) (by kernel_rfl) (by kernel_rfl) (fun _ _ _ h => h) (by assumption) (by rfl) ?_ ?_
  rotate_left
  · (intro w hSw; (try dsimp only at hSw); go_simp) <;> (with_reducible rfl)
  (try simp only [Act.put, List.setIfInBounds_toArray, List.set_cons_zero, List.set_cons_succ])
  refine wpAnyH_ready (rs := [16]) (by kernel_rfl) (by simp) ?_
  refine AllReadyH_pick rfl (fun K hK => ?_) (AllReadyH.nil)
  skip
  go_simp
  refine hK.out _ _ ?_ (fun hHeld => ?_)
  · (repeat' (first | trivial | assumption | refine ⟨?_, ?_⟩))
  clear hK K
  (try simp only [Act.put, List.setIfInBounds_toArray, List.set_cons_zero, List.set_cons_succ])
  refine wpAnyH_done (by kernel_rfl) ?_ _
  skip
  have h7 : Blk (w3.setCell ⟨q, 1, none⟩ (.int .u32 (U : Int))).drew q 91 #[.slice (some ad) (n + 1) c, .int .u32 (U : Int), .int .u32 (M : Int)] := H5.out
  have f7 : Fr [q] w (w3.setCell ⟨q, 1, none⟩ (.int .u32 (U : Int))).drew := F5.out
  generalize (w3.setCell ⟨q, 1, none⟩ (.int .u32 (U : Int))).drew = w7 at h7 f7 ⊢
  clear hHeld k0 k1 g1 hl3 kx p0 px H5 F5
  have c0 := h7.cell 0
  have f0 := h7.frozen 0
  have hl7 := h7.lt
  simp at c0
  obtain ⟨A', hA⟩ : ∃ A', A' = (if c = 1 then some ad else Option.map (fun x => x.add 1) (some ad)) := ⟨_, rfl⟩
  have hd : Src w (.slice A' n (c - 1)) (ys.map B8) := by
    have := HD.out
    rw [hA]
    simpa using this
  have hblk : (Value.slice A' n (c - 1)).ownBlock = some ad.block := by
    rw [hA]
    split
    · rfl
    · simp [Value.ownBlock, addr_block]
  have h8 := h7.set_ 0 (.slice A' n (c - 1))
  have H8 := Lib.hid h8
  have F8 := Lib.hid (f7.setCell (p := ⟨q, 0, none⟩) (.inl (by simp)) (.slice A' n (c - 1)))
  have HA := Lib.hid hA
  have Hd := Lib.hid hd
  have Hblk := Lib.hid hblk
  clear h7 f7 h8 hd hblk
  go_upto_region 6 with fail
  rw [show (if c = 1 then some ad else some ⟨ad.block, ad.off + 1, none⟩) = A' by rw [HA.out]; simp [Addr.add]]
  go_wp2_with fail
  go_ret
  refine ⟨rfl, _, ?_, ?_, Hblk.out, F8.out⟩
  · rw [← HU.out, ← HM.out]
    simpa using H8.out
  · refine Hd.out.fr F8.out (fun k hk hm => ?_)
    rw [Hblk.out] at hk
    injection hk with hk
    simp at hm
    omega

/-- The program's decoder: what is behind, the rest, the range. -/
def Pd (w : World) (p : Nat) (v : Value) (bs : List UInt8) (d : Dec) : Prop :=
  Blk w p 91 #[v, .int .u32 (d.rest : Int), .int .u32 (d.r : Int)] ∧ Src w v ((bs.drop d.i).map B8) ∧ v.ownBlock ≠ some p ∧ d.i ≤ bs.length

theorem endNil_any (w : World) : Calls Try.prog 34 #[.pointer none] w fun r w' => r = .returned (.int .i64 1) ∧ Fr [] w w' := by
  go_enter Try.func34, Try.ntmps34
  go_wp2_with fail
  go_ret
  exact ⟨rfl, Fr.refl _ _⟩

theorem getNil_any (w : World) (c : Nat) : Calls Try.prog 87 #[.pointer none, .int .u16 (c : Int)] w fun r w' => r = .returned (.tuple #[.int .i64 0, .int .i64 1]) ∧ Fr [] w w' := by
  go_enter Try.func87, Try.ntmps87
  go_wp2_with fail
  go_ret2
  exact ⟨rfl, Fr.refl _ _⟩

theorem getArg_any (w : World) (p c : Nat) (h : ¬ rightC c) : Calls Try.prog 87 #[pt p, .int .u16 (c : Int)] w fun r w' => r = .returned (.tuple #[.int .i64 0, .int .i64 1]) ∧ Fr [] w w' := by
  have e0 : decide (rightC c) = false := decide_eq_false h
  have HC := Lib.hid (isOne_any c w)
  clear h
  go_enter Try.func87, Try.ntmps87
  go_wp2_with fail
  refine HC.out.mono ?_
  rintro e w' ⟨rfl, rfl⟩
  rw [e0]
  go_wp2_with fail
  go_ret2
  exact ⟨rfl, Fr.refl _ _⟩

theorem end_any (w : World) (p : Nat) (v : Value) (bs : List UInt8) (d : Dec) (h : Pd w p v bs d) :
    Calls Try.prog 34 #[pt p] w fun r w' => r = .returned (.int .i64 (if d.i = bs.length ∧ d.rest = 0 then 0 else 41)) ∧ w' = w := by
  obtain ⟨hB, hS, -, hi⟩ := h
  obtain ⟨A, c, rfl⟩ := hS.slice
  rw [List.length_drop] at *
  obtain ⟨n, hn⟩ : ∃ n, n = bs.length - d.i := ⟨_, rfl⟩
  rw [← hn] at hB
  obtain ⟨R, hR⟩ : ∃ R, R = d.rest := ⟨_, rfl⟩
  rw [← hR] at hB
  have c0 := hB.cell 0
  have c1 := hB.cell 1
  have hl := hB.lt
  simp at c0 c1
  clear hS hB
  by_cases h1 : 0 < n
  · rw [if_neg (by omega)]
    have e1 : decide (0 < n) = true := by simp; omega
    clear hn hR h1
    go_enter Try.func34, Try.ntmps34
    go_wp2_with fail
    go_ret
    exact ⟨rfl, rfl⟩
  · obtain rfl : n = 0 := by omega
    by_cases h2 : R = 0
    · rw [if_pos (by omega)]
      have e2 : ((R : Int) != 0) = false := by simp; omega
      clear hn hR h1 h2
      go_enter Try.func34, Try.ntmps34
      go_wp2_with fail
      go_ret
      exact ⟨rfl, rfl⟩
    · rw [if_neg (by omega)]
      have e2 : ((R : Int) != 0) = true := by simp; omega
      clear hn hR h1 h2
      go_enter Try.func34, Try.ntmps34
      go_wp2_with fail
      go_ret
      exact ⟨rfl, rfl⟩

theorem open_short (w : World) (A : Option Addr) (n c : Nat) (h : n < 4) : Calls Try.prog 28 #[.slice A n c] w fun r w' => r = .returned (.tuple #[.pointer none, .int .i64 41]) ∧ Fr [] w w' := by
  have e1 : decide ((n : Int) < 4) = true := by simp; omega
  clear h
  go_enter Try.func28, Try.ntmps28
  go_wp2_with fail
  go_ret2
  exact ⟨rfl, Fr.refl _ _⟩
end Go.Proofs.Ytendcmdpmohacaa

/-
  The program's decoder: Open; conditions: the lengths are bounded as named.
-/
namespace Go.Proofs.Ytendcmdpmohacaa
open Go.RowKit

set_option maxRecDepth 20000 in
set_option maxHeartbeats 4000000 in
theorem open_any (A : Option Addr) (c : Nat) (bs : List UInt8) (w : World) (hs : Src w (.slice A bs.length c) (bs.map B8)) (hn : 4 ≤ bs.length) (hm : bs.length ≤ 1000000) :
    Calls Try.prog 28 #[.slice A bs.length c] w fun e w' => ∃ p v, e = .returned (.tuple #[pt p, .int .i64 0]) ∧ Pd w' p v bs (decOpen bs) ∧ Fr [] w w' ∧ w.heap.size ≤ p ∧ (∀ k, v.ownBlock = some k → w.heap.size ≤ k) ∧ ∀ k, v.ownBlock = some k → k < w'.heap.size := by
  obtain ⟨n, hnn⟩ : ∃ n, n = bs.length := ⟨_, rfl⟩
  rw [← hnn] at hs hn hm
  have hcap := hs.le
  have e1 : decide ((n : Int) < 4) = false := by simp; omega
  have HS := Lib.hid hs
  have Hnn := Lib.hid hnn
  rw [show (bs.length) = n from hnn.symm]
  clear hs hnn
  go_enter Try.func28, Try.ntmps28
  go_upto_region 5 with fail
  go_loopw [4, 13] (fun s4 s13 wr => ∃ i : Nat, i ≤ 4 ∧ s13 = .int .i64 (i : Int) ∧ s4 = .int .u32 (valueOf (bs.take i) : Int) ∧ wr = w) (fun _ s13 _ => 4 - (intOf s13).toNat)
  case atStart => exact ⟨0, by omega, rfl, rfl, rfl⟩
  case round =>
    obtain ⟨i, hi, rfl, rfl, rfl⟩ := hrel
    by_cases hlt : i < 4
    · have eg : decide ((i : Int) < 4) = true := by simp; omega
      obtain ⟨x, hx⟩ : ∃ x, bs[i]? = some x := ⟨_, List.getElem?_eq_getElem (by have := Hnn.out; omega)⟩
      obtain ⟨ad, rfl, hcell0⟩ := HS.out.cellAt hx
      have hcell : wr.cell? (ad.add i) = some (.int .u8 (x.toNat : Int)) := hcell0
      clear hcell0
      obtain ⟨V, hV⟩ : ∃ V, V = valueOf (bs.take i) := ⟨_, rfl⟩
      have hVl : V < 16777216 := by
        have h1 := valueOf_lt (bs.take i)
        have h2 : (bs.take i).length ≤ 3 := by simp; omega
        have h3 : 256 ^ (bs.take i).length ≤ 256 ^ 3 := Nat.pow_le_pow_right (by omega) h2
        rw [← hV] at h1
        omega
      rw [← hV]
      have hxl := x.toNat_lt
      obtain ⟨T, hT⟩ : ∃ T, T = V * 256 := ⟨_, rfl⟩
      have eT : (V : Int) * 256 = (T : Int) := by omega
      have eT2 : (T : Int) % 4294967296 = (T : Int) := by omega
      have eT3 : IntKind.wrap .u32 (T : Int) = (T : Int) := IntWalk.u32_in _ (by omega)
      obtain ⟨U, hU⟩ : ∃ U, U = 256 * V + x.toNat := ⟨_, rfl⟩
      have eU := or_256 V x (by omega)
      rw [← hT, ← hU] at eU
      have ex : IntKind.wrap .u32 (x.toNat : Int) = (x.toNat : Int) := IntWalk.u32_in _ (by omega)
      have hval : valueOf (bs.take (i + 1)) = U := by
        rw [take_value bs i (by have := Hnn.out; omega), ← hV, hU, List.getD_eq_getElem?_getD, hx]; rfl
      have Hval := Lib.hid hval
      have HV := Lib.hid hV
      have Hx := Lib.hid hx
      clear hval hV hx hT hU
      go_wp2_with fail
      exact ⟨⟨i + 1, by omega, by simp, by rw [Hval.out], trivial⟩, by simp [intOf]; omega⟩
    · have hi4 : i = 4 := by omega
      have eg : decide ((i : Int) < 4) = false := by simp; omega
      rw [show valueOf (bs.take i) = valueOf (bs.take 4) by rw [hi4]]
      obtain ⟨V, hV⟩ : ∃ V, V = valueOf (bs.take 4) := ⟨_, rfl⟩
      rw [← hV]
      have hdrop := HS.out.drop (k := 4) hn
      obtain ⟨m, hmm⟩ : ∃ m, m = n - 4 := ⟨_, rfl⟩
      have em : n - 4 = m := hmm.symm
      obtain ⟨ad, rA, -⟩ := HS.out.cellAt (k := 0) (List.getElem?_eq_getElem (by have := Hnn.out; omega))
      subst rA
      rw [em, ← List.map_drop] at hdrop
      have hlen : (bs.drop 4).length = m := by simp; have := Hnn.out; omega
      have HV := Lib.hid hV
      have Hlen := Lib.hid hlen
      clear hV hlen hmm hi hi4 hlt
      by_cases hc4 : c = 4
      case' pos =>
        rw [if_pos hc4] at hdrop
        have HCl := Lib.hid (clone_any _ _ wr hdrop (by have := Hlen.out; omega) (by simp [Value.ownBlock]))
        rw [show c - 4 = 0 by omega] at HCl
        clear hdrop
        go_wp2_with fail
        refine HCl.out.mono ?_
      case' neg =>
        rw [if_neg hc4] at hdrop
        have hCl := clone_any _ _ wr hdrop (by have := Hlen.out; omega) (by simp [Value.ownBlock])
        have e4 : Option.map (fun x => x.add 4) (some ad) = some ⟨ad.block, ad.off + 4, none⟩ := by simp [Addr.add]
        rw [e4] at hCl
        have HCl := Lib.hid hCl
        clear hdrop hCl e4
        go_wp2_with fail
        refine HCl.out.mono ?_
      all_goals
        rintro e w1 ⟨u, rfl, hM, hnn⟩
        have HM := Lib.hid hM
        obtain ⟨g, cu, hu⟩ := hM.slice
        rw [Hlen.out] at hu
        clear hM
        subst hu
        clear HCl hc4
        go_wp2_with fail
        go_ret2
        generalize hw2 : w1.alloc _ = w2
        refine ⟨w1.heap.size, .slice g m cu, rfl, ⟨?_, ?_, ?_, ?_⟩, ?_, ?_, ?_, ?_⟩
        · rw [← hw2]
          have := Blk.new w1 91 #[.slice g m cu, .int .u32 (V : Int), .int .u32 4294967295]
          rw [HV.out] at this ⊢
          exact this
        · rw [← hw2]
          exact HM.out.src.fr0 ((Fr.refl _ _).alloc _)
        · intro h
          have := HM.out.own.lt _ h
          omega
        · show 4 ≤ bs.length
          have := Hnn.out
          omega
        · rw [← hw2]
          exact HM.out.fr.alloc _
        · exact HM.out.fr.size
        · exact HM.out.new
        · intro k hk
          have := HM.out.own.lt k hk
          rw [← hw2]
          simp
          omega
end Go.Proofs.Ytendcmdpmohacaa

/-
  The program's decoder: Get; conditions: the range and the place are bounded as named.
-/
namespace Go.Proofs.Ytendcmdpmohacaa
open Go.RowKit

/-- The rest is too great. -/
theorem pget_great (p : Nat) (v : Value) (bs : List UInt8) (d : Dec) (c : Nat) (w : World) (h : Pd w p v bs d) (hc : rightC c) (hr : d.r ≤ d.rest) :
    Calls Try.prog 87 #[pt p, .int .u16 (c : Int)] w fun e w' => e = .returned (.tuple #[.int .i64 0, .int .i64 41]) ∧ Fr [] w w' := by
  have e0 : decide (rightC c) = true := decide_eq_true hc
  have HC := Lib.hid (isOne_any c w)
  have c1 := h.1.cell 1
  have c2 := h.1.cell 2
  have hlt := h.1.lt
  simp at c1 c2
  obtain ⟨i, r, k⟩ := d
  simp only at *
  have e1 : decide (k ≤ r) = true := by simp [hr]
  clear h hc hr
  go_enter Try.func87, Try.ntmps87
  go_wp2_with fail
  refine HC.out.mono ?_
  rintro e w' ⟨rfl, rfl⟩
  rw [e0]
  go_upto_region 3 with fail
  go_quiet (fail)
  go_wp2_with fail
  go_ret2
  exact ⟨rfl, (Fr.refl _ _).drewN _⟩

/-- What Get answers. -/
def PGot (p : Nat) (v : Value) (bs : List UInt8) (d : Dec) (c : Nat) (w : World) (e : Ending) (w' : World) : Prop :=
  (∃ bit d', decGet bs d c = some (bit, d') ∧ e = .returned (.tuple #[.int .i64 (bit.toNat : Int), .int .i64 0]) ∧ (∃ v', Pd w' p v' bs d' ∧ v'.ownBlock = v.ownBlock) ∧ Fr [p] w w') ∨
  (decGet bs d c = none ∧ e = .returned (.tuple #[.int .i64 0, .int .i64 41]) ∧ Fr [] w w')

set_option maxRecDepth 20000 in
set_option maxHeartbeats 4000000 in
theorem pget_any (p : Nat) (v : Value) (bs : List UInt8) (d : Dec) (c : Nat) (w : World) (h : Pd w p v bs d) (hc : rightC c) (hr : d.rest < d.r) (hr1 : 16777216 ≤ d.r) (hr2 : d.r ≤ 4294967295) :
    Calls Try.prog 87 #[pt p, .int .u16 (c : Int)] w (PGot p v bs d c w) := by
  obtain ⟨g, cv, hv⟩ := h.2.1.slice
  obtain ⟨n, hnn⟩ : ∃ n, n = ((bs.drop d.i).map B8).length := ⟨_, rfl⟩
  rw [show (bs.drop d.i).length = n by rw [hnn]; simp] at hv
  subst hv
  have Hnn := Lib.hid hnn
  clear hnn
  have e0 : decide (rightC c) = true := decide_eq_true hc
  have HC := Lib.hid (isOne_any c w)
  obtain ⟨B, hB⟩ : ∃ B, B = bnd d.r c := ⟨_, rfl⟩
  have hb1 := bnd_lo hr1 hc
  have hb2 := bnd_hi hr1 hc
  rw [← hB] at hb1 hb2
  have HBd := fun w => bound_any c d.r w hc hr1 hr2
  rw [← hB] at HBd
  have HBd := Lib.hid HBd
  obtain ⟨D, hD⟩ : ∃ D, D = decBit d c := ⟨_, rfl⟩
  have hget : decGet bs d c = decScale bs D.1 D.2 := by unfold decGet; rw [if_pos hr, hD]
  have hD2 : D = if d.rest < B then (false, ⟨d.i, d.rest, B⟩) else (true, ⟨d.i, d.rest - B, d.r - B⟩) := by rw [hD, hB]; rfl
  have Hget := Lib.hid hget
  have HD := Lib.hid hD2
  have H := Lib.hid h
  have c1 := h.1.cell 1
  have c2 := h.1.cell 2
  have hlt := h.1.lt
  have hz : (Try.prog.info? 91).map (·.size) = some 3 := by kernel_rfl
  have Hz := Lib.hid hz
  simp at c1 c2
  obtain ⟨i, r, k⟩ := d
  simp only at *
  have e1 : decide (k ≤ r) = false := by simp; omega
  clear h hc hget hD2 hD hz hB
  go_enter Try.func87, Try.ntmps87
  go_wp2_with fail
  refine HC.out.mono ?_
  rintro e w' ⟨rfl, rfl⟩
  rw [e0]
  go_upto_region 3 with fail
  go_quiet (fail)
  have hF2 := ((Fr.refl [] w').drewN nq)
  have h2 : Pd (w'.drewN nq) p (.slice g n cv) bs ⟨i, r, k⟩ := ⟨H.out.1.fr hF2 (by simp), H.out.2.1.fr0 hF2, H.out.2.2⟩
  have H2 := Lib.hid h2
  have HFd := Lib.hid hF2
  clear h2 hF2
  generalize w'.drewN nq = w2 at H2 HFd ⊢
  go_upto_region 5 with fail
  have hz4 : (Try.prog.info? 91).map (·.size) = some (#[.slice g n cv, .int .u32 (r : Int), .int .u32 (k : Int)] : Array Value).size := Hz.out
  go_upto_region 6 with (first
    | refine wpList_load_row rfl 91 _ rfl p rfl 91 _ _ _ H2.out.1.here Try.underlying91 rfl hz4 ?_
    | refine wpList_store_row rfl 91 _ _ rfl w2.heap.size _ rfl rfl 91 _ (heap_alloc_new _ _) hz4 rfl rfl ?_)
  (try rw [World.setRow_alloc_new])
  generalize hw : w2.alloc (.cells #[.slice g n cv, .int .u32 (r : Int), .int .u32 (k : Int)] 91) = w3
  have hB3 : Blk w3 w2.heap.size 91 #[.slice g n cv, .int .u32 (r : Int), .int .u32 (k : Int)] := by rw [← hw]; exact Blk.new _ _ _
  have hF3 : Fr [] w2 w3 := by rw [← hw]; exact (Fr.refl _ _).alloc _
  obtain ⟨q, hq⟩ : ∃ q, q = w2.heap.size := ⟨_, rfl⟩
  rw [← hq] at hB3 ⊢
  have h3 : Pd w3 p (.slice g n cv) bs ⟨i, r, k⟩ := ⟨H2.out.1.fr hF3 (by simp), H2.out.2.1.fr0 hF3, H2.out.2.2⟩
  have H3 := Lib.hid h3
  have Hq := Lib.hid hq
  have HB3 := Lib.hid hB3
  have HF3 := Lib.hid hF3
  have d2 := h3.1.cell 2
  have hl3 := h3.1.lt
  have HSp := Lib.hid (split_any q _ r k B w3 hB3 (by omega) hr2 (by omega))
  simp at d2
  clear hw hq hB3 hF3 c1 c2 hlt HC e0 h3 e1
  go_wp2_with fail
  refine (HBd.out w3).mono ?_
  rintro e w4 ⟨rfl, rfl⟩
  go_wp2_with fail
  refine HSp.out.mono ?_
  rintro e w5 ⟨hF5, hcase⟩
  have hcase : ∃ (bit : Bool) (r1 k1 : Nat), e = .returned (.int .i64 (bit.toNat : Int)) ∧ Blk w5 q 91 #[.slice g n cv, .int .u32 (r1 : Int), .int .u32 (k1 : Int)] ∧ D = (bit, ⟨i, r1, k1⟩) ∧ r1 < k1 ∧ 253952 ≤ k1 ∧ k1 ≤ k := by
    have hD := HD.out
    rcases hcase with ⟨hb, he, hB5⟩ | ⟨hb, he, hB5⟩
    · rw [if_pos hb] at hD
      exact ⟨false, r, B, he, hB5, hD, hb, hb1, by omega⟩
    · rw [if_neg (by omega)] at hD
      exact ⟨true, r - B, k - B, he, hB5, hD, by omega, by omega, by omega⟩
  obtain ⟨bit, r1, k1, rfl, hB5, hDD, hrk, hk1, hkk⟩ := hcase
  clear hcase
  have hF25 : Fr [] w2 w5 := HF3.out.trans hF5 (fun x hx => .inr (by have := Hq.out; simp at hx; omega))
  have hS5 : Src w5 (.slice g n cv) ((bs.drop i).map B8) := H2.out.2.1.fr0 hF25
  have hp2 : p < w2.heap.size := H2.out.1.lt
  have hscale : decGet bs ⟨i, r, k⟩ c = decScale bs bit ⟨i, r1, k1⟩ := by rw [Hget.out, hDD]
  have hlen : i ≤ bs.length := H2.out.2.2.2
  have Hsc := Lib.hid hscale
  have HF25 := Lib.hid hF25
  have HS5 := Lib.hid hS5
  have HB5 := Lib.hid hB5
  have Hq1 := Lib.hid (show p < q ∧ q = w2.heap.size from ⟨by have := Hq.out; omega, Hq.out⟩)
  have HN := Lib.hid (isNarrow_any k1 w5)
  have c2 := hB5.cell 2
  have hlq := hB5.lt
  simp at c2
  obtain ⟨b, hb⟩ : ∃ b : Int, b = (bit.toNat : Int) := ⟨_, rfl⟩
  have Hb := Lib.hid hb
  rw [← hb]
  clear hscale hF25 hS5 hB5 hF5 hDD Hget HD H H3 HB3 HF3 HSp HBd d2 hb hp2 Hq
  clear HBd hl3 hz4
  by_cases hnar : k1 < 16777216
  case' pos =>
    rw [decide_eq_true hnar] at HN
    rcases hys : bs.drop i with _ | ⟨x, ys⟩
    case' nil =>
      have hS := HS5.out
      rw [hys] at hS
      have hnone : decGet bs ⟨i, r, k⟩ c = none := by
        rw [Hsc.out, decScale_none hnar]
        have := congrArg List.length hys
        simp at this
        show bs.length ≤ i
        omega
      have HT := Lib.hid (take_none q _ _ _ w5 HB5.out hS)
      have Hnone := Lib.hid hnone
      clear hS hnone hys
      go_wp2_with fail
      refine HN.out.mono ?_
      rintro e w6 ⟨rfl, rfl⟩
      go_wp2_with fail
      refine HT.out.mono ?_
      rintro e w7 ⟨rfl, rfl⟩
      go_wp2_with fail
      go_ret2
      exact .inr ⟨Hnone.out, rfl, HFd.out.trans HF25.out (by simp)⟩
    case' cons =>
      have hS := HS5.out
      rw [hys] at hS
      have hne : (Value.slice g n cv).ownBlock ≠ some q := by
        have h1 := H2.out.2.1
        simp only at h1
        rw [hys] at h1
        obtain ⟨ad, r1, c1⟩ := h1.cellAt (k := 0) rfl
        subst r1
        have h2 := World.block_lt_of_cell? w2 _ c1
        rw [addr_block] at h2
        have h3 := Hq1.out.2
        simp [Value.ownBlock]
        omega
      have hT := take_one q _ r1 k1 x ys w5 HB5.out hS hne hnar hrk
      have hil : i < bs.length := by
        have := congrArg List.length hys
        simp at this
        omega
      have hsome : decGet bs ⟨i, r, k⟩ c = some (bit, ⟨i + 1, 256 * r1 + x.toNat, k1 * 256⟩) := by
        have hx : bs.getD i 0 = x := by
          have h1 := List.getElem?_drop (xs := bs) (i := i) (j := 0)
          rw [hys] at h1
          rw [List.getD_eq_getElem?_getD, ← Nat.add_zero i, ← h1]
          rfl
        rw [Hsc.out, decScale_more hnar hil, hx]
      have htail : bs.drop (i + 1) = ys := by
        rw [← List.tail_drop, hys]
        rfl
      have HT := Lib.hid hT
      have Hsome := Lib.hid hsome
      have Htail := Lib.hid htail
      have Hne := Lib.hid hne
      clear hS hne hT hsome htail hys
      go_wp2_with fail
      refine HN.out.mono ?_
      rintro e w6 ⟨rfl, rfl⟩
      go_wp2_with fail
      refine HT.out.mono ?_
      rintro e w7 ⟨rfl, v7, hB7, hS7, hv7, hF7⟩
      obtain ⟨g7, c7, rfl⟩ := hS7.slice
      have hend : ∃ (g7 : Option Addr) (c7 i7 n7 R7 K7 : Nat), decGet bs ⟨i, r, k⟩ c = some (bit, ⟨i7, R7, K7⟩) ∧ Blk w7 q 91 #[.slice g7 n7 c7, .int .u32 (R7 : Int), .int .u32 (K7 : Int)] ∧ Src w7 (.slice g7 n7 c7) ((bs.drop i7).map B8) ∧ (Value.slice g7 n7 c7).ownBlock = (Value.slice g n cv).ownBlock ∧ Fr [] w2 w7 ∧ i7 ≤ bs.length :=
        ⟨g7, c7, i + 1, _, _, _, Hsome.out, hB7, by rw [Htail.out]; exact hS7, hv7, HF25.out.trans hF7 (fun x hx => .inr (by have := Hq1.out.2; simp at hx; omega)), hil⟩
      have Hend := Lib.hid hend
      clear hB7 hS7 hv7 hF7 hend
      go_upto_region 9 with fail
  case' neg =>
    rw [decide_eq_false hnar] at HN
    have hend : ∃ (g7 : Option Addr) (c7 i7 n7 R7 K7 : Nat), decGet bs ⟨i, r, k⟩ c = some (bit, ⟨i7, R7, K7⟩) ∧ Blk w5 q 91 #[.slice g7 n7 c7, .int .u32 (R7 : Int), .int .u32 (K7 : Int)] ∧ Src w5 (.slice g7 n7 c7) ((bs.drop i7).map B8) ∧ (Value.slice g7 n7 c7).ownBlock = (Value.slice g n cv).ownBlock ∧ Fr [] w2 w5 ∧ i7 ≤ bs.length :=
      ⟨g, cv, i, _, _, _, by rw [Hsc.out]; exact decScale_same hnar, HB5.out, HS5.out, rfl, HF25.out, hlen⟩
    have Hend := Lib.hid hend
    clear hend
    go_wp2_with fail
    refine HN.out.mono ?_
    rintro e w6 ⟨rfl, rfl⟩
    go_upto_region 9 with fail
    generalize w6 = w7 at *
  all_goals
    obtain ⟨g7, c7, i7, n7, R7, K7, hg, hB, hS, hv, hF, hi7⟩ := Hend.out
    have hP := H2.out.1.fr hF (by simp)
    have m0 := hB.cell 0
    have m1 := hB.cell 1
    have m2 := hB.cell 2
    have l7 := hB.lt
    have n0 := hP.cell 0
    have n1 := hP.cell 1
    have n2 := hP.cell 2
    have p0 := hP.frozen 0
    have p1 := hP.frozen 1
    have p2 := hP.frozen 2
    have lp := hP.lt
    simp at m0 m1 m2 n0 n1 n2
    have hs3 := ((hP.set_ 0 (.slice g7 n7 c7)).set_ 1 (.int .u32 (R7 : Int))).set_ 2 (.int .u32 (K7 : Int))
    have hf3 : Fr [p] w7 (((w7.setCell ⟨p, 0, none⟩ (.slice g7 n7 c7)).setCell ⟨p, 1, none⟩ (.int .u32 (R7 : Int))).setCell ⟨p, 2, none⟩ (.int .u32 (K7 : Int))) :=
      (((Fr.refl [p] w7).setCell (.inl (by simp)) _).setCell (.inl (by simp)) _).setCell (.inl (by simp)) _
    have HS3 := Lib.hid hs3
    have HF3 := Lib.hid hf3
    have HG := Lib.hid hg
    have HS7 := Lib.hid hS
    have HV := Lib.hid hv
    have HF7 := Lib.hid hF
    clear hg hS hv hF hP hB Hend hs3 hf3 c2 HN
    (try clear HT)
    go_wp2_with fail
    go_ret2
    refine .inl ⟨bit, ⟨i7, R7, K7⟩, HG.out, by rw [← Hb.out]; rfl, ⟨.slice g7 n7 c7, ⟨?_, ?_, ?_, hi7⟩, HV.out⟩, ?_⟩
    · simpa using HS3.out
    · refine HS7.out.fr HF3.out (fun k hk hm => ?_)
      rw [HV.out] at hk
      simp at hm
      subst hm
      exact H2.out.2.2.1 hk
    · rw [HV.out]; exact H2.out.2.2.1
    · exact (((HFd.out.trans HF7.out (by simp)).mono (S' := [p]) (by simp)).trans HF3.out (fun x hx => .inl hx))
end Go.Proofs.Ytendcmdpmohacaa

/-
  The landed coder keeps the contracts that the laws ask of it. No condition.
-/
namespace Go.Proofs.Ytendcmdpmohacaa
open Go.RowKit

def PEn (w : World) (p : Nat) (D : List Nat) (e : Enc) : Prop := ∃ v, Pe w p v e ∧ D = v.ownBlock.toList

theorem own_mem {v : Value} {k : Nat} : k ∈ v.ownBlock.toList ↔ v.ownBlock = some k := by
  cases v.ownBlock with
  | none => simp
  | some a => simp; omega

theorem Enc.Ok.pos {e : Enc} (h : e.Ok) : 0 < e.n := by
  have h1 := h.lo
  have h2 := h.fit
  rcases Nat.eq_zero_or_pos e.n with h0 | h0
  · rw [h0] at h2; omega
  · exact h0

def encI : EncSpec where
  En := PEn
  lt := by
    rintro w p D e ⟨v, h, rfl⟩ k hk
    rcases List.mem_cons.1 hk with rfl | hk
    · exact h.1.lt
    · exact h.2.1.lt k (own_mem.1 hk)
  fr := by
    rintro w w' p D e S ⟨v, h, rfl⟩ hF hS
    refine ⟨v, ⟨h.1.fr hF (hS p (List.mem_cons_self ..)), h.2.1.fr hF (fun k hk => hS k (List.mem_cons_of_mem _ (own_mem.2 hk))), h.2.2⟩, rfl⟩
  new := by
    intro w
    refine (pnew_any w).mono ?_
    rintro r w' ⟨p, v, rfl, h, hF, hp, hv⟩
    refine ⟨p, _, rfl, ⟨v, h, rfl⟩, hF, fun k hk => ?_⟩
    rcases List.mem_cons.1 hk with rfl | hk
    · exact hp
    · exact hv k (own_mem.1 hk)
  bad := by
    rintro w p D e c bit - - - - h
    exact pput_bad w p c bit h
  put := by
    rintro w p D e c bit ⟨v, h, rfl⟩ he hc hn
    refine (pput_ok p v e c bit w h he hc (by omega)).mono ?_
    rintro r w' ⟨rfl, v', h', hF, hb⟩
    refine ⟨rfl, _, ⟨v', h', rfl⟩, hF, fun k hk => ?_⟩
    rcases hb with hb | ⟨g, hb, hg⟩
    · rw [hb] at hk; exact .inl hk
    · rw [hb] at hk
      have : k = g := by simpa using hk
      exact .inr (by omega)
  bytes := by
    rintro w p D e ⟨v, h, rfl⟩ he hn
    refine (pbytes_any w p v e h he.pos hn).mono ?_
    rintro r w' ⟨u, rfl, hS, hF, hk⟩
    exact ⟨u, rfl, hS, hF, fun k h => .inr (hk k h)⟩
  putNil := by
    rintro w c bit -
    exact pput_nil w c bit
  bytesNil := bytesNil_any

def PDe (w : World) (p : Nat) (D : List Nat) (bs : List UInt8) (d : Dec) : Prop := ∃ v, Pd w p v bs d ∧ D = v.ownBlock.toList ∧ ∀ k ∈ D, k < w.heap.size

def decI : DecSpec where
  De := PDe
  lt := by
    rintro w p D bs d ⟨v, h, rfl, hl⟩ k hk
    rcases List.mem_cons.1 hk with rfl | hk
    · exact h.1.lt
    · exact hl k hk
  fr := by
    rintro w w' p D bs d S ⟨v, h, rfl, hl⟩ hF hS
    exact ⟨v, ⟨h.1.fr hF (hS p (List.mem_cons_self ..)), h.2.1.fr hF (fun k hk => hS k (List.mem_cons_of_mem _ (own_mem.2 hk))), h.2.2⟩, rfl, fun k hk => Nat.lt_of_lt_of_le (hl k hk) hF.size⟩
  short := by
    intro w A n c h
    exact open_short w A n c h
  opens := by
    intro w A c bs hS hn hm
    refine (open_any A c bs w hS hn (by omega)).mono ?_
    rintro r w' ⟨p, v, rfl, h, hF, hp, hv, hl⟩
    refine ⟨p, _, rfl, ⟨v, h, rfl, fun k hk => hl k (own_mem.1 hk)⟩, hF, hp, fun k hk e => ?_, fun k hk => .inl (hv k (own_mem.1 hk))⟩
    have := own_mem.1 hk
    rw [e] at this
    exact h.2.2.1 this
  arg := by
    rintro w p D bs d c - - h
    exact getArg_any w p c h
  get := by
    rintro w p D bs d c ⟨v, h, rfl, hl⟩ hc hr h1 h2 - -
    by_cases hg : d.rest < d.r
    · refine (pget_any p v bs d c w h hc hg h1 h2).mono ?_
      rintro r w' (⟨bit, d', hd, he, ⟨v', h', hv⟩, hF⟩ | ⟨hd, he, hF⟩)
      · exact .inl ⟨bit, d', hd, he, ⟨v', h', by rw [hv], fun k hk => Nat.lt_of_lt_of_le (hl k hk) hF.size⟩, hF⟩
      · exact .inr ⟨hd, he, hF⟩
    · refine (pget_great p v bs d c w h hc (by omega)).mono ?_
      rintro r w' ⟨he, hF⟩
      exact .inr ⟨by unfold decGet; rw [if_neg hg], he, hF⟩
  ends := by
    rintro w p D bs d ⟨v, h, -, -⟩
    refine (end_any w p v bs d h).mono ?_
    rintro r w' ⟨rfl, rfl⟩
    exact ⟨rfl, 0, rfl⟩
  getNil := by
    rintro w c -
    exact getNil_any w c
  endNil := endNil_any

theorem nextI : NextSpec := next_any
end Go.Proofs.Ytendcmdpmohacaa

/-
  Contracts of the landed book: put, putBehind, putLength, putLowest. Conditions: the book and the encoder are apart, the chances are right, the code is not too long.
-/
namespace Go.Proofs.Ytendcmdpmohacaa
open Go.RowKit

abbrev ptc (b j : Nat) : Value := .pointer (some ⟨b, j, none⟩)

/-- Behind a row of bits, from w0 on. -/
def NibAt (X : EncSpec) (w0 : World) (b p : Nat) (D0 : List Nat) (t : Nat) (B : Chs) (e : Enc) (w : World) (l : List Ev) : Prop :=
  ∃ D, Bk w b (learned t B l) ∧ X.En w p D (puts e (track t B l)) ∧ b ∉ p :: D ∧ Fr (b :: p :: D0) w0 w ∧ ∀ k ∈ D, k ∈ D0 ∨ w0.heap.size ≤ k

section
variable {X : EncSpec} {w0 w : World} {b p : Nat} {D0 : List Nat} {t : Nat} {B : Chs} {e : Enc} {l : List Ev}
theorem NibAt.start (hb : Bk w0 b B) (he : X.En w0 p D0 e) (hs : b ∉ p :: D0) : NibAt X w0 b p D0 t B e w0 [] :=
  ⟨D0, hb, he, hs, Fr.refl _ _, fun _ hk => .inl hk⟩
theorem NibAt.fr0 {w' : World} (h : NibAt X w0 b p D0 t B e w l) (hf : Fr [] w w') : NibAt X w0 b p D0 t B e w' l := by
  obtain ⟨D, h1, h2, h3, h4, h5⟩ := h
  exact ⟨D, h1.fr hf (by simp), X.fr h2 hf (by simp), h3, h4.trans hf (by simp), h5⟩
end

set_option maxRecDepth 20000 in
theorem bput_any (N : NextSpec) (X : EncSpec) (w w0 : World) (b p : Nat) (D0 : List Nat) (t i : Nat) (B : Chs) (e : Enc) (l : List Ev) (bit : Bool) (h : NibAt X w0 b p D0 t B e w l) (hB : FineB B) (he : e.Ok) (hn : e.n + l.length ≤ 100000) (ht : t < 16) (hi : i < 37) :
    Calls Try.prog 67 #[pt p, ptc b (t * 37 + i), .int .i64 (bit.toNat : Int)] w fun r w' => r = .returned (.int .i64 0) ∧ NibAt X w0 b p D0 t B e w' (l ++ [(some i, bit)]) := by
  obtain ⟨D, hb, hE, hs, hF, hD⟩ := h
  have hfine := learned_fine t l hB
  have hok := puts_ok he (track_rights t l hB)
  have hn2 := puts_n (track t B l) e
  rw [track_length] at hn2
  obtain ⟨c, hc⟩ : ∃ c, c = learned t B l (37 * t + i) := ⟨_, rfl⟩
  have hcr : rightC c := by rw [hc]; exact hfine _
  have ka := hb.cell (j := t * 37 + i) (by omega)
  rw [show t * 37 + i = 37 * t + i by omega, ← hc, show 37 * t + i = t * 37 + i by omega] at ka
  have hP := X.put w p D _ c bit hE hok hcr (by omega)
  have hN := fun W => N W c (bit.toNat : Int) (by have := hcr.2; omega) (by omega) (by have := Bool.toNat_le bit; omega)
  have hbb : ((bit.toNat : Int) != 0) = bit := by cases bit <;> rfl
  rw [hbb] at hN
  obtain ⟨y, hy⟩ : ∃ y, y = nextC c bit := ⟨_, rfl⟩
  rw [← hy] at hN
  have HP := Lib.hid hP; have HN := Lib.hid hN; have Hc := Lib.hid hc; have Hy := Lib.hid hy
  have Hb := Lib.hid hb; have Hs := Lib.hid hs; have HF := Lib.hid hF; have HD := Lib.hid hD; have HE := Lib.hid hE
  clear hb hE hs hF hD hc hP hN hbb hy hfine hok hn2 he hn hB
  go_enter Try.func67, Try.ntmps67
  go_wp2_with fail
  refine HP.out.mono ?_
  rintro r w1 ⟨rfl, D', hE1, hF1, hD1⟩
  have hb1 : Bk w1 b (learned t B l) := Hb.out.fr hF1 Hs.out
  have kb : w1.cell? ⟨b, t * 37 + i, none⟩ = some (.int .u16 (c : Int)) := by
    have := hb1.cell (j := t * 37 + i) (by omega)
    rw [show t * 37 + i = 37 * t + i by omega, ← Hc.out, show 37 * t + i = t * 37 + i by omega] at this
    exact this
  have HE1 := Lib.hid hE1; have HF1 := Lib.hid hF1; have HD1 := Lib.hid hD1; have HB1 := Lib.hid hb1
  clear hE1 hF1 hD1 hb1 ka HP
  go_wp2_with fail
  refine (HN.out _).mono ?_
  rintro r w2 ⟨rfl, hF2⟩
  have hb2 : Bk w2 b (learned t B l) := HB1.out.fr hF2 (by simp)
  have kc : w2.cell? ⟨b, t * 37 + i, none⟩ = some (.int .u16 (c : Int)) := by
    have := hb2.cell (j := t * 37 + i) (by omega)
    rw [show t * 37 + i = 37 * t + i by omega, ← Hc.out, show 37 * t + i = t * 37 + i by omega] at this
    exact this
  have kf : w2.frozen? ⟨b, t * 37 + i, none⟩ = false := Blk.frozen hb2 _
  have HF2 := Lib.hid hF2; have HB2 := Lib.hid hb2
  clear hF2 hb2 kb
  go_wp2_with fail
  go_ret
  have hbl := Hb.out.lt
  have hF12 : Fr [b] w1 (w2.setCell ⟨b, t * 37 + i, none⟩ (.int .u16 (y : Int))) := (HF2.out.mono (S' := [b]) (by simp)).trans ((Fr.refl [b] w2).setCell (.inl (by simp)) _) (fun x hx => .inl hx)
  have hsep : b ∉ p :: D' := by
    intro hm
    rcases List.mem_cons.1 hm with hm | hm
    · exact Hs.out (by rw [hm]; exact List.mem_cons_self ..)
    · rcases HD1.out b hm with h | h
      · exact Hs.out (List.mem_cons_of_mem _ h)
      · omega
  have hcB : learned t B l (37 * t + i) = c := Hc.out.symm
  refine ⟨rfl, D', ?_, ?_, hsep, ?_, ?_⟩
  · rw [learned_append]
    show Bk _ b (upd (learned t B l) (37 * t + i) (nextC (learned t B l (37 * t + i)) bit))
    rw [hcB, ← Hy.out, show 37 * t + i = t * 37 + i by omega]
    exact HB2.out.set _ _
  · rw [track_append, puts_append]
    have h1 : X.En w1 p D' (encPut (puts e (track t B l)) (learned t B l (37 * t + i)) bit) := by rw [hcB]; exact HE1.out
    exact X.fr h1 hF12 (fun k hk hm => by simp at hm; subst hm; exact hsep hk)
  · refine (HF.out.trans HF1.out ?_).trans hF12 ?_
    · intro x hx
      rcases List.mem_cons.1 hx with rfl | hx
      · exact .inl (List.mem_cons_of_mem _ (List.mem_cons_self ..))
      · rcases HD.out x hx with h | h
        · exact .inl (List.mem_cons_of_mem _ (List.mem_cons_of_mem _ h))
        · exact .inr h
    · intro x hx
      simp at hx
      subst hx
      exact .inl (List.mem_cons_self ..)
  · intro k hk
    rcases HD1.out k hk with h | h
    · exact HD.out k h
    · exact .inr (Nat.le_trans HF.out.size h)

theorem NibAt.even {X : EncSpec} {w w0 : World} {b p : Nat} {D0 : List Nat} {t : Nat} {B : Chs} {e : Enc} {l : List Ev} (h : NibAt X w0 b p D0 t B e w l) (hB : FineB B) (he : e.Ok) (hn : e.n + l.length ≤ 100000) (bit : Bool) :
    Calls Try.prog 82 #[pt p, .int .u16 1024, .int .i64 (bit.toNat : Int)] w fun r w' => r = .returned (.int .i64 0) ∧ NibAt X w0 b p D0 t B e w' (l ++ [(none, bit)]) := by
  obtain ⟨D, hb, hE, hs, hF, hD⟩ := h
  have hn2 := puts_n (track t B l) e
  rw [track_length] at hn2
  refine (X.put w p D _ 1024 bit hE (puts_ok he (track_rights t l hB)) (by decide) (by omega)).mono ?_
  rintro r w' ⟨rfl, D', hE1, hF1, hD1⟩
  have hbl := hb.lt
  refine ⟨rfl, D', ?_, ?_, ?_, ?_, ?_⟩
  · rw [learned_append]
    exact hb.fr hF1 hs
  · rw [track_append, puts_append]
    exact hE1
  · intro hm
    rcases List.mem_cons.1 hm with hm | hm
    · exact hs (by rw [hm]; exact List.mem_cons_self ..)
    · rcases hD1 b hm with h | h
      · exact hs (List.mem_cons_of_mem _ h)
      · omega
  · refine hF.trans hF1 ?_
    intro x hx
    rcases List.mem_cons.1 hx with rfl | hx
    · exact .inl (List.mem_cons_of_mem _ (List.mem_cons_self ..))
    · rcases hD x hx with h | h
      · exact .inl (List.mem_cons_of_mem _ (List.mem_cons_of_mem _ h))
      · exact .inr h
  · intro k hk
    rcases hD1 k hk with h | h
    · exact hD k h
    · exact .inr (Nat.le_trans hF.size h)

set_option maxRecDepth 20000 in
theorem bbehind_any (N : NextSpec) (X : EncSpec) (w w0 : World) (b p : Nat) (D0 : List Nat) (t i a : Nat) (B : Chs) (e : Enc) (l : List Ev) (bit : Bool) (h : NibAt X w0 b p D0 t B e w l) (hB : FineB B) (he : e.Ok) (hn : e.n + l.length ≤ 100000) (ht : t < 16) (ha : a < 2 ^ i) (hi : i ≤ 20) :
    Calls Try.prog 81 #[ptc b (t * 37), pt p, .int .i64 ((2 ^ i + a : Nat) : Int), .int .i64 (bit.toNat : Int)] w fun r w' => r = .returned (.int .i64 0) ∧ NibAt X w0 b p D0 t B e w' (l ++ [(place i a, bit)]) := by
  have HI := Lib.hid (bfirst_any (2 ^ i + a) w)
  by_cases h4 : i < 4
  · have hp : 2 ^ i ≤ 8 := Nat.pow_le_pow_right (n := 2) (i := i) (j := 3) (by omega) (by omega)
    have hp0 := Nat.two_pow_pos i
    have hP := bput_any N X w w0 b p D0 t (20 + (2 ^ i - 1) + a) B e l bit h hB he hn ht (by omega)
    have hpl : place i a = some (20 + (2 ^ i - 1) + a) := by unfold place; rw [if_pos h4]
    rw [← hpl] at hP
    obtain ⟨W, hW⟩ : ∃ W, W = 2 ^ i + a := ⟨_, rfl⟩
    rw [show t * 37 + (20 + (2 ^ i - 1) + a) = t * 37 + (19 + W) by omega] at hP
    rw [← hW, decide_eq_true (by omega : W < 16)] at HI
    have e1 : (W : Int) < 16 := by omega
    rw [← hW]
    have HP := Lib.hid hP
    have hW0 : 1 ≤ W := by omega
    have hW16 : W < 16 := by omega
    clear hP hW hpl h hB he hn ha h4 hp hp0
    go_enter Try.func81, Try.ntmps81
    go_wp2_with fail
    refine HI.out.mono ?_
    rintro r w1 ⟨rfl, rfl⟩
    clear HI
    have ew : 20 + W - 1 = 19 + W := by omega
    have Hew := Lib.hid ew
    clear ew
    go_wp2_with fail
    rw [Hew.out]
    refine HP.out.mono ?_
    rintro r w2 ⟨rfl, hQ⟩
    have HQ := Lib.hid hQ
    clear hQ HP
    go_wp2_with fail
    go_ret
    exact ⟨rfl, HQ.out⟩
  · have hp : 16 ≤ 2 ^ i := Nat.pow_le_pow_right (n := 2) (i := 4) (j := i) (by omega) (by omega)
    have hpl : place i a = none := by unfold place; rw [if_neg h4]
    have hE := h.even hB he hn bit
    rw [hpl]
    obtain ⟨W, hW⟩ : ∃ W, W = 2 ^ i + a := ⟨_, rfl⟩
    rw [← hW, decide_eq_false (by omega : ¬ W < 16)] at HI
    rw [← hW]
    have HE := Lib.hid hE
    clear hE hW hpl h hB he hn ha h4 hp
    go_enter Try.func81, Try.ntmps81
    go_wp2_with fail
    refine HI.out.mono ?_
    rintro r w1 ⟨rfl, rfl⟩
    clear HI
    go_wp2_with fail
    refine HE.out.mono ?_
    rintro r w2 ⟨rfl, hQ⟩
    have HQ := Lib.hid hQ
    clear hQ HE
    go_wp2_with fail
    go_ret
    exact ⟨rfl, HQ.out⟩

set_option maxRecDepth 20000 in
theorem blength_any (N : NextSpec) (X : EncSpec) (w w0 : World) (b p : Nat) (D0 : List Nat) (t n : Nat) (B : Chs) (e : Enc) (l : List Ev) (h : NibAt X w0 b p D0 t B e w l) (hB : FineB B) (he : e.Ok) (hn : e.n + l.length ≤ 90000) (ht : t < 16) (hn20 : n ≤ 20) :
    Calls Try.prog 65 #[ptc b (t * 37), pt p, .int .i64 (n : Int)] w fun r w' => r = .returned (.int .i64 0) ∧ NibAt X w0 b p D0 t B e w' (l ++ (onesEvs 0 n ++ stopEvs n)) := by
  have H0 := Lib.hid h
  have HB := Lib.hid hB; have He := Lib.hid he; have Hn := Lib.hid hn
  clear h hB he hn
  go_enter Try.func65, Try.ntmps65
  go_wp2_with fail
  go_loopw [10] (fun s10 wr => ∃ i : Nat, i ≤ n ∧ s10 = .int .i64 (i : Int) ∧ NibAt X w0 b p D0 t B e wr (l ++ onesEvs 0 i)) (fun s10 _ => 20 - (intOf s10).toNat)
  case atStart => exact ⟨0, by omega, rfl, by rw [show onesEvs 0 0 = [] from rfl, List.append_nil]; exact H0.out⟩
  case round =>
    clear H0
    obtain ⟨i, hi, rfl, hP⟩ := hrel
    have HP := Lib.hid hP; clear hP
    by_cases hin : i < n
    · have e1 : decide (i < n) = true := by simpa using hin
      have hPut := bput_any N X wr w0 b p D0 t i B e _ true HP.out HB.out He.out (by have := Hn.out; simp; omega) ht (by omega)
      rw [show ((true.toNat : Nat) : Int) = 1 from rfl, List.append_assoc, show onesEvs 0 i ++ [(some i, true)] = onesEvs 0 (i + 1) by rw [onesEvs_snoc, Nat.zero_add]] at hPut
      have HPut := Lib.hid hPut
      clear hPut
      go_wp2_with fail
      refine HPut.out.mono ?_
      rintro r w1 ⟨rfl, hQ⟩
      have HQ := Lib.hid hQ
      clear hQ HPut
      go_wp2_with fail
      exact ⟨⟨i + 1, by omega, by simp, HQ.out⟩, by simp [intOf]; omega⟩
    · have e1 : decide (i < n) = false := by simpa using hin
      have hin2 : i = n := by omega
      have hQ := HP.out
      rw [hin2] at hQ
      have HQ := Lib.hid hQ
      clear hQ HP hin2 hin hi
      by_cases h20 : n = 20
      · have e2 : ((n : Int) == 20) = true := by simp; omega
        have hfin : NibAt X w0 b p D0 t B e wr (l ++ (onesEvs 0 n ++ stopEvs n)) := by
          rw [show stopEvs n = [] by unfold stopEvs; rw [if_neg (by omega)], List.append_nil]
          exact HQ.out
        have HFin := Lib.hid hfin
        clear hfin HQ h20
        go_wp2_with fail
        go_ret
        exact ⟨rfl, HFin.out⟩
      · have e2 : ((n : Int) == 20) = false := by simp; omega
        have hPut := bput_any N X wr w0 b p D0 t n B e _ false HQ.out HB.out He.out (by have := Hn.out; simp; omega) ht (by omega)
        rw [show ((false.toNat : Nat) : Int) = 0 from rfl, List.append_assoc, show onesEvs 0 n ++ [(some n, false)] = onesEvs 0 n ++ stopEvs n by unfold stopEvs; rw [if_pos (by omega)]] at hPut
        have HPut := Lib.hid hPut
        clear hPut HQ
        go_wp2_with fail
        refine HPut.out.mono ?_
        rintro r w1 ⟨rfl, hQ⟩
        have HQ := Lib.hid hQ
        clear hQ HPut
        go_wp2_with fail
        go_ret
        exact ⟨rfl, HQ.out⟩

theorem i64_and_one (R : Nat) (_h : R < 9223372036854775808) : bits .and .i64 (R : Int) 1 = ((R % 2 : Nat) : Int) := by
  show IntKind.i64.wrap ((BitVec.ofInt 64 (R : Int) &&& BitVec.ofInt 64 1).toNat : Int) = _
  rw [BitVec.toNat_and, BitVec.toNat_ofInt, show (BitVec.ofInt 64 1).toNat = 1 by decide, Nat.and_one_is_mod]
  rw [IntWalk.i64_in _ (by omega)]
  omega
/-! The lowest n bits of V, which has a 1 ahead of them. -/
theorem low_take (V n i : Nat) (h : i ≤ n) : (digits V n).take i = digits (V / 2 ^ (n - i)) i := by
  have e := digits_add V (n - i) i
  rw [show n - i + i = n by omega] at e
  rw [e, List.take_left' (by simp), Nat.shiftRight_eq_div_pow]
theorem low_ahead {V n i : Nat} (h0 : 2 ^ n ≤ V) (h1 : V < 2 ^ (n + 1)) (h : i ≤ n) : V / 2 ^ (n - i) = 2 ^ i + number ((digits V n).take i) := by
  rw [low_take V n i h, number_digits]
  have hp := Nat.two_pow_pos (n - i)
  have h2 : 2 ^ i ≤ V / 2 ^ (n - i) := by
    rw [Nat.le_div_iff_mul_le hp, ← Nat.pow_add, show i + (n - i) = n by omega]
    exact h0
  have h3 : V / 2 ^ (n - i) < 2 ^ (i + 1) := by
    rw [Nat.div_lt_iff_lt_mul hp, ← Nat.pow_add, show i + 1 + (n - i) = n + 1 by omega]
    exact h1
  rw [Nat.pow_succ] at h3
  generalize V / 2 ^ (n - i) = m at h2 h3 ⊢
  generalize 2 ^ i = q at h2 h3 ⊢
  rw [Nat.mod_eq_sub_mod h2, Nat.mod_eq_of_lt (by omega)]
  omega
theorem low_bit {V n i : Nat} (h : i < n) : V / 2 ^ (n - 1 - i) % 2 = ((digits V n).getD i false).toNat := by
  rw [digits_getD, Nat.testBit_eq_decide_div_mod_eq]
  simp only [h, decide_true, Bool.true_and]
  rcases Nat.mod_two_eq_zero_or_one (V / 2 ^ (n - 1 - i)) with h | h <;> rw [h] <;> rfl
theorem low_half {V n i : Nat} (h : i < n) : V / 2 ^ (n - 1 - i) / 2 = V / 2 ^ (n - i) := by
  rw [Nat.div_div_eq_div_mul, ← Nat.pow_succ, show (n - 1 - i).succ = n - i by omega]

set_option maxRecDepth 20000 in
theorem blowest_any (N : NextSpec) (X : EncSpec) (w w0 : World) (b p : Nat) (D0 : List Nat) (t n V : Nat) (B : Chs) (e : Enc) (l : List Ev) (h : NibAt X w0 b p D0 t B e w l) (hB : FineB B) (he : e.Ok) (hn : e.n + l.length ≤ 90000) (ht : t < 16) (hn20 : n ≤ 20) (hV0 : 2 ^ n ≤ V) (hV1 : V < 2 ^ (n + 1)) :
    Calls Try.prog 66 #[ptc b (t * 37), pt p, .int .i64 (V : Int), .int .i64 (n : Int)] w fun r w' => r = .returned (.int .i64 0) ∧ NibAt X w0 b p D0 t B e w' (l ++ bitEvs 0 0 (digits V n)) := by
  have hV : V < 2097152 := Nat.lt_of_lt_of_le hV1 (Nat.pow_le_pow_right (n := 2) (i := n + 1) (j := 21) (by omega) (by omega))
  have H0 := Lib.hid h
  have HB := Lib.hid hB; have He := Lib.hid he; have Hn := Lib.hid hn; have HV0 := Lib.hid hV0; have HV1 := Lib.hid hV1
  clear h hB he hn hV0 hV1
  go_enter Try.func66, Try.ntmps66
  go_wp2_with fail
  go_loopw [13] (fun s13 wr => ∃ i : Nat, i ≤ n ∧ s13 = .int .i64 (i : Int) ∧ NibAt X w0 b p D0 t B e wr (l ++ bitEvs 0 0 ((digits V n).take i))) (fun s13 _ => 20 - (intOf s13).toNat)
  case atStart => exact ⟨0, by omega, rfl, by rw [List.take_zero, show bitEvs 0 0 [] = [] from rfl, List.append_nil]; exact H0.out⟩
  case round =>
    clear H0
    obtain ⟨i, hi, rfl, hP⟩ := hrel
    have HP := Lib.hid hP; clear hP
    by_cases hin : i < n
    · have e1 : decide (i < n) = true := by simpa using hin
      have hs : (0 : Int) ≤ (n : Int) - 1 - (i : Int) := by omega
      go_upto_region 5 with fail
      obtain ⟨R, hR⟩ : ∃ R, R = V / 2 ^ (n - 1 - i) := ⟨_, rfl⟩
      have eR : (V : Int) / 2 ^ (n - 1 - i) = (R : Int) := by rw [hR]; simp
      rw [eR]
      have hRV : R ≤ V := by rw [hR]; exact Nat.div_le_self _ _
      have h2 := low_half (V := V) hin
      rw [← hR, low_ahead HV0.out HV1.out (by omega)] at h2
      have h3 := low_bit (V := V) hin
      rw [← hR] at h3
      obtain ⟨bit, hbit⟩ : ∃ bit, bit = (digits V n).getD i false := ⟨_, rfl⟩
      rw [← hbit] at h3
      have hPut := bbehind_any N X wr w0 b p D0 t i (number ((digits V n).take i)) B e _ bit HP.out HB.out He.out (by have := Hn.out; simp; omega) ht (by have := number_lt ((digits V n).take i); rw [List.length_take, digits_length, Nat.min_eq_left (by omega)] at this; exact this) (by omega)
      rw [← h2, List.append_assoc, hbit, ← bitEvs_take (by simpa using hin), ← hbit] at hPut
      have hA : bits .and .i64 (R : Int) 1 = (bit.toNat : Int) := by rw [i64_and_one R (by omega), h3]
      obtain ⟨Q, hQ⟩ : ∃ Q, Q = R / 2 := ⟨_, rfl⟩
      have hD : (R : Int) / 2 = (Q : Int) := by omega
      rw [← hQ] at hPut h2
      have HPut := Lib.hid hPut
      clear hPut hR eR h2 h3 hbit HP hQ
      go_wp2_with fail
      refine HPut.out.mono ?_
      rintro r w1 ⟨rfl, hQ⟩
      have HQ := Lib.hid hQ
      clear hQ HPut
      go_wp2_with fail
      exact ⟨⟨i + 1, by omega, by simp, HQ.out⟩, by simp [intOf]; omega⟩
    · have e1 : decide (i < n) = false := by simpa using hin
      have hin2 : i = n := by omega
      have hQ := HP.out
      rw [hin2, List.take_of_length_le (by simp)] at hQ
      have HQ := Lib.hid hQ
      clear hQ HP hin2 hin hi
      go_wp2_with fail
      go_ret
      exact ⟨rfl, HQ.out⟩
end Go.Proofs.Ytendcmdpmohacaa
