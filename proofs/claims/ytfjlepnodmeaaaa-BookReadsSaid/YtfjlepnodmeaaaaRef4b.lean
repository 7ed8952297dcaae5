/-
  Contracts of the document's coder of layer 4: Put, Bytes; conditions: the code is at most as long as named.
-/
import Derived.Test.YtfjlepnodmeaaaaRef4a
import Derived.Test.YtfjlepnodmeaaaaRef1a
namespace Go.Proofs.Ytfjlepnodmeaaaa
open Go.RowKit

theorem info_int : (Try.prog.info? 3).map (fun i => (i.zero, i.size, i.bytes)) = some (some (.int .i64 0), 1, 8) := by kernel_rfl
theorem I8_one (xs : List UInt8) : ∀ u ∈ xs.map I8, u.oneCell' = true := by
  intro u hu
  obtain ⟨b, _, rfl⟩ := List.mem_map.1 hu
  rfl
/-- append onto numbers of the call's own. -/
theorem wp_append_int {w : World} {ops : Array Oper} {rest : List Oper} {o : Oper} {a : Act} {Q : Exit → Act → World → Prop} (s x : Operand) (v : Value) (xs : List UInt8) (src : Value) (news : List UInt8)
    (hgd : o.guard = none) (ho : o.op = .call { callee := .builtin .append, args := #[s, x], argTypes := #[70, 70] })
    (hv : a.eval s = v) (hsv : a.eval x = src) (hown : Own w 3 v (xs.map I8)) (hs : Src w src (news.map I8)) (hlen : xs.length + news.length ≤ 1000000000000)
    (h : ∀ v' w', Own w' 3 v' ((xs ++ news).map I8) → Own1 v v' w w' → wpList Try.prog ops Q rest (a.put o.dst v') w') : wpList Try.prog ops Q (o :: rest) a w := by
  obtain ⟨i, hi, hz, h1, h2⟩ := info_parts info_int
  refine wpList_append_mine s x 70 3 i _ 8 hgd ho Try.underlying70 hi hz h1 h2 rfl v _ src _ hv hsv hown hs (I8_one news) ?_ ?_ ?_
  · simp only [List.length_map, maxLen]; omega
  · simp only [List.length_map]; omega
  · intro v' w' k1 k2
    exact h v' w' (by rw [List.map_append]; exact k1) k2

theorem rput_bad (a : Value) (c : Nat) (bit : Int) (w : World) (h : ¬ (rightC c ∧ (bit = 0 ∨ bit = 1))) :
    Calls Try.prog 59 #[a, .int .i64 (c : Int), .int .i64 bit] w fun e w' => e = .returned (.int .i64 1) ∧ w' = w := by
  by_cases hc : rightC c
  · have e0 : decide (rightC c) = true := decide_eq_true hc
    have h0 : bit ≠ 0 := fun e => h ⟨hc, .inl e⟩
    have h1 : bit ≠ 1 := fun e => h ⟨hc, .inr e⟩
    have e1 : (bit != 0) = true := by simp [h0]
    have e2 : (bit != 1) = true := by simp [h1]
    have HC := Lib.hid (rright_any c w)
    clear h hc h0 h1
    go_enter Try.func59, Try.ntmps59
    go_wp2_with fail
    refine HC.out.mono ?_
    rintro e w' ⟨rfl, rfl⟩
    rw [e0]
    go_wp2_with fail
    go_ret
    exact ⟨rfl, rfl⟩
  · have e0 : decide (rightC c) = false := decide_eq_false hc
    have HC := Lib.hid (rright_any c w)
    clear h hc
    go_enter Try.func59, Try.ntmps59
    go_wp2_with fail
    refine HC.out.mono ?_
    rintro e w' ⟨rfl, rfl⟩
    rw [e0]
    go_wp2_with fail
    go_ret
    exact ⟨rfl, rfl⟩

theorem encScale_same {e : Enc} (h : ¬ e.r < 16777216) : encScale e = e := by unfold encScale; rw [if_neg h]
theorem encScale_more {e : Enc} (h : e.r < 16777216) : encScale e = ⟨e.v * 256, e.n + 1, e.r * 256⟩ := by unfold encScale; rw [if_pos h]

theorem Re.form {w : World} {p : Nat} {v : Value} {e : Enc} (h : Re w p v e) : ∃ g c, v = .slice g e.n c := by
  rcases h.2.1.form with ⟨rfl, h0⟩ | ⟨g, cap, cur, rfl, -⟩
  · have := congrArg List.length h0
    simp at this
    exact ⟨none, 0, by rw [this]⟩
  · exact ⟨_, _, by simp; exact ⟨rfl, rfl⟩⟩

/-- Another range stored. -/
theorem Re.span {w : World} {p : Nat} {v : Value} {e : Enc} (h : Re w p v e) (r : Nat) : Re (w.setCell ⟨p, 1, none⟩ (.int .i64 (r : Int))) p v ⟨e.v, e.n, r⟩ := by
  refine ⟨?_, h.2.1.fr (S := [p]) ((Fr.refl _ _).setCell (.inl (by simp)) _) (fun k hk hm => ?_), h.2.2⟩
  · have := h.1.set_ 1 (.int .i64 (r : Int))
    simpa using this
  · simp at hm; subst hm; exact h.2.2 hk

theorem ReFr.refl (p : Nat) (v : Value) (w : World) : ReFr p v v w w := ⟨Fr.refl _ _, .inl rfl⟩
theorem ReFr.own {p : Nat} {v : Value} {w w' : World} (h : Fr (p :: v.ownBlock.toList) w w') : ReFr p v v w w' := ⟨h, .inl rfl⟩

set_option maxRecDepth 100000 in
set_option maxHeartbeats 4000000 in
theorem rput_ok (p : Nat) (v : Value) (e : Enc) (c : Nat) (bit : Bool) (w : World) (h : Re w p v e) (he : e.Ok) (hc : rightC c) (hn : e.n ≤ 1000000) :
    Calls Try.prog 59 #[.pointer (some ⟨p, 0, none⟩), .int .i64 (c : Int), .int .i64 (bit.toNat : Int)] w fun e' w' => e' = .returned (.int .i64 0) ∧ ∃ v', Re w' p v' (encPut e c bit) ∧ ReFr p v v' w w' := by
  have e0 : decide (rightC c) = true := decide_eq_true hc
  have HC := Lib.hid (rright_any c w)
  obtain ⟨B, hB⟩ : ∃ B, B = bnd e.r c := ⟨_, rfl⟩
  have hb1 := bnd_lo he.lo hc
  have hb2 := bnd_hi he.lo hc
  have hr2 := he.hi
  rw [← hB] at hb1 hb2
  have eB : (e.r : Int) / 2048 * (c : Int) = (B : Int) := by rw [hB]; unfold bnd; simp
  have hfit := he.fit
  obtain ⟨E1, hE1⟩ : ∃ E1, E1 = encBit e c bit := ⟨_, rfl⟩
  have hpo : (encScale E1).Ok := by rw [hE1]; exact encPut_ok he hc bit
  have hpo := Lib.hid hpo
  have hE2 : encScale E1 = encPut e c bit := by rw [hE1]; rfl
  have HE2 := Lib.hid hE2
  have hEn : E1.n ≤ 1000000 := by rw [hE1, (encBit_facts he hc bit).1]; exact hn
  have h1 := h.1.cell 1
  have h1f := h.1.frozen 1
  have hlt := h.1.lt
  simp at h1
  obtain ⟨R, hR⟩ : ∃ R, R = e.r := ⟨_, rfl⟩
  have H := Lib.hid h
  cases bit
  · have h3 : Re (w.setCell ⟨p, 1, none⟩ (.int .i64 (B : Int))) p v E1 := by
      have := H.out.span B
      rw [hE1, hB]
      rw [hB] at this
      exact this
    rw [← hR] at eB h1 hb2 hr2
    have hF3 : ReFr p v v w (w.setCell ⟨p, 1, none⟩ (.int .i64 (B : Int))) := ReFr.own ((Fr.refl (p :: v.ownBlock.toList) w).setCell (p := ⟨p, 1, none⟩) (.inl (by simp)) (.int .i64 (B : Int)))
    have HB := Lib.hid hB
    have HR := Lib.hid hR
    clear h hB hR hc he hE1 hE2
    go_enter Try.func59, Try.ntmps59
    go_wp2_with fail
    refine HC.out.mono ?_
    rintro e1 w' ⟨rfl, rfl⟩
    rw [e0]
    clear HC e0
    have H3' := Lib.hid h3; clear h3
    have HF3' := Lib.hid hF3; clear hF3
    go_wp2_with fail
    have h3 := H3'.out
    have hF3 := HF3'.out
    have HF3 := Lib.hid hF3; clear hF3
    have H3 := Lib.hid h3; clear h3
    go_loopw [50] (fun _ wr => ∃ (u : Value) (f : Enc), (f = E1 ∨ f = encScale E1) ∧ Re wr p u f ∧ ReFr p v u w' wr) (fun _ wr => 4294967296 - (intOf ((wr.cell? ⟨p, 1, none⟩).getD undef)).toNat)
    case atStart => exact ⟨v, E1, .inl rfl, H3.out, HF3.out⟩
    case round =>
      obtain ⟨u, f, hf, hR, hF⟩ := hrel
      have Hf := Lib.hid hf; clear hf
      have HF := Lib.hid hF; clear hF
      have c1 := hR.1.cell 1
      have f1 := hR.1.frozen 1
      have hl := hR.1.lt
      simp at c1
      obtain ⟨r, hr⟩ : ∃ r, r = f.r := ⟨_, rfl⟩
      rw [← hr] at c1
      have Hr := Lib.hid hr; clear hr
      have HRe := Lib.hid hR; clear hR
      by_cases hlt2 : r < 16777216
      · have eg : decide ((r : Int) < 16777216) = true := by simp; omega
        have hfe : f = E1 := by
          rcases Hf.out with h0 | h0
          · exact h0
          · have := hpo.out.lo
            rw [← h0, ← Hr.out] at this
            omega
        obtain ⟨M, hM⟩ : ∃ M, M = r * 256 := ⟨_, rfl⟩
        have eM : 256 * (r : Int) = (M : Int) := by omega
        have hMr : r < M ∧ M ≤ 4294967295 := by
          have h0 := hpo.out.lo
          rw [← hfe, encScale_more (by rw [← Hr.out]; exact hlt2), ← Hr.out] at h0
          simp only at h0
          omega
        have h4 := HRe.out.span M
        obtain ⟨g, cc, hu⟩ := HRe.out.form
        have c0 := h4.1.cell 0
        simp at c0
        have hl4 := h4.1.lt
        generalize hW4 : wr.setCell ⟨p, 1, none⟩ (.int .i64 (M : Int)) = w4 at h4 c0 hl4
        have hF4 : Fr [p] wr w4 := by rw [← hW4]; exact (Fr.refl _ _).setCell (.inl (by simp)) _
        have HW4 := Lib.hid hW4; clear hW4
        have HM := Lib.hid hM; clear hM
        have HMr := Lib.hid hMr; clear hMr
        have H4 := Lib.hid h4; clear h4
        have HF4 := Lib.hid hF4; clear hF4
        have hns : f.n ≤ 1000000 := by rw [hfe]; exact hEn
        have Hfe := Lib.hid hfe; clear hfe
        have Hu := Lib.hid hu; clear hu
        go_upto_region 11 with fail
        rw [HW4.out]
        have Hc1 := Lib.hid c1
        clear c1 f1 eM
        rw [Hu.out] at c0
        rw [Hu.out] at H4 HRe HF
        clear Hu
        go_wp2_with (at_builtin; go_loud (refine wp_append_int _ _ (.slice g f.n cc) (bytesOf f.n f.v) (.slice (some ⟨w4.heap.size, 0, none⟩) 1 1) [0] rfl rfl rfl rfl (H4.out.2.1.alloc _) (Src.one (by simp [go_sem]; rfl)) (by simp; omega) ?_))
        intro v5' w5 hO5 hG5
        obtain ⟨g5', cap5, hv5, -, -, -, -⟩ := hO5.last (i := f.n) (by simp)
        obtain ⟨v5, hv5'⟩ : ∃ v5, v5 = Value.slice (some ⟨g5', 0, none⟩) (f.n + 1) cap5 := ⟨_, rfl⟩
        rw [hv5, ← hv5'] at hO5 hG5
        rw [hv5]
        have hB5 := (H4.out.1.alloc (.cells #[.int .i64 0] 3)).fr hG5.1 (not_own H4.out.2.2)
        have k0 := hB5.cell 0
        have k1 := hB5.frozen 0
        have k2 := hB5.lt
        simp at k0
        have hR5 : Re (w5.setCell ⟨p, 0, none⟩ v5) p v5 (encScale E1) := by
          have hne : v5.ownBlock ≠ some p := by
            rcases hG5.2 with e | ⟨g5, e, hg⟩
            · rw [e]; exact H4.out.2.2
            · rw [e]; intro h; injection h with h; simp at hg; omega
          rw [← Hfe.out, encScale_more (by rw [← Hr.out]; exact hlt2), ← Hr.out, ← HM.out]
          refine ⟨?_, ?_, hne⟩
          · have := hB5.set_ 0 v5
            simpa using this
          · rw [bytesOf_zero, List.map_append]
            exact hO5.fr (S := [p]) ((Fr.refl _ _).setCell (.inl (by simp)) _) (fun k hk hm => by simp at hm; subst hm; exact hne hk)
        have hF5 : ReFr p v v5 w' (w5.setCell ⟨p, 0, none⟩ v5) := by
          obtain ⟨q1, q2⟩ := HF.out
          have q0 : ∀ k, (Value.slice g f.n cc).ownBlock = some k → k ∈ p :: v.ownBlock.toList ∨ w'.heap.size ≤ k := by
            intro k hk
            rcases q2 with e | ⟨g5, e, hg⟩
            · rw [e] at hk; exact .inl (by simp [hk])
            · rw [e] at hk; injection hk with hk; subst hk; exact .inr hg
          refine ⟨?_, ?_⟩
          · refine ((((q1.trans HF4.out (by simp)).alloc _).trans hG5.1 (fun x hx => q0 x (by simpa using hx)))).setCell (.inl (by simp)) _
          · have hs := q1.size
            have hs4 := HF4.out.size
            rcases hG5.2 with e | ⟨g5, e, hg⟩
            · rw [e]; exact q2
            · exact .inr ⟨g5, e, by simp at hg; omega⟩
        have H5 := Lib.hid hR5; clear hR5
        have HF5 := Lib.hid hF5; clear hF5 hO5 hG5
        have hm5 : (w5.setCell ⟨p, 0, none⟩ v5).cell? ⟨p, 1, none⟩ = some (.int .i64 (M : Int)) := by
          have := (hB5.set_ 0 v5).cell 1
          simpa using this
        have Hm5 := Lib.hid hm5; clear hm5 hB5
        have HL2 := Lib.hid hlt2; clear hlt2 hv5
        subst hv5'
        go_wp2_with fail
        refine ⟨⟨_, encScale E1, .inr rfl, H5.out, HF5.out⟩, ?_⟩
        rw [Hm5.out, Hc1.out]
        have := HMr.out
        simp only [intOf, Option.getD_some]
        omega
      · have eg : decide ((r : Int) < 16777216) = false := by simp; omega
        have hfe : f = encScale E1 := by
          rcases Hf.out with h0 | h0
          · rw [h0, encScale_same]
            rw [← h0, ← Hr.out]; exact hlt2
          · exact h0
        have Hfe := Lib.hid hfe; clear hfe
        clear hlt2
        go_wp2_with fail
        go_ret
        exact ⟨rfl, u, by rw [← HE2.out, ← Hfe.out]; exact HRe.out, HF.out⟩
  · have hadd := radd_any p v e B w h (by omega) (by omega) (by omega)
    rw [← hR] at eB h1 hb2 hr2
    have HAdd := Lib.hid hadd; clear hadd
    have HB := Lib.hid hB
    have HR := Lib.hid hR
    have HE1 := Lib.hid hE1
    clear h hB hR hc he hE1 hE2
    go_enter Try.func59, Try.ntmps59
    go_wp2_with fail
    refine HC.out.mono ?_
    rintro e1 w' ⟨rfl, rfl⟩
    rw [e0]
    clear HC e0
    go_wp2_with fail
    refine HAdd.out.mono ?_
    rintro e1 w2 ⟨rfl, hR2, hF2⟩
    obtain ⟨S, hS⟩ : ∃ S, S = R - B := ⟨_, rfl⟩
    have eS : (R : Int) - (B : Int) = (S : Int) := by omega
    have c1 := hR2.1.cell 1
    have f1 := hR2.1.frozen 1
    simp at c1
    rw [← HR.out] at c1
    have h3 : Re (w2.setCell ⟨p, 1, none⟩ (.int .i64 (S : Int))) p v E1 := by
      have := hR2.span S
      rw [HE1.out]
      unfold encBit
      rw [if_pos rfl, ← HB.out, ← HR.out, ← hS]
      exact this
    have hF3 : ReFr p v v w' (w2.setCell ⟨p, 1, none⟩ (.int .i64 (S : Int))) := ReFr.own ((hF2.mono (S' := p :: v.ownBlock.toList) (fun x hx => .inl (List.mem_cons_of_mem _ hx))).setCell (.inl (by simp)) _)
    have H3' := Lib.hid h3; clear h3
    have HF3' := Lib.hid hF3; clear hF3
    have HS := Lib.hid hS; clear hS hR2 hF2 h1 h1f
    go_wp2_with fail
    have h3 := H3'.out
    have hF3 := HF3'.out
    have HF3 := Lib.hid hF3; clear hF3
    have H3 := Lib.hid h3; clear h3
    go_loopw [50] (fun _ wr => ∃ (u : Value) (f : Enc), (f = E1 ∨ f = encScale E1) ∧ Re wr p u f ∧ ReFr p v u w' wr) (fun _ wr => 4294967296 - (intOf ((wr.cell? ⟨p, 1, none⟩).getD undef)).toNat)
    case atStart => exact ⟨v, E1, .inl rfl, H3.out, HF3.out⟩
    case round =>
      obtain ⟨u, f, hf, hR, hF⟩ := hrel
      have Hf := Lib.hid hf; clear hf
      have HF := Lib.hid hF; clear hF
      have c1 := hR.1.cell 1
      have f1 := hR.1.frozen 1
      have hl := hR.1.lt
      simp at c1
      obtain ⟨r, hr⟩ : ∃ r, r = f.r := ⟨_, rfl⟩
      rw [← hr] at c1
      have Hr := Lib.hid hr; clear hr
      have HRe := Lib.hid hR; clear hR
      by_cases hlt2 : r < 16777216
      · have eg : decide ((r : Int) < 16777216) = true := by simp; omega
        have hfe : f = E1 := by
          rcases Hf.out with h0 | h0
          · exact h0
          · have := hpo.out.lo
            rw [← h0, ← Hr.out] at this
            omega
        obtain ⟨M, hM⟩ : ∃ M, M = r * 256 := ⟨_, rfl⟩
        have eM : 256 * (r : Int) = (M : Int) := by omega
        have hMr : r < M ∧ M ≤ 4294967295 := by
          have h0 := hpo.out.lo
          rw [← hfe, encScale_more (by rw [← Hr.out]; exact hlt2), ← Hr.out] at h0
          simp only at h0
          omega
        have h4 := HRe.out.span M
        obtain ⟨g, cc, hu⟩ := HRe.out.form
        have c0 := h4.1.cell 0
        simp at c0
        have hl4 := h4.1.lt
        generalize hW4 : wr.setCell ⟨p, 1, none⟩ (.int .i64 (M : Int)) = w4 at h4 c0 hl4
        have hF4 : Fr [p] wr w4 := by rw [← hW4]; exact (Fr.refl _ _).setCell (.inl (by simp)) _
        have HW4 := Lib.hid hW4; clear hW4
        have HM := Lib.hid hM; clear hM
        have HMr := Lib.hid hMr; clear hMr
        have H4 := Lib.hid h4; clear h4
        have HF4 := Lib.hid hF4; clear hF4
        have hns : f.n ≤ 1000000 := by rw [hfe]; exact hEn
        have Hfe := Lib.hid hfe; clear hfe
        have Hu := Lib.hid hu; clear hu
        go_upto_region 11 with fail
        rw [HW4.out]
        have Hc1 := Lib.hid c1
        clear c1 f1 eM
        rw [Hu.out] at c0
        rw [Hu.out] at H4 HRe HF
        clear Hu
        go_wp2_with (at_builtin; go_loud (refine wp_append_int _ _ (.slice g f.n cc) (bytesOf f.n f.v) (.slice (some ⟨w4.heap.size, 0, none⟩) 1 1) [0] rfl rfl rfl rfl (H4.out.2.1.alloc _) (Src.one (by simp [go_sem]; rfl)) (by simp; omega) ?_))
        intro v5' w5 hO5 hG5
        obtain ⟨g5', cap5, hv5, -, -, -, -⟩ := hO5.last (i := f.n) (by simp)
        obtain ⟨v5, hv5'⟩ : ∃ v5, v5 = Value.slice (some ⟨g5', 0, none⟩) (f.n + 1) cap5 := ⟨_, rfl⟩
        rw [hv5, ← hv5'] at hO5 hG5
        rw [hv5]
        have hB5 := (H4.out.1.alloc (.cells #[.int .i64 0] 3)).fr hG5.1 (not_own H4.out.2.2)
        have k0 := hB5.cell 0
        have k1 := hB5.frozen 0
        have k2 := hB5.lt
        simp at k0
        have hR5 : Re (w5.setCell ⟨p, 0, none⟩ v5) p v5 (encScale E1) := by
          have hne : v5.ownBlock ≠ some p := by
            rcases hG5.2 with e | ⟨g5, e, hg⟩
            · rw [e]; exact H4.out.2.2
            · rw [e]; intro h; injection h with h; simp at hg; omega
          rw [← Hfe.out, encScale_more (by rw [← Hr.out]; exact hlt2), ← Hr.out, ← HM.out]
          refine ⟨?_, ?_, hne⟩
          · have := hB5.set_ 0 v5
            simpa using this
          · rw [bytesOf_zero, List.map_append]
            exact hO5.fr (S := [p]) ((Fr.refl _ _).setCell (.inl (by simp)) _) (fun k hk hm => by simp at hm; subst hm; exact hne hk)
        have hF5 : ReFr p v v5 w' (w5.setCell ⟨p, 0, none⟩ v5) := by
          obtain ⟨q1, q2⟩ := HF.out
          have q0 : ∀ k, (Value.slice g f.n cc).ownBlock = some k → k ∈ p :: v.ownBlock.toList ∨ w'.heap.size ≤ k := by
            intro k hk
            rcases q2 with e | ⟨g5, e, hg⟩
            · rw [e] at hk; exact .inl (by simp [hk])
            · rw [e] at hk; injection hk with hk; subst hk; exact .inr hg
          refine ⟨?_, ?_⟩
          · refine ((((q1.trans HF4.out (by simp)).alloc _).trans hG5.1 (fun x hx => q0 x (by simpa using hx)))).setCell (.inl (by simp)) _
          · have hs := q1.size
            have hs4 := HF4.out.size
            rcases hG5.2 with e | ⟨g5, e, hg⟩
            · rw [e]; exact q2
            · exact .inr ⟨g5, e, by simp at hg; omega⟩
        have H5 := Lib.hid hR5; clear hR5
        have HF5 := Lib.hid hF5; clear hF5 hO5 hG5
        have hm5 : (w5.setCell ⟨p, 0, none⟩ v5).cell? ⟨p, 1, none⟩ = some (.int .i64 (M : Int)) := by
          have := (hB5.set_ 0 v5).cell 1
          simpa using this
        have Hm5 := Lib.hid hm5; clear hm5 hB5
        have HL2 := Lib.hid hlt2; clear hlt2 hv5
        subst hv5'
        go_wp2_with fail
        refine ⟨⟨_, encScale E1, .inr rfl, H5.out, HF5.out⟩, ?_⟩
        rw [Hm5.out, Hc1.out]
        have := HMr.out
        simp only [intOf, Option.getD_some]
        omega
      · have eg : decide ((r : Int) < 16777216) = false := by simp; omega
        have hfe : f = encScale E1 := by
          rcases Hf.out with h0 | h0
          · rw [h0, encScale_same]
            rw [← h0, ← Hr.out]; exact hlt2
          · exact h0
        have Hfe := Lib.hid hfe; clear hfe
        clear hlt2
        go_wp2_with fail
        go_ret
        exact ⟨rfl, u, by rw [← HE2.out, ← Hfe.out]; exact HRe.out, HF.out⟩
end Go.Proofs.Ytfjlepnodmeaaaa
