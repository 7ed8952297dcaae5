/-
  The law GolombReads answers true whatever its input, and leaves its arguments as they were; no condition.
-/
import Derived.Test.YtpdmjgcheigooaaGolA
import Derived.Test.YtpdmjgcheigooaaSrc
import Derived.Test.YtpdmjgcheigooaaRow
import Derived.Deep.DeepCutAuto
namespace Go.Proofs.Ytpdmjgcheigooaa
open Go.ChangeShapes Go.WideShapes Go.ChangeAt Go.RowKit

/-- The reader and the document's have the bytes bs and are at bit a; they lie apart, in memory that is new since w0. -/
structure GReads (w0 w : World) (p : Nat) (v : Value) (q : Nat) (u : Value) (bs : List UInt8) (a b : Nat) : Prop where
  a : Rd w p v bs a
  b : Rr w q u (rowOf bs) b
  sep : Sep p v q u
  np : w0.heap.size ≤ p
  nq : w0.heap.size ≤ q
  fr : Fr [] w0 w

section
variable {w0 w w' : World} {p q : Nat} {v u : Value} {bs : List UInt8} {a b a2 b2 : Nat}
theorem g_one_out {p q : Nat} {v u : Value} (h : Sep p v q u) : q ∉ [p] ∧ ∀ k, u.ownBlock = some k → k ∉ [p] := by
  refine ⟨by simp; exact h.1.symm, fun k hk hm => ?_⟩
  simp at hm; subst hm; exact h.2.1 hk
theorem GReads.fr0 (h : GReads w0 w p v q u bs a b) (hf : Fr [] w w') : GReads w0 w' p v q u bs a b :=
  ⟨h.a.fr hf (by simp) (by simp), h.b.fr hf (by simp) (by simp), h.sep, h.np, h.nq, h.fr.trans hf (by simp)⟩
theorem GReads.stepA (h : GReads w0 w p v q u bs a b) (hf : Fr [p] w w') (hA : Rd w' p v bs a2) : GReads w0 w' p v q u bs a2 b :=
  ⟨hA, h.b.fr hf (g_one_out h.sep).1 (g_one_out h.sep).2, h.sep, h.np, h.nq, h.fr.trans hf (by intro x hx; simp at hx; subst hx; exact .inr h.np)⟩
theorem GReads.stepB (h : GReads w0 w p v q u bs a b) (hf : Fr [q] w w') (hB : Rr w' q u (rowOf bs) b2) : GReads w0 w' p v q u bs a b2 :=
  ⟨h.a.fr hf (g_one_out h.sep.symm).1 (g_one_out h.sep.symm).2, hB, h.sep, h.np, h.nq, h.fr.trans hf (by intro x hx; simp at hx; subst hx; exact .inr h.nq)⟩
end

theorem greads_long (Ab A : Option Addr) (n cb len cap : Nat) (w : World) (hn : 300 < n) (hnm : n ≤ 9223372036854775807) :
    Calls Try.prog 5 #[.slice Ab n cb, .slice A len cap] w fun e w' => e = .returned (.bool true) ∧ Fr [] w w' := by
  go_enter Try.func5, Try.ntmps5
  go_wp2_with fail
  refine (alive2_any w).mono ?_
  rintro e w3 ⟨rfl, hF3⟩
  go_wp2_with fail
  go_ret
  exact ⟨rfl, hF3⟩

set_option maxRecDepth 100000 in
set_option maxHeartbeats 4000000 in
theorem greads_any (Ab A : Option Addr) (n cb len cap : Nat) (bs : List UInt8) (sg : List Bool) (w : World) (hb : Src w (.slice Ab n cb) (bs.map B8)) (hn : bs.length = n) (hA : Src w (.slice A len cap) (sg.map Value.bool)) (hsl : sg.length = len) (hm : len ≤ 9223372036854775807) (h300 : n ≤ 300) :
    Calls Try.prog 5 #[.slice Ab n cb, .slice A len cap] w fun e w' => e = .returned (.bool true) ∧ Fr [] w w' := by
  have Hn := Lib.hid hn; clear hn
  have HS := Lib.hid hb; clear hb
  have HA := Lib.hid hA; clear hA
  have Hsl := Lib.hid hsl; clear hsl
  go_enter Try.func5, Try.ntmps5
  go_wp2_with fail
  refine (open_any _ bs w HS.out (by rw [Hn.out]; omega)).mono ?_
  rintro e w1 ⟨p, v, rfl, hR1, hF1, hp1, hv1⟩
  have HR1 := Lib.hid hR1; clear hR1
  have Hv1 := Lib.hid hv1; clear hv1
  go_wp2_with fail
  refine (ropen_any _ bs w1 (HS.out.fr0 hF1) (by rw [Hn.out]; omega)).mono ?_
  rintro e w2 ⟨q, u, rfl, hR2, hF2, hq2, hu2⟩
  have hI : GReads w w2 p v q u bs 0 0 := by
    have h1 := HR1.out.lt
    have h2 := HR1.out.lt2
    refine ⟨HR1.out.fr hF2 (by simp) (by simp), hR2, ⟨by omega, fun h => by have := hu2 _ h; omega, fun h => by have := h2 _ h; omega, fun k hk hk2 => by have := h2 _ hk; have := hu2 _ hk2; omega⟩, hp1, by have := hF1.size; omega, hF1.trans hF2 (by simp)⟩
  have hbl : bs.length ≤ 300 := by rw [Hn.out]; exact h300
  have HI := Lib.hid hI
  clear hI hR2 hF1 hF2 hp1 hq2 hu2 HR1 Hv1
  go_wp2_with fail
  go_loopw [7] (fun s7 wr => ∃ (i a : Nat), i ≤ len ∧ i ≤ 100 ∧ s7 = .int .i64 (i : Int) ∧ GReads w wr p v q u bs a a) (fun s7 _ => 100 - (intOf s7).toNat)
  case atStart => exact ⟨0, 0, by omega, by omega, rfl, HI.out⟩
  case round =>
    obtain ⟨i, a, hi1, hi2, rfl, hB⟩ := hrel
    by_cases hlt : i < len ∧ i < 100
    · obtain ⟨hlt1, hlt2⟩ := hlt
      obtain ⟨s, hs⟩ : ∃ x, sg[i]? = some x := ⟨_, List.getElem?_eq_getElem (by have := Hsl.out; omega)⟩
      obtain ⟨ad, rfl, c0⟩ := (HA.out.fr0 hB.fr).cellAt hs
      have HB := Lib.hid hB; clear hB hs
      have eg : decide (i < len) = true := by simpa using hlt1
      have eg2 : decide ((i : Int) < 100) = true := by simp; omega
      cases s
      · have HG := Lib.hid (gget_total p v bs a wr HB.out.a (by omega))
        generalize hg : gget (rowOf bs) a = g at HG
        have Hg := Lib.hid hg; clear hg
        obtain ⟨x, E, a2⟩ := g
        simp only at HG
        go_wp2_with fail
        refine HG.out.mono ?_
        rintro e w3 ⟨rfl, hA3, fA⟩
        have hB3 := HB.out.stepA fA hA3
        have hR := rgget_total q u (rowOf bs) a w3 hB3.b (by simp; omega)
        rw [Hg.out] at hR
        have HR := Lib.hid hR
        have HB3 := Lib.hid hB3
        clear HG hR hB3 hA3 fA HB c0
        go_wp2_with fail
        refine HR.out.mono ?_
        rintro e w4 ⟨rfl, hB4, fB⟩
        have hG4 := HB3.out.stepB fB hB4
        have HG4 := Lib.hid hG4
        clear hG4 HR HB3 hB4 fB
        have eE : (E != E) = false := by simp
        have k1 := HG4.out.b.1.cell 1
        have k2 := HG4.out.b.lt
        simp at k1
        have HAt := fun n => Lib.hid (at_any (w4.drewN n) p v bs a2 (HG4.out.a.fr ((Fr.refl [] _).drewN n) (by simp) (by simp)))
        go_upto_region 17 with fail
        go_quiet (exact (HAt _).out.mono fun _ _ x => ⟨x.1, _, x.2⟩)
        go_wp2_with fail
        go_roundw
        case rel => exact ⟨i + 1, a2, by omega, by omega, by go_num, HG4.out.fr0 ((Fr.refl _ _).drewN _)⟩
        case measure => simp [intOf]; omega
      · have HG := Lib.hid (ggetS_total p v bs a wr HB.out.a (by omega))
        generalize hg : ggetS (rowOf bs) a = g at HG
        have Hg := Lib.hid hg; clear hg
        obtain ⟨x, E, a2⟩ := g
        simp only at HG
        go_wp2_with fail
        refine HG.out.mono ?_
        rintro e w3 ⟨rfl, hA3, fA⟩
        have hB3 := HB.out.stepA fA hA3
        have hR := rggetS_total q u (rowOf bs) a w3 hB3.b (by simp; omega)
        rw [Hg.out] at hR
        have HR := Lib.hid hR
        have HB3 := Lib.hid hB3
        clear HG hR hB3 hA3 fA HB c0
        go_wp2_with fail
        refine HR.out.mono ?_
        rintro e w4 ⟨rfl, hB4, fB⟩
        have hG4 := HB3.out.stepB fB hB4
        have HG4 := Lib.hid hG4
        clear hG4 HR HB3 hB4 fB
        have eE : (E != E) = false := by simp
        have eX : (x != x) = false := by simp
        have k1 := HG4.out.b.1.cell 1
        have k2 := HG4.out.b.lt
        simp at k1
        have HAt := fun n => Lib.hid (at_any (w4.drewN n) p v bs a2 (HG4.out.a.fr ((Fr.refl [] _).drewN n) (by simp) (by simp)))
        go_upto_region 17 with fail
        go_quiet (exact (HAt _).out.mono fun _ _ x => ⟨x.1, _, x.2⟩)
        go_wp2_with fail
        go_roundw
        case rel => exact ⟨i + 1, a2, by omega, by omega, by go_num, HG4.out.fr0 ((Fr.refl _ _).drewN _)⟩
        case measure => simp [intOf]; omega
    · have HB := Lib.hid hB; clear hB
      by_cases hlt1 : i < len
      · obtain rfl : i = 100 := by omega
        have eg : decide ((100 : Int) < (len : Int)) = true := by simp; omega
        go_wp2_with fail
        refine (alive2_any wr).mono ?_
        rintro e w3 ⟨rfl, hF3⟩
        go_wp2_with fail
        go_ret
        exact ⟨rfl, HB.out.fr.trans hF3 (by simp)⟩
      · obtain rfl : i = len := by omega
        have eg : decide (i < i) = false := by simp
        go_wp2_with fail
        refine (alive2_any wr).mono ?_
        rintro e w3 ⟨rfl, hF3⟩
        go_wp2_with fail
        go_ret
        exact ⟨rfl, HB.out.fr.trans hF3 (by simp)⟩

set_option maxRecDepth 100000 in
theorem greads_lifted (os : Os) (started : os.Started) (H : Type) (enc : TypeId × Value → H) :
    ReturnsInHanded {} Try.checked os 5 .any (Rows.golombReadsSpec.pre6 enc Try.prog Try.f5 Rows.golombReadsRow.domain false) (Rows.golombReadsSpec.post enc Try.prog Try.f5 false true false false) := by
  refine law_lift (C := Try.checked) own_knob started (by kernel_rfl) Try.func5
    (ChangeSpec.witness6 (enc := enc) (C := Try.checked) false ⟨#[], #[.slice none 0 0, .slice none 0 0], []⟩ 8 (by kernel_rfl) (by kernel_rfl) (by kernel_rfl) (by kernel_rfl))
    laid_out rfl rfl Try.underlying4 (of_decide_eq_true (by kernel_rfl)) ?_
  intro W base args ds before hval0 hA0 hlt
  have hval : ∀ (j : Nat) t v, Try.f5.params[j]? = some t → args[j]? = some v → Value.okWide Try.prog W .any base t v := hval0
  have hA : DataW.TrodAll enc Try.prog W 0 (fun _ => true) true Try.f5.params.toList args.toList ds before := hA0
  rw [Try.params5] at hA hval
  obtain ⟨v0, v1, d0, d1, p0, p1, rfl, rfl, -, ⟨fuel0, h0⟩, ⟨fuel1, h1⟩⟩ := trodAll_two hA
  obtain ⟨A0, l0, c0, rfl⟩ := okWide_slice Try.underlying23 (hval 0 _ _ rfl rfl)
  obtain ⟨A1, l1, c1, rfl⟩ := okWide_slice Try.underlying46 (hval 1 _ _ rfl rfl)
  obtain ⟨A, n, c, bs, e, hbl, hn, hs⟩ := open_bytes (v := .slice A0 l0 c0) h0
  obtain ⟨B, len, cap, sg, e2, hsl, hm, hs2⟩ := open_bools' (v := .slice A1 l1 c1) h1
  rw [e, e2]
  simp only [maxLen] at hn hm
  refine ⟨rfl, ?_⟩
  by_cases h300 : 300 < n
  · exact (greads_long A B n c len cap W h300 (by omega)).mono fun e W' ⟨he, hf⟩ => ⟨he, hf.below (by simp) (Nat.le_refl _)⟩
  · exact (greads_any A B n c len cap bs sg W hs hbl hs2 hsl (by omega) (by omega)).mono fun e W' ⟨he, hf⟩ => ⟨he, hf.below (by simp) (Nat.le_refl _)⟩

theorem greads_holds : Rows.GolombReadsSaid :=
  OpenClaim.holds_of_wide 5 Try.f5 rfl rfl rfl rfl rfl rfl rfl ⟨rfl, rfl, rfl, rfl, rfl⟩ rfl rfl rfl rfl rfl (by kernel_rfl) Try.func5 (by kernel_rfl)
    (of_decide_eq_true (by kernel_rfl)) (by unfold Func.isWrapper; first | (rw [if_pos (by decide +kernel)]; kernel_rfl) | (rw [if_neg (by decide +kernel)]; exact ⟨rfl, rfl⟩))
    (fun os started H enc _ => greads_lifted os started H enc)
#print axioms greads_holds
end Go.Proofs.Ytpdmjgcheigooaa
