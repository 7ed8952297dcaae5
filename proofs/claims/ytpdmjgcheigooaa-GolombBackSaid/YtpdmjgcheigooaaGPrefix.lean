/-
  The law GolombPrefix answers true whatever its input, and leaves its arguments as they were; no condition.
-/
import Derived.Test.YtpdmjgcheigooaaGTells
namespace Go.Proofs.Ytpdmjgcheigooaa
open Go.ChangeShapes Go.WideShapes Go.ChangeAt Go.RowKit

theorem Wr.far {w w' : World} {p q : Nat} {v u u' : Value} {L : List Bool} (h : Wr w p v L) (hw : WFr q u u' w w') (hs : Sep q u p v) : Wr w' p v L := h.fr hw.1 hs.out.1 hs.out.2

theorem row_take {bs : List UInt8} {l : List Bool} (h : PackOf bs l) (n : Nat) (hn : n ≤ l.length) : ((rowOf bs).drop 0).take n = l.take n := by
  have hb := h.1
  rw [List.drop_zero]
  apply ext_getD (by simp; omega)
  intro j
  have hj := h.2 j
  rw [← rowOf_getD] at hj
  by_cases hjn : j < n
  · simpa [List.getD_eq_getElem?_getD, hjn] using hj
  · rw [List.getD_eq_getElem?_getD, List.getD_eq_getElem?_getD, List.getElem?_take, List.getElem?_take, if_neg hjn, if_neg hjn]

theorem gprefix_out (a b : Nat) (w : World) (h : 4294967294 < a ∨ 4294967294 < b) :
    Calls Try.prog 7 #[.int .u64 (a : Int), .int .u64 (b : Int)] w fun e w' => e = .returned (.bool true) ∧ Fr [] w w' := by
  have HL := fun w => Lib.hid (glen_total a w)
  by_cases h1 : 4294967294 < a
  · have eg : glen a = 0 := if_pos h1
    rw [eg] at HL
    clear eg
    go_enter Try.func7, Try.ntmps7
    go_wp2_with fail
    refine (alive2_any _).mono ?_
    rintro e w3 ⟨rfl, hF⟩
    go_wp2_with fail
    refine (HL _).out.mono ?_
    rintro e w4 ⟨rfl, rfl⟩
    go_wp2_with fail
    go_ret
    exact ⟨rfl, hF⟩
  · have h2 : 4294967294 < b := by omega
    have h3 : a ≤ 4294967294 := by omega
    clear h
    go_enter Try.func7, Try.ntmps7
    go_wp2_with fail
    refine (alive2_any _).mono ?_
    rintro e w3 ⟨rfl, hF⟩
    go_wp2_with fail
    go_ret
    exact ⟨rfl, hF⟩

set_option maxHeartbeats 1000000 in
theorem gprefix_in (a b : Nat) (w : World) (ha : a ≤ 4294967294) (hb : b ≤ 4294967294) :
    Calls Try.prog 7 #[.int .u64 (a : Int), .int .u64 (b : Int)] w fun e w' => e = .returned (.bool true) ∧ Fr [] w w' := by
  have la := clen_le ha
  have lb := clen_le hb
  have pa := clen_pos a
  have pb := clen_pos b
  obtain ⟨n, hnA, hnB, hnor, hmin⟩ : ∃ n : Nat, n ≤ clen a ∧ n ≤ clen b ∧ (n = clen a ∨ n = clen b) ∧ (if clen b < clen a then (clen b : Int) else (clen a : Int)) = (n : Int) := by
    by_cases h : clen b < clen a
    · exact ⟨clen b, by omega, by omega, .inr rfl, by rw [if_pos h]⟩
    · exact ⟨clen a, by omega, by omega, .inl rfl, by rw [if_neg h]⟩
  obtain ⟨X, hX⟩ : ∃ X, X = number ((code a).take n) := ⟨_, rfl⟩
  obtain ⟨Y, hY⟩ : ∃ Y, Y = number ((code b).take n) := ⟨_, rfl⟩
  have hxy : ((X : Int) == (Y : Int)) = ((a : Int) == (b : Int)) := by
    by_cases hab : a = b
    · subst hab; simp [hX, hY]
    · have : ¬ X = Y := fun e => hab (code_prefix hnA hnB hnor (by rw [← hX, ← hY, e]))
      rw [beq_eq_false_iff_ne.2 (by omega), beq_eq_false_iff_ne.2 (by omega)]
  have hn1 : 1 ≤ n := by omega
  have hn64 : n ≤ 63 := by omega
  have Hor := Lib.hid hnor
  have HX := Lib.hid hX
  have HY := Lib.hid hY
  have Hxy := Lib.hid hxy
  clear hnor hX hY hxy
  go_enter Try.func7, Try.ntmps7
  go_wp2_with fail
  refine (new_any _).mono ?_
  rintro e w1 ⟨rfl, hw1⟩
  have hF1 : Fr [] w w1 := by rw [hw1]; exact (Fr.refl _ _).alloc _
  have hW1 : Wr w1 w.heap.size (.slice none 0 0) [] := by rw [hw1]; exact Wr.new w
  obtain ⟨p, hp⟩ : ∃ p, p = w.heap.size := ⟨_, rfl⟩
  have hsz : w1.heap.size = p + 1 := by rw [hw1, hp]; simp
  rw [← hp] at hW1 ⊢
  have Hp := Lib.hid hp
  have Hsz := Lib.hid hsz
  clear hw1 hp hsz
  go_wp2_with fail
  refine (new_any _).mono ?_
  rintro e w2 ⟨rfl, hw2⟩
  have hF2 : Fr [] w1 w2 := by rw [hw2]; exact (Fr.refl _ _).alloc _
  have hW2 : Wr w2 w1.heap.size (.slice none 0 0) [] := by rw [hw2]; exact Wr.new w1
  clear hw2
  rw [Hsz.out] at hW2 ⊢
  have hp := Hp.out
  have hF02 := hF1.trans hF2 (by simp)
  have hV1 := hW1.fr hF2 (by simp) (by simp)
  have hS0 : Sep p (.slice none 0 0) (p + 1) (.slice none 0 0) := ⟨by omega, by simp [Value.ownBlock], by simp [Value.ownBlock], by simp [Value.ownBlock]⟩
  have hNp : NewSince w p (.slice none 0 0) := ⟨by omega, by simp [Value.ownBlock]⟩
  have hNq : NewSince w (p + 1) (.slice none 0 0) := ⟨by omega, by simp [Value.ownBlock]⟩
  obtain ⟨q, hq⟩ : ∃ q, q = p + 1 := ⟨_, rfl⟩
  rw [← hq] at hW2 hS0 hNq ⊢
  clear hW1 hF1 hF2 hq hp Hp Hsz
  have HP := Lib.hid (gput_ok p _ [] a w2 hV1 ha (by simp))
  have HW2 := Lib.hid hW2
  clear hV1 hW2
  go_wp2_with fail
  refine HP.out.mono ?_
  rintro e w3 ⟨rfl, v3, hV3, hG3⟩
  have hU3 := HW2.out.far hG3 hS0
  have hS3 := hS0.step hG3 HW2.out.lt HW2.out.lt2
  obtain ⟨hF3, hN3⟩ := hG3.since hF02 hNp
  have HP2 := Lib.hid (gput_ok q _ [] b w3 hU3 hb (by simp))
  have HV3 := Lib.hid hV3
  clear HP HW2 hS0 hNp hF02 hG3 hU3 hV3
  go_wp2_with fail
  refine HP2.out.mono ?_
  rintro e w4 ⟨rfl, u4, hU4, hG4⟩
  have hV4 := HV3.out.far hG4 hS3.symm
  obtain ⟨hF4, hN4⟩ := hG4.since hF3 hNq
  simp only [List.nil_append] at hV4 hU4
  have hL1 := wlen_any w4 p v3 _ hV4
  have hL2 := wlen_any w4 q u4 _ hU4
  rw [code_length] at hL1 hL2
  have HL1 := Lib.hid hL1
  have HL2 := Lib.hid hL2
  have HV4 := Lib.hid hV4
  have HU4 := Lib.hid hU4
  clear HP2 HV3 hF3 hNq hG4 hV4 hU4 hL1 hL2 hN3 hS3
  go_wp2_with fail
  refine HL1.out.mono ?_
  rintro e w5 ⟨rfl, rfl⟩
  go_wp2_with fail
  refine HL2.out.mono ?_
  rintro e w6 ⟨rfl, rfl⟩
  have HB1 := Lib.hid (bytes_any _ p v3 _ HV4.out (by simp; omega))
  clear HL1 HL2
  go_wp2_with fail
  refine HB1.out.mono ?_
  rintro e w7 ⟨bs, hbs, c7, rfl, hO7, hF7⟩
  have hU7 := HU4.out.fr hF7 (by simp) (by simp)
  have HO := Lib.hid (open_any _ bs w7 hO7.src (by have := hbs.1; simp at this; omega))
  have HU7 := Lib.hid hU7
  have Hbs := Lib.hid hbs
  clear HB1 HU4 HV4 hU7 hbs hO7
  go_wp2_with fail
  refine HO.out.mono ?_
  rintro e w8 ⟨r, vr, rfl, hR8, hF8, hr, hvr⟩
  have hs := hF7.size
  have hru : r ≠ q ∧ ∀ k, u4.ownBlock = some k → k ∉ [r] := by
    have h1 := HU7.out.lt
    have h2 := HU7.out.lt2
    exact ⟨by omega, fun k hk => by have := h2 k hk; simp; omega⟩
  have hF4' := hF4.size
  have hrw : w.heap.size ≤ r := by omega
  have hG := get_ok r vr bs 0 n w8 hR8 (by have := Hbs.out.1; simp at this; omega) (by omega) (by have := Hbs.out.1; simp at this; omega)
  rw [row_take Hbs.out n (by simp; omega), ← HX.out] at hG
  have HG := Lib.hid hG
  have HU8 := Lib.hid (HU7.out.fr hF8 (by simp) (by simp))
  have hF8' := (hF4.trans hF7 (by simp)).trans hF8 (by simp)
  clear HO HU7 hG hR8 hF8 hF7 hF4 hF4' hr hvr hs Hbs
  go_wp2_with fail
  refine HG.out.mono ?_
  rintro e w9 ⟨rfl, hR9, hF9⟩
  have hF9' : Fr [] w w9 := hF8'.trans hF9 (by intro x hx; simp at hx; subst hx; exact .inr hrw)
  have hU9 := HU8.out.fr hF9 (by simpa using fun h => hru.1 h.symm) hru.2
  have HB2 := Lib.hid (bytes_any _ q u4 _ hU9 (by simp; omega))
  clear HG HU8 hF8' hF9 hR9 hU9 hru hrw
  go_wp2_with fail
  refine HB2.out.mono ?_
  rintro e w10 ⟨cs, hcs, c10, rfl, hO10, hF10⟩
  have HO := Lib.hid (open_any _ cs w10 hO10.src (by have := hcs.1; simp at this; omega))
  have Hcs := Lib.hid hcs
  have hF10' := hF9'.trans hF10 (by simp)
  clear HB2 hcs hO10 hF10 hF9'
  go_wp2_with fail
  refine HO.out.mono ?_
  rintro e w11 ⟨r2, vr2, rfl, hR11, hF11, hr2, -⟩
  have hs := hF10'.size
  have hrw : w.heap.size ≤ r2 := by omega
  have hG := get_ok r2 vr2 cs 0 n w11 hR11 (by have := Hcs.out.1; simp at this; omega) (by omega) (by have := Hcs.out.1; simp at this; omega)
  rw [row_take Hcs.out n (by simp; omega), ← HY.out] at hG
  have HG := Lib.hid hG
  have hF11' := hF10'.trans hF11 (by simp)
  clear HO hG hR11 hF11 hF10' hr2 hs Hcs
  go_wp2_with fail
  refine HG.out.mono ?_
  rintro e w12 ⟨rfl, -, hF12⟩
  have hF12' : Fr [] w w12 := hF11'.trans hF12 (by intro x hx; simp at hx; subst hx; exact .inr hrw)
  clear HG hF11' hF12 hrw
  go_wp2_with fail
  refine (alive2_any _).mono ?_
  rintro e w13 ⟨rfl, hF13⟩
  have hxy := Hxy.out
  have e1 : decide ((0 : Int) < (n : Int)) = true := by simp; omega
  have e2 : (((a : Int) == (b : Int)) == ((a : Int) == (b : Int))) = true := beq_self_eq_true _
  go_wp2_with fail
  go_ret
  exact ⟨rfl, hF12'.trans hF13 (by simp)⟩

set_option maxRecDepth 100000 in
theorem gprefix_lifted (os : Os) (started : os.Started) (H : Type) (enc : TypeId × Value → H) :
    ReturnsInHanded {} Try.checked os 7 .any (Rows.golombPrefixSpec.pre6 enc Try.prog Try.f7 Rows.golombPrefixRow.domain false) (Rows.golombPrefixSpec.post enc Try.prog Try.f7 false true false false) := by
  refine law_lift (C := Try.checked) own_knob started (by kernel_rfl) Try.func7
    (ChangeSpec.witness6 (enc := enc) (C := Try.checked) false ⟨#[], #[.int .u64 0, .int .u64 0], []⟩ 8 (by kernel_rfl) (by kernel_rfl) (by kernel_rfl) (by kernel_rfl))
    laid_out rfl rfl Try.underlying4 (of_decide_eq_true (by kernel_rfl)) ?_
  intro W base args ds before hval0 hA0 hlt
  have hval : ∀ (j : Nat) t v, Try.f7.params[j]? = some t → args[j]? = some v → Value.okWide Try.prog W .any base t v := hval0
  have hA : DataW.TrodAll enc Try.prog W 0 (fun _ => true) true Try.f7.params.toList args.toList ds before := hA0
  rw [Try.params7] at hA hval
  obtain ⟨v0, v1, d0, d1, p0, p1, rfl, rfl, -, h0, h1⟩ := trodAll_two hA
  obtain ⟨a, rfl, -, -, wa⟩ := open_int Try.underlying22 (hval 0 _ _ rfl rfl) h0
  obtain ⟨b, rfl, -, -, wb⟩ := open_int Try.underlying22 (hval 1 _ _ rfl rfl) h1
  obtain ⟨v, rfl, hv⟩ := u64_nat wa
  obtain ⟨u, rfl, hu⟩ := u64_nat wb
  refine ⟨rfl, ?_⟩
  by_cases h : 4294967294 < v ∨ 4294967294 < u
  · exact (gprefix_out v u W h).mono fun e W' ⟨he, hf⟩ => ⟨he, hf.below (by simp) (Nat.le_refl _)⟩
  · exact (gprefix_in v u W (by omega) (by omega)).mono fun e W' ⟨he, hf⟩ => ⟨he, hf.below (by simp) (Nat.le_refl _)⟩

theorem gprefix_holds : Rows.GolombPrefixSaid :=
  OpenClaim.holds_of_wide 7 Try.f7 rfl rfl rfl rfl rfl rfl rfl ⟨rfl, rfl, rfl, rfl, rfl⟩ rfl rfl rfl rfl rfl (by kernel_rfl) Try.func7 (by kernel_rfl)
    (of_decide_eq_true (by kernel_rfl)) (by unfold Func.isWrapper; first | (rw [if_pos (by decide +kernel)]; kernel_rfl) | (rw [if_neg (by decide +kernel)]; exact ⟨rfl, rfl⟩))
    (fun os started H enc _ => gprefix_lifted os started H enc)
#print axioms gprefix_holds
end Go.Proofs.Ytpdmjgcheigooaa
