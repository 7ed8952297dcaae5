/-
  The live question of layer 2: alive answers true, from any memory; no condition.
-/
import Derived.Test.YtpdmjgcheigooaaRef2b
namespace Go.Proofs.Ytpdmjgcheigooaa
open Go.RowKit

theorem code4 : code 4 = [false, false, true, false, true] := by decide +kernel
theorem code2 : code 2 = [false, true, true] := by decide +kernel
theorem alive2_bytes : PackOf [0x2B] (([] ++ code 4) ++ code 2) := by rw [code4, code2]; exact PackOf.of_eight (by decide) (by decide)
theorem alive2_put : gputS ([] ++ code 4) (-1) = (0, ([] ++ code 4) ++ code 2) := by
  unfold gputS
  rw [if_pos (by decide)]
  rfl
theorem alive2_get : gget (rowOf [0x2B]) 0 = (4, 0, 5) := by decide +kernel
theorem alive2_getS : ggetS (rowOf [0x2B]) 5 = (-1, 0, 8) := by decide +kernel
theorem alive2_len : clen 4294967294 = 63 := by decide +kernel

theorem alive2_any (w : World) :
    Calls Try.prog 12 #[] w fun e w' => e = .returned (.bool true) ∧ Fr [] w w' := by
  go_enter Try.func12, Try.ntmps12
  go_wp2_with fail
  refine (new_any w).mono ?_
  rintro e w1 ⟨rfl, hw1⟩
  have hF1 : Fr [] w w1 := by rw [hw1]; exact (Fr.refl _ _).alloc _
  have hW1 : Wr w1 w.heap.size (.slice none 0 0) [] := by rw [hw1]; exact Wr.new w
  have hN1 : NewSince w w.heap.size (.slice none 0 0) := ⟨Nat.le_refl _, by simp [Value.ownBlock]⟩
  clear hw1
  obtain ⟨p, hp⟩ : ∃ p, p = w.heap.size := ⟨_, rfl⟩
  rw [← hp] at hW1 hN1 ⊢
  clear hp
  go_wp2_with fail
  refine (gput_ok p _ [] 4 w1 hW1 (by omega) (by simp)).mono ?_
  rintro e w2 ⟨rfl, v2, hW2, hG2⟩
  obtain ⟨hF2, hN2⟩ := hG2.since hF1 hN1
  clear hW1 hF1 hN1 hG2
  have hC := gputS_total p v2 _ (-1) w2 hW2 (by rw [code4]; simp)
  rw [alive2_put] at hC
  have HC := Lib.hid hC; clear hC hW2
  go_wp2_with fail
  refine HC.out.mono ?_
  rintro e w3 ⟨rfl, v3, hW3, hG3⟩
  obtain ⟨hF3, hN3⟩ := hG3.since hF2 hN2
  clear HC hF2 hN2 hG3
  have hC := bytes_any w3 p v3 _ hW3 (by rw [code4, code2]; simp)
  have HC := Lib.hid hC; clear hC
  have HW3 := Lib.hid hW3; clear hW3
  go_wp2_with fail
  refine HC.out.mono ?_
  rintro e w4 ⟨bs, hbs, c4, rfl, hO4, hF4⟩
  obtain rfl := hbs.unique alive2_bytes
  have hW4 := HW3.out.fr hF4 (by simp) (by simp)
  have hF4' : Fr [] w w4 := hF3.trans hF4 (by simp)
  have HO4 := Lib.hid (open_any _ [0x2B] w4 hO4.src (by simp))
  have HW4 := Lib.hid hW4
  clear HC HW3 hF3 hF4 hO4 hW4 hbs
  go_wp2_with fail
  refine HO4.out.mono ?_
  rintro e w5 ⟨q, vr, rfl, hR5, hF5, hq, hvr⟩
  have hs4 := hF4'.size
  have hne : q ≠ p := by have := HW4.out.lt; omega
  have hnv : ∀ k, v3.ownBlock = some k → k ∉ [q] := fun k hk => by have := HW4.out.lt2 k hk; simp; omega
  have HW5 := Lib.hid (HW4.out.fr hF5 (by simp) (by simp))
  have hF5' : Fr [] w w5 := hF4'.trans hF5 (by simp)
  have hC := gget_total q vr _ 0 w5 hR5 (by simp)
  rw [alive2_get] at hC
  have HC := Lib.hid hC
  clear hC HO4 HW4 hF5 hR5 hF4'
  go_wp2_with fail
  refine HC.out.mono ?_
  rintro e w6 ⟨rfl, hR6, hF6⟩
  have hC := ggetS_total q vr _ 5 w6 hR6 (by simp)
  rw [alive2_getS] at hC
  have HC := Lib.hid hC
  have HW6 := Lib.hid (HW5.out.fr hF6 (by simp; omega) hnv)
  have hF6' : Fr [] w w6 := hF5'.trans hF6 (by intro x hx; simp at hx; subst hx; exact .inr (Nat.le_trans hs4 hq))
  clear hC HW5 hF6 hR6 hF5'
  go_wp2_with fail
  refine HC.out.mono ?_
  rintro e w7 ⟨rfl, hR7, hF7⟩
  have HW7 := Lib.hid (HW6.out.fr hF7 (by simp; omega) hnv)
  have hF7' : Fr [] w w7 := hF6'.trans hF7 (by intro x hx; simp at hx; subst hx; exact .inr (Nat.le_trans hs4 hq))
  clear HC HW6 hF7 hR7 hF6'
  have hC := wlen_any w7 p v3 _ HW7.out
  rw [show ((([] : List Bool) ++ code 4) ++ code 2).length = 8 by rw [code4, code2]; rfl] at hC
  have HC := Lib.hid hC; clear hC
  go_wp2_with fail
  refine HC.out.mono ?_
  rintro e w8 ⟨rfl, rfl⟩
  have hC := glen_any 4294967294 w8 (by omega)
  rw [alive2_len] at hC
  have HC := Lib.hid hC; clear hC
  go_wp2_with fail
  refine HC.out.mono ?_
  rintro e w9 ⟨rfl, rfl⟩
  go_wp2_with fail
  go_ret
  exact ⟨rfl, hF7'⟩
end Go.Proofs.Ytpdmjgcheigooaa
