/-
  The live question of layer 1: alive answers true, from any memory; no condition.
-/
import Derived.Test.YtgdfjoionaedgaaBits6
import Derived.Test.YtgdfjoionaedgaaRef1g
namespace Go.Proofs.Ytgdfjoionaedgaa
open Go.RowKit

/-- All that a writer may write is new since w0. -/
def NewSince (w0 : World) (p : Nat) (v : Value) : Prop := w0.heap.size ≤ p ∧ ∀ k, v.ownBlock = some k → w0.heap.size ≤ k

theorem WFr.since {w0 w w' : World} {p : Nat} {v v' : Value} (h : WFr p v v' w w') (hf : Fr [] w0 w) (hn : NewSince w0 p v) : Fr [] w0 w' ∧ NewSince w0 p v' := by
  refine ⟨hf.trans h.1 ?_, hn.1, ?_⟩
  · intro x hx
    rcases List.mem_cons.1 hx with rfl | hx
    · exact .inr hn.1
    · exact .inr (hn.2 x (by simpa using hx))
  · intro k hk
    rcases h.2 with e | ⟨g, e, hg⟩
    · exact hn.2 k (e ▸ hk)
    · rw [e] at hk; injection hk with hk; subst hk; exact Nat.le_trans hf.size hg

theorem Wr.new (w : World) : Wr (w.alloc (.cells #[.slice none 0 0, .int .i64 0] 55)) w.heap.size (.slice none 0 0) [] := by
  refine ⟨[], Blk.new w _ _, Own.nil _ _, PackOf.nil, by simp [Value.ownBlock]⟩

theorem alive_bytes : PackOf [0xB0, 0x80] (digits 5 3 ++ digits 33 6) := PackOf.of_eight (by decide) (by decide)

theorem alive_any (w : World) :
    Calls Try.prog 17 #[] w fun e w' => e = .returned (.bool true) ∧ Fr [] w w' := by
  go_enter Try.func17, Try.ntmps17
  go_wp2_with fail
  refine (new_any w).mono ?_
  rintro e w1 ⟨rfl, hw1⟩
  have hF1 : Fr [] w w1 := by rw [hw1]; exact (Fr.refl _ _).alloc _
  have hW1 : Wr w1 w.heap.size (.slice none 0 0) [] := by rw [hw1]; exact Wr.new w
  have hN1 : NewSince w w.heap.size (.slice none 0 0) := ⟨Nat.le_refl _, by simp [Value.ownBlock]⟩
  clear hw1
  obtain ⟨p, hp⟩ : ∃ p, p = w.heap.size := ⟨_, rfl⟩
  rw [← hp] at hW1 hN1 ⊢
  clear hp
  go_wp2_with fail
  refine (put_ok p _ [] 5 3 w1 hW1 (by omega) (by omega) (by simp)).mono ?_
  rintro e w2 ⟨rfl, v2, hW2, hG2⟩
  obtain ⟨hF2, hN2⟩ := hG2.since hF1 hN1
  clear hW1 hF1 hN1 hG2
  have HW2 := Lib.hid hW2; clear hW2
  go_wp2_with fail
  refine (put_ok p v2 _ 33 6 w2 HW2.out (by omega) (by omega) (by simp)).mono ?_
  rintro e w3 ⟨rfl, v3, hW3, hG3⟩
  obtain ⟨hF3, hN3⟩ := hG3.since hF2 hN2
  clear HW2 hF2 hN2 hG3
  have HW3 := Lib.hid hW3; clear hW3
  go_wp2_with fail
  refine (bytes_any w3 p v3 _ HW3.out (by simp)).mono ?_
  rintro e w4 ⟨bs, hbs, c4, rfl, hO4, hF4⟩
  obtain rfl := hbs.unique alive_bytes
  obtain ⟨g, hg⟩ : ∃ g, g = w3.heap.size := ⟨_, rfl⟩
  rw [← hg] at hO4 ⊢
  change Own w4 5 (.slice (some ⟨g, 0, none⟩) 2 c4) _ at hO4
  obtain ⟨b0, -, -⟩ := hO4.at_ (j := 0) (by decide)
  obtain ⟨b1, -, -⟩ := hO4.at_ (j := 1) (by decide)
  have hgl : g < w4.heap.size := hO4.lt g rfl
  have hW4 := HW3.out.fr hF4 (by simp) (by simp)
  have hF4' : Fr [] w w4 := hF3.trans hF4 (by simp)
  change w4.cell? ⟨g, 0, none⟩ = some (.int .u8 176) at b0
  change w4.cell? ⟨g, 1, none⟩ = some (.int .u8 128) at b1
  have hp4 : p < w4.heap.size := hW4.lt
  have hv4 := Lib.hid hW4.lt2
  have HW4 := Lib.hid hW4
  clear HW3 hF3 hF4 hO4 hbs hg hW4
  go_wp2_with fail
  have hS : Src (w4.alloc (.cells #[.int .u8 18, .int .u8 52] 5)) (.slice (some ⟨w4.heap.size, 0, none⟩) 2 2) (List.map B8 [0x12, 0x34]) :=
    (Own.lit w4 5 #[.int .u8 18, .int .u8 52] 2 rfl (by simp [maxLen])).src
  refine (open_any _ [0x12, 0x34] _ hS (by simp)).mono ?_
  rintro e w5 ⟨q, vr, rfl, hR5, hF5, hq, hvr⟩
  clear hS
  have hF45 : Fr [] w4 w5 := ((Fr.refl _ _).alloc _).trans hF5 (by simp)
  have hW5 := HW4.out.fr hF45 (by simp) (by simp)
  have b0' : w5.cell? ⟨g, 0, none⟩ = some (.int .u8 176) := (hF45.cell (p := ⟨g, 0, none⟩) hgl (by simp)).trans b0
  have b1' : w5.cell? ⟨g, 1, none⟩ = some (.int .u8 128) := (hF45.cell (p := ⟨g, 1, none⟩) hgl (by simp)).trans b1
  have hF5' : Fr [] w w5 := hF4'.trans hF45 (by simp)
  have hqw : w4.heap.size ≤ q := by simp at hq; omega
  have hgl5 : g < w5.heap.size := Nat.lt_of_lt_of_le hgl hF45.size
  have hs4 := hF4'.size
  have HW5 := Lib.hid hW5
  have HR5 := Lib.hid hR5
  clear HW4 hW5 hR5 hF45 b0 b1 hF5 hF4' hq hvr
  go_wp2_with fail
  refine (get_ok q vr [0x12, 0x34] 0 4 w5 HR5.out (by simp) (by omega) (by simp)).mono ?_
  rintro e w6 ⟨rfl, hR6, hF6⟩
  have hW6 := HW5.out.fr hF6 (by simp; omega) (fun k hk => by have := hv4.out k hk; simp; omega)
  have b0 : w6.cell? ⟨g, 0, none⟩ = some (.int .u8 176) := (hF6.cell (p := ⟨g, 0, none⟩) hgl5 (by simp; omega)).trans b0'
  have b1 : w6.cell? ⟨g, 1, none⟩ = some (.int .u8 128) := (hF6.cell (p := ⟨g, 1, none⟩) hgl5 (by simp; omega)).trans b1'
  have hF6' : Fr [] w w6 := hF5'.trans hF6 (by intro x hx; simp at hx; subst hx; exact .inr (Nat.le_trans hs4 hqw))
  have hgl6 : g < w6.heap.size := Nat.lt_of_lt_of_le hgl5 hF6.size
  have HW6 := Lib.hid hW6
  have HR6 := Lib.hid hR6
  clear HW5 HR5 hW6 hR6 b0' b1' hF5' hF6
  go_wp2_with fail
  refine (get_ok q vr [0x12, 0x34] 4 8 w6 HR6.out (by simp) (by omega) (by simp)).mono ?_
  have e35 : number (((rowOf [0x12, 0x34]).drop 4).take 8) = 35 := by decide
  rw [e35]
  rintro e w7 ⟨rfl, hR7, hF7⟩
  have hW7 := HW6.out.fr hF7 (by simp; omega) (fun k hk => by have := hv4.out k hk; simp; omega)
  have b0' : w7.cell? ⟨g, 0, none⟩ = some (.int .u8 176) := (hF7.cell (p := ⟨g, 0, none⟩) hgl6 (by simp; omega)).trans b0
  have b1' : w7.cell? ⟨g, 1, none⟩ = some (.int .u8 128) := (hF7.cell (p := ⟨g, 1, none⟩) hgl6 (by simp; omega)).trans b1
  have hF7' : Fr [] w w7 := hF6'.trans hF7 (by intro x hx; simp at hx; subst hx; exact .inr (Nat.le_trans hs4 hqw))
  have hgl7 : g < w7.heap.size := Nat.lt_of_lt_of_le hgl6 hF7.size
  have HW7 := Lib.hid hW7
  have HR7 := Lib.hid hR7
  clear HW6 HR6 hW7 hR7 b0 b1 hF6' hF7 e35
  go_wp2_with fail
  have h9 : Calls Try.prog 14 #[.pointer (some ⟨p, 0, none⟩)] w7 fun e w' => e = .returned (.int .i64 9) ∧ w' = w7 := wlen_any w7 p v3 _ HW7.out
  refine h9.mono ?_
  rintro e w8 ⟨rfl, rfl⟩
  clear h9
  go_wp2_with fail
  have h4 : Calls Try.prog 25 #[.pointer (some ⟨q, 0, none⟩)] w8 fun e w' => e = .returned (.int .i64 4) ∧ w' = w8.drew := left_any w8 q vr _ _ HR7.out (by simp)
  refine h4.mono ?_
  rintro e w9 ⟨rfl, rfl⟩
  clear h4
  go_wp2_with fail
  go_ret
  exact ⟨rfl, hF7'.drew⟩
end Go.Proofs.Ytgdfjoionaedgaa
