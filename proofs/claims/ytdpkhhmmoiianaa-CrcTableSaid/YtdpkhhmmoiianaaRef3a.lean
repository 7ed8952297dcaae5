/-
  Contracts of the document's factors and number of layer 3; condition: the bytes are at most as many as named.
-/
import Derived.Test.YtdpkhhmmoiianaaCNew
import Derived.Test.YtdpkhhmmoiianaaRef1a
import Derived.Test.YtdpkhhmmoiianaaDivPlain
namespace Go.Proofs.Ytdpkhhmmoiianaa
open Go.RowKit

theorem bit_low (x : Nat) : ((x : Int) % 2) = ((x.testBit 0).toNat : Int) := by
  rw [Nat.testBit_zero]
  rcases Nat.mod_two_eq_zero_or_one x with h | h
  · have : (x : Int) % 2 = 0 := by omega
    rw [this, h]; rfl
  · have : (x : Int) % 2 = 1 := by omega
    rw [this, h]; rfl
theorem shr_succ (x j : Nat) : ((x >>> j : Nat) : Int) / 2 = ((x >>> (j + 1) : Nat) : Int) := by
  rw [Nat.shiftRight_add, Nat.shiftRight_eq_div_pow (x >>> j) 1]; simp
theorem bits8_take (c : UInt8) (j : Nat) (h : j < 8) : (bits8 c).take (j + 1) = (bits8 c).take j ++ [(c.toNat >>> j).testBit 0] := by
  rw [List.take_add_one]
  congr 1
  simp [bits8, h]

theorem Mine.nil (w : World) : Mine w w (.slice none 0 0) [] := ⟨Own.nil _ _, Fr.refl _ _, by simp [Value.ownBlock]⟩

set_option maxRecDepth 20000 in
theorem factors_any (src : Value) (bs : List UInt8) (w : World) (hs : Src w src (bs.map B8)) (hn : bs.length ≤ 1000000) :
    Calls Try.prog 18 #[src] w fun e w' => ∃ v, e = .returned v ∧ Mine w w' v (bitsU (bitsOf bs)) := by
  obtain ⟨A, c, rfl⟩ := hs.slice
  have HS := Lib.hid hs; clear hs
  obtain ⟨n, hnl⟩ : ∃ n, n = bs.length := ⟨_, rfl⟩
  rw [← hnl] at HS hn ⊢
  have Hn := Lib.hid hnl; clear hnl
  go_enter Try.func18, Try.ntmps18
  go_wp2_with fail
  go_loopw [3, 4] (fun s3 s4 wr => ∃ i : Nat, i ≤ n ∧ s4 = .int .i64 (i : Int) ∧ Mine w wr s3 (bitsU (bitsOf (bs.take i)))) (fun _ s4 _ => n - (intOf s4).toNat)
  case atStart => exact ⟨0, Nat.zero_le _, rfl, Mine.nil w⟩
  case round =>
    obtain ⟨i, hi, rfl, hM⟩ := hrel
    by_cases hlt : i < n
    · have eg : decide (i < n) = true := by simp [hlt]
      obtain ⟨x, hx⟩ : ∃ x, bs[i]? = some x := ⟨_, List.getElem?_eq_getElem (by have := Hn.out; omega)⟩
      obtain ⟨ad, rfl, c0⟩ := (HS.out.fr0 hM.fr).cellAt hx
      unfold B8 at c0
      have Hx := Lib.hid hx; clear hx
      have HM := Lib.hid hM; clear hM
      go_wp2_with fail
      go_loopw [3, 5, 6] (fun s3 s5 s6 wx => ∃ j : Nat, j ≤ 8 ∧ s6 = .int .i64 (j : Int) ∧ s5 = .int .u8 ((x.toNat >>> j : Nat) : Int) ∧ Mine w wx s3 (bitsU (bitsOf (bs.take i) ++ (bits8 x).take j))) (fun _ _ s6 _ => 8 - (intOf s6).toNat)
      case atStart => exact ⟨0, by omega, rfl, by simp, by simpa using HM.out⟩
      case round =>
        obtain ⟨j, hj, rfl, rfl, hM2⟩ := hrel
        by_cases hlt2 : j < 8
        · have eg2 : decide ((j : Int) < 8) = true := by simp; omega
          obtain ⟨y, hy⟩ : ∃ y, y = x.toNat >>> j := ⟨_, rfl⟩
          rw [← hy]
          obtain ⟨b, hb⟩ : ∃ b, b = y.testBit 0 := ⟨_, rfl⟩
          have eb := bit_low y
          rw [← hb] at eb
          have Hy := Lib.hid hy; clear hy
          have Hb := Lib.hid hb; clear hb
          have HM2 := Lib.hid hM2; clear hM2
          have hlen : (bitsU (bitsOf (bs.take i) ++ (bits8 x).take j)).length ≤ 8000008 := by
            rw [bitsU_length, List.length_append, bitsOf_length, List.length_take, List.length_take, bits8_length]
            omega
          have HLen := Lib.hid hlen; clear hlen
          go_wp2_with (at_builtin; go_loud (refine wp_append_u8 _ _ u3 (bitsU (bitsOf (bs.take i) ++ (bits8 x).take j)) (.slice (some ⟨wr.heap.size, 0, none⟩) 1 1) [u8b b] rfl rfl rfl rfl (HM2.out.own.alloc _) (Src.one (by rw [B8_u8b]; simp [go_sem])) (by have := HLen.out; simp at this ⊢; omega) ?_))
          intro v4 w4 hO hG
          have hM4 := (HM2.out.fr0 ((Fr.refl _ _).alloc (.cells #[.int .u8 (b.toNat : Int)] 5))).appended (ys := [u8b b]) (by rw [List.map_append]; exact hO) hG
          have HM4 := Lib.hid hM4; clear hM4 hO hG HM2
          go_wp2_with fail
          refine ⟨⟨j + 1, by omega, by simp, ?_, ?_⟩, by simp [intOf]; omega⟩
          · have h1 := Nat.shiftRight_le x.toNat (j + 1)
            have h2 := x.toNat_lt
            rw [Hy.out, shr_succ]
            generalize x.toNat >>> (j + 1) = z at h1
            rw [Int.emod_eq_of_lt (by omega) (by omega)]
          · have h4 := HM4.out
            rw [Hb.out, Hy.out] at h4
            rw [bits8_take x j hlt2, ← List.append_assoc, bitsU_append]
            exact h4
        · obtain rfl : j = 8 := by omega
          have eg2 : decide ((8 : Int) < 8) = false := by decide
          have HM2 := Lib.hid hM2; clear hM2
          go_wp2_with fail
          refine ⟨⟨i + 1, by omega, by simp, ?_⟩, by simp [intOf]; omega⟩
          have h4 := HM2.out
          rw [show (bits8 x).take 8 = bits8 x from List.take_of_length_le (by rw [bits8_length]; omega)] at h4
          rw [List.take_add_one, Hx.out, bitsOf_append]
          simpa [bitsOf] using h4
    · obtain rfl : i = n := by omega
      have eg : decide (i < i) = false := by simp
      have HM := Lib.hid hM; clear hM
      go_wp2_with fail
      go_ret
      refine ⟨_, rfl, ?_⟩
      have h4 := HM.out
      rw [Hn.out, List.take_length] at h4
      exact h4
end Go.Proofs.Ytdpkhhmmoiianaa
