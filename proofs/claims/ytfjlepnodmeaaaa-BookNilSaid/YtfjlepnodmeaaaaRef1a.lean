/-
  Contracts of the document's Digits and Number; conditions: the lengths are bounded as named.
-/
import Derived.Test.YtfjlepnodmeaaaaBits3
namespace Go.Proofs.Ytfjlepnodmeaaaa
open Go.RowKit

/-- A bit as a byte. -/
def u8b (b : Bool) : UInt8 := if b then 1 else 0
def bitsU (l : List Bool) : List UInt8 := l.map u8b
@[simp] theorem bitsU_length (l : List Bool) : (bitsU l).length = l.length := by simp [bitsU]
theorem bitsU_append (a b : List Bool) : bitsU (a ++ b) = bitsU a ++ bitsU b := by simp [bitsU]
theorem B8_u8b (b : Bool) : B8 (u8b b) = .int .u8 (b.toNat : Int) := by cases b <;> rfl

/-- A row of bytes in new memory. -/
def NewRow (w : World) (xs : List UInt8) (e : Ending) (w' : World) : Prop :=
  ∃ v, e = .returned v ∧ Own w' 5 v (xs.map B8) ∧ Fr [] w w' ∧ ∀ k, v.ownBlock = some k → w.heap.size ≤ k

theorem NewBytes.row {w : World} {xs : List UInt8} {e : Ending} {w' : World} (h : NewBytes w xs e w') : NewRow w xs e w' := by
  obtain ⟨c, h1, h2, h3⟩ := h
  exact ⟨_, h1, h2, h3, fun k hk => by simp [Value.ownBlock] at hk; omega⟩

theorem digits_any (a n : Nat) (w : World) (hn : n ≤ 1000000) (ha : a < 18446744073709551616) :
    Calls Try.prog 46 #[.int .u64 (a : Int), .int .i64 (n : Int)] w (NewBytes w (bitsU (digits a n))) := by
  obtain ⟨i, hi, hz, h1, h2⟩ := info_parts info_u8
  go_enter Try.func46, Try.ntmps46
  go_wp2_with (at_make; refine wpList_make_mine _ _ 37 5 i _ 1 _ _ n rfl rfl Try.underlying37 hi hz h1 h2 rfl rfl rfl (by omega) (by simp only [maxLen]; omega) ?_)
  intro w1 hO hF hlt
  have HO := Lib.hid hO; clear hO
  go_wp2_with fail
  go_loopw [0, 6] (fun s0 s6 wr => ∃ j : Nat, j ≤ n ∧ s6 = .int .i64 ((j : Int) - 1) ∧ s0 = .int .u64 ((a >>> (n - j) : Nat) : Int) ∧ Own wr 5 (.slice (some ⟨w.heap.size, 0, none⟩) n n) (List.replicate j (.int .u8 0) ++ (bitsU (digits a (n - j))).map B8) ∧ Fr [] w wr) (fun _ s6 _ => (intOf s6 + 1).toNat)
  case atStart => exact ⟨n, Nat.le_refl _, rfl, by simp, by simpa [digits, bitsU] using HO.out, hF⟩
  case round =>
    obtain ⟨j, hj, rfl, rfl, hR, hF2⟩ := hrel
    by_cases hpos : 0 < j
    · obtain ⟨j', rfl⟩ : ∃ j', j = j' + 1 := ⟨j - 1, by omega⟩
      obtain ⟨V, hV⟩ : ∃ V, V = a >>> (n - (j' + 1)) := ⟨_, rfl⟩
      rw [← hV]
      have hVl : V < 18446744073709551616 := by rw [hV]; exact Nat.lt_of_le_of_lt (Nat.shiftRight_le _ _) ha
      have hlen : (List.replicate (j' + 1) (Value.int .u8 0) ++ (bitsU (digits a (n - (j' + 1)))).map B8).length = n := by simp; omega
      obtain ⟨e1, e2, e3⟩ := hR.at_ (j := j') (by rw [hlen]; omega)
      have e4 : wr.cell? ⟨w.heap.size, j', none⟩ = some (.int .u8 0) := by rw [e1]; simp [List.getElem?_append]
      obtain ⟨b, hb2, hb⟩ : ∃ b : Nat, b < 2 ∧ b = V % 2 := ⟨_, Nat.mod_lt _ (by omega), rfl⟩
      have eb : IntKind.u8.wrap ((V : Int) % 2) = (b : Int) := by rw [IntWalk.u8_in _ (by omega)]; omega
      have HR := Lib.hid hR; clear hR
      have HV := Lib.hid hV; clear hV
      have Hb := Lib.hid hb; clear hb
      clear e1 hlen
      go_wp2_with fail
      have hV := HV.out
      have hb := Hb.out
      have hd : digits a (n - j') = (V.testBit 0) :: digits a (n - (j' + 1)) := by
        rw [show n - j' = (n - (j' + 1)) + 1 by omega, digits, hV, Nat.testBit_shiftRight]; rfl
      have hbB : Value.int .u8 (b : Int) = B8 (u8b (V.testBit 0)) := by
        have e6 : V % 2 = (V.testBit 0).toNat := by rw [Nat.testBit_zero]; rcases Nat.mod_two_eq_zero_or_one V with h | h <;> rw [h] <;> rfl
        rw [B8_u8b, hb, e6]
      refine ⟨⟨j', by omega, rfl, ?_, ?_, ?_⟩, by simp only [intOf]; omega⟩
      · rw [show n - j' = (n - (j' + 1)) + 1 by omega, Nat.shiftRight_add, ← hV, Nat.shiftRight_eq_div_pow]; congr 1
      · have h3 := HR.out.set j' (Value.int .u8 (b : Int))
        rw [hbB] at h3 ⊢
        rw [hd]
        have e5 : (List.replicate (j' + 1) (Value.int .u8 0) ++ (bitsU (digits a (n - (j' + 1)))).map B8).set j' (B8 (u8b (V.testBit 0))) = List.replicate j' (Value.int .u8 0) ++ (bitsU ((V.testBit 0) :: digits a (n - (j' + 1)))).map B8 := by
          rw [List.replicate_succ', List.append_assoc, List.set_append_right _ _ (by simp)]
          simp [bitsU]
        rw [e5] at h3
        exact h3
      · exact hF2.setCell (.inr (Nat.le_refl _)) _
    · obtain rfl : j = 0 := by omega
      have HR := Lib.hid hR; clear hR
      go_wp2_with fail
      go_ret
      refine ⟨n, by rw [bitsU_length, digits_length]; rfl, ?_, hF2⟩
      have h3 := HR.out
      rw [bitsU_length, digits_length]
      simpa using h3

theorem digits_any' (a n : Nat) (w : World) (hn : n ≤ 1000000) (ha : a < 18446744073709551616) :
    Calls Try.prog 46 #[.int .u64 (a : Int), .int .i64 (n : Int)] w fun e w' => ∃ c, e = .returned (.slice (some ⟨w.heap.size, 0, none⟩) n c) ∧
      Own w' 5 (.slice (some ⟨w.heap.size, 0, none⟩) n c) ((bitsU (digits a n)).map B8) ∧ Fr [] w w' :=
  (digits_any a n w hn ha).mono fun _ _ ⟨c, h1, h2, h3⟩ => by
    rw [bitsU_length, digits_length] at h1 h2
    exact ⟨c, h1, h2, h3⟩

/-- The k-th cell of bytes that came in. -/
theorem Src.at_ {w : World} {A : Option Addr} {n c k : Nat} {xs : List UInt8} (h : Src w (.slice A n c) (xs.map B8)) (hk : k < xs.length) : ∃ ad, A = some ad ∧ w.cell? (ad.add k) = some (B8 (xs.getD k 0)) := by
  rcases h with ⟨_, h0⟩ | ⟨ad, c', h1, _, hc⟩
  · rw [List.map_eq_nil_iff.1 h0] at hk; simp at hk
  · injection h1 with h1
    refine ⟨ad, h1, hc k _ ?_⟩
    rw [List.getElem?_map, List.getElem?_eq_getElem hk, List.getD_eq_getElem?_getD, List.getElem?_eq_getElem hk]; rfl
theorem Src.slice {w : World} {src : Value} {xs : List UInt8} (h : Src w src (xs.map B8)) : ∃ A c, src = .slice A xs.length c := by
  rcases h with ⟨rfl, h⟩ | ⟨ad, c, rfl, -⟩
  · exact ⟨_, _, by rw [List.map_eq_nil_iff.1 h]; rfl⟩
  · exact ⟨_, _, by rw [List.length_map]⟩

theorem number_append_opt (l : List Bool) (k : Nat) (h : k < l.length) : number (l.take k ++ l[k]?.toList) = 2 * number (l.take k) + (l.getD k false).toNat := by
  rw [List.getElem?_eq_getElem h, List.getD_eq_getElem?_getD, List.getElem?_eq_getElem h]
  exact number_append _ _

theorem number_any (src : Value) (l : List Bool) (w : World) (hs : Src w src ((bitsU l).map B8)) (hn : l.length ≤ 64) :
    Calls Try.prog 48 #[src] w fun e w' => e = .returned (.int .u64 (number l : Int)) ∧ w' = w := by
  obtain ⟨A, c, rfl⟩ := hs.slice
  rw [bitsU_length] at *
  go_enter Try.func48, Try.ntmps48
  go_wp2_with fail
  go_loop [3, 4] (fun s3 s4 => ∃ k : Nat, k ≤ l.length ∧ s4 = .int .i64 (k : Int) ∧ s3 = .int .u64 (number (l.take k) : Int)) (fun _ s4 => l.length - (intOf s4).toNat)
  case atStart => exact ⟨0, Nat.zero_le _, rfl, by simp [number]⟩
  case round =>
    obtain ⟨k, hk, rfl, rfl⟩ := hrel
    by_cases hlt : k < l.length
    · obtain ⟨ad, rfl, hc⟩ := hs.at_ (k := k) (by simpa using hlt)
      obtain ⟨b, hb⟩ : ∃ b, b = l.getD k false := ⟨_, rfl⟩
      have hc' : w.cell? (ad.add k) = some (.int .u8 (b.toNat : Int)) := by
        rw [hc, hb, ← B8_u8b]
        simp [bitsU, List.getD_eq_getElem?_getD, hlt]
      clear hc
      obtain ⟨V, hV⟩ : ∃ V, V = number (l.take k) := ⟨_, rfl⟩
      rw [← hV]
      have h1 := number_lt (l.take k)
      have h2 : (l.take k).length = k := by simp; omega
      rw [h2, ← hV] at h1
      have h3 : 2 ^ k ≤ 2 ^ 63 := Nat.pow_le_pow_right (by omega) (by omega)
      have hbl : b.toNat ≤ 1 := by cases b <;> simp
      have ew1 : IntKind.u64.wrap (2 * (V : Int)) = 2 * (V : Int) := IntWalk.u64_in _ (by omega)
      have ew2 : IntKind.u64.wrap (b.toNat : Int) = (b.toNat : Int) := IntWalk.u64_in _ (by omega)
      have ew3 : IntKind.u64.wrap (2 * (V : Int) + (b.toNat : Int)) = 2 * (V : Int) + (b.toNat : Int) := IntWalk.u64_in _ (by omega)
      have HV := Lib.hid hV; clear hV
      have Hb := Lib.hid hb; clear hb
      clear h1 h2 h3
      go_wp2_with fail
      go_round
      case rel =>
        refine ⟨k + 1, by omega, by go_num, ?_⟩
        rw [List.take_add_one, number_append_opt l k hlt, ← HV.out, ← Hb.out]
        go_num
      case measure => simp [intOf]; omega
    · obtain rfl : k = l.length := by omega
      go_wp2_with fail
      go_ret
      exact ⟨by simp, rfl⟩
end Go.Proofs.Ytfjlepnodmeaaaa
