/-
  Contracts of the document's book: topic, place, width, New.
-/
import Derived.Test.YtfjlepnodmeaaaaBookMore
import Derived.Test.YtfjlepnodmeaaaaRef1a
import Derived.Test.YtfjlepnodmeaaaaRef4b
import Derived.Deep.WholeRow
namespace Go.Proofs.Ytfjlepnodmeaaaa
open Go.RowKit

theorem rtopic_any (t : Int) (w : World) :
    Calls Try.prog 44 #[.int .i64 t] w fun e w' => e = .returned (.bool (decide (0 ≤ t ∧ t ≤ 15))) ∧ w' = w := by
  obtain ⟨T, hT⟩ : ∃ T, T = decide (0 ≤ t ∧ t ≤ 15) := ⟨_, rfl⟩
  rw [← hT]
  by_cases h1 : 0 ≤ t
  · by_cases h2 : t < 16
    · obtain rfl : T = true := by rw [hT]; simp; omega
      have e1 : decide (0 ≤ t) = true := by simpa using h1
      have e2 : decide (t < 16) = true := by simpa using h2
      clear hT
      go_enter Try.func44, Try.ntmps44
      go_wp2_with fail
      go_ret
      exact ⟨rfl, rfl⟩
    · obtain rfl : T = false := by rw [hT]; simp; omega
      have e1 : decide (0 ≤ t) = true := by simpa using h1
      have e2 : decide (t < 16) = false := by simpa using h2
      clear hT
      go_enter Try.func44, Try.ntmps44
      go_wp2_with fail
      go_ret
      exact ⟨rfl, rfl⟩
  · obtain rfl : T = false := by rw [hT]; simp; omega
    have e1 : decide (0 ≤ t) = false := by simpa using h1
    clear hT
    go_enter Try.func44, Try.ntmps44
    go_wp2_with fail
    go_ret
    exact ⟨rfl, rfl⟩

/-- A place as the document's number: below 0 the even one. -/
def plI : Option Nat → Int
  | none => -1
  | some i => (i : Int)
theorem rplace_any (i a : Nat) (w : World) (hi : i ≤ 60) (ha : a ≤ 1099511627776) :
    Calls Try.prog 47 #[.int .i64 (i : Int), .int .i64 (a : Int)] w fun e w' => e = .returned (.int .i64 (plI (place i a))) ∧ w' = w := by
  obtain ⟨z, hz⟩ : ∃ z, z = plI (place i a) := ⟨_, rfl⟩
  rw [← hz]
  have Hz := Lib.hid hz; clear hz
  by_cases h : i < 4
  · have hc : i = 0 ∨ i = 1 ∨ i = 2 ∨ i = 3 := by omega
    rcases hc with rfl | rfl | rfl | rfl
    all_goals
      go_enter Try.func47, Try.ntmps47
      go_wp2_with fail
      go_ret
      refine ⟨?_, rfl⟩
      rw [Hz.out]
      refine congrArg (fun x => Ending.returned (Value.int .i64 x)) (?_ : _ = plI (place _ a))
      unfold plI place
      simp only [Nat.reduceLT, if_true]
      omega
  · have e1 : decide ((4 : Int) ≤ (i : Int)) = true := by simp; omega
    obtain rfl : z = -1 := by
      rw [Hz.out]
      unfold plI place
      rw [if_neg h]
    clear Hz
    go_enter Try.func47, Try.ntmps47
    go_wp2_with fail
    go_ret
    exact ⟨rfl, rfl⟩

theorem rwidth_any (n : Nat) (w : World) (hn : 1 ≤ n) (hn2 : n ≤ 1000000) :
    Calls Try.prog 49 #[.int .i64 (n : Int)] w fun e w' => e = .returned (.int .i64 (bitLen (n - 1) : Int)) ∧ w' = w := by
  obtain ⟨m, rfl⟩ : ∃ m, n = m + 1 := ⟨n - 1, by omega⟩
  have hb : bitLen m ≤ 20 := by
    unfold bitLen
    split
    · omega
    · have : m.log2 < 20 := (Nat.log2_lt (by omega)).2 (by omega)
      omega
  have Hb := Lib.hid hb
  go_enter Try.func49, Try.ntmps49
  go_wp2_with fail
  go_loopw [3, 4] (fun s3 s4 wr => ∃ (x k : Nat), k ≤ m ∧ s3 = .int .i64 (x : Int) ∧ s4 = .int .i64 (k : Int) ∧ x + bitLen k = bitLen m ∧ wr = w) (fun _ s4 _ => (intOf s4).toNat)
  case atStart => exact ⟨0, m, by omega, rfl, by simp, by omega, by trivial⟩
  case round =>
    obtain ⟨x, k, hk, rfl, rfl, hx, rfl⟩ := hrel
    have Hx := Lib.hid hx; clear hx
    by_cases h0 : 0 < k
    · have e1 : decide (0 < k) = true := by simpa using h0
      have hs := bitLen_step (v := k) (by omega)
      have Hs := Lib.hid hs
      clear hs hb
      have hxb : x ≤ 20 := by have := Hx.out; have := Hb.out; omega
      go_wp2_with fail
      exact ⟨⟨x + 1, k / 2, by omega, by simp, by simp, by have := Hx.out; have := Hs.out; omega, by trivial⟩, by simp [intOf]; omega⟩
    · have e1 : decide (0 < k) = false := by simpa using h0
      obtain rfl : k = 0 := by omega
      have hx := Hx.out
      clear hb
      go_wp2_with fail
      go_ret
      rw [Nat.add_sub_cancel, ← hx]
      exact ⟨rfl, by trivial⟩

/-! The document's book: 592 numbers in a row. -/
def arrI (n : Nat) (f : Nat → Nat) : Array Value := ((List.range n).map fun i => Value.int .i64 (f i : Int)).toArray
theorem arrI_size (n : Nat) (f : Nat → Nat) : (arrI n f).size = n := by simp [arrI]
theorem arrI_get {n : Nat} (f : Nat → Nat) {i : Nat} (h : i < n) : (arrI n f)[i]? = some (.int .i64 (f i : Int)) := by simp [arrI, h]
theorem arrI_congr {n : Nat} {f g : Nat → Nat} (h : ∀ i, i < n → f i = g i) : arrI n f = arrI n g := by
  unfold arrI
  congr 1
  apply List.map_congr_left
  intro i hi
  rw [h i (by simpa using hi)]
theorem arrI_set (n : Nat) (f : Nat → Nat) (i v : Nat) : (arrI n f).setIfInBounds i (.int .i64 (v : Int)) = arrI n (upd f i v) := by
  apply Array.ext_getElem?
  intro j
  rw [Array.getElem?_setIfInBounds, arrI_size]
  by_cases h : j < n
  · rw [arrI_get _ h, arrI_get _ h]
    unfold upd
    by_cases hj : i = j
    · subst hj; simp [h]
    · rw [if_neg hj, if_neg (fun e => hj e.symm)]
  · have : ∀ f, (arrI n f)[j]? = none := fun f => by rw [Array.getElem?_eq_none]; rw [arrI_size]; omega
    rw [this, this]
    split <;> simp_all
theorem arrI_zero (n : Nat) : Array.replicate n (Value.int .i64 0) = arrI n fun _ => 0 := by
  apply Array.ext_getElem?
  intro i
  by_cases h : i < n
  · rw [arrI_get _ h]; simp [h]
  · rw [Array.getElem?_eq_none (by simpa using h), Array.getElem?_eq_none (by rw [arrI_size]; omega)]
def Rb (w : World) (q : Nat) (B : Chs) : Prop := Blk w q 66 (arrI 592 B)
theorem Rb.cell {w : World} {q : Nat} {B : Chs} (h : Rb w q B) {j : Nat} (hj : j < 592) : w.cell? ⟨q, j, none⟩ = some (.int .i64 (B j : Int)) := by rw [Blk.cell h, arrI_get _ hj]
theorem Rb.set {w : World} {q : Nat} {B : Chs} (h : Rb w q B) (j x : Nat) : Rb (w.setCell ⟨q, j, none⟩ (.int .i64 (x : Int))) q (upd B j x) := by
  have := Blk.set_ h j (.int .i64 (x : Int))
  rw [arrI_set] at this
  exact this

theorem zero5 : (Try.prog.info? 66).map (fun i => (i.zero, i.size)) = some (some (.agg (Array.replicate 592 (.int .i64 0))), 592) := by kernel_rfl

set_option maxRecDepth 20000 in
theorem rnewB_any (w : World) :
    Calls Try.prog 10 #[] w fun e w' => ∃ q, e = .returned (.pointer (some ⟨q, 0, none⟩)) ∧ Rb w' q newBook ∧ Fr [] w w' ∧ w.heap.size ≤ q := by
  have z := (zero_of_info zero5).1
  go_enter Try.func10, Try.ntmps10
  go_upto_region 2 with fail
  have hF : Fr [] w (w.alloc (Obj.cells (Array.replicate 592 (Value.int IntKind.i64 0)) 66)) := (Fr.refl _ _).alloc _
  have hB := Blk.new w 66 (Array.replicate 592 (Value.int IntKind.i64 0))
  generalize hw2 : (w.alloc (Obj.cells (Array.replicate 592 (Value.int IntKind.i64 0)) 66)) = w2 at hF hB ⊢
  clear hw2 z
  rw [arrI_zero] at hB
  obtain ⟨q, hq⟩ : ∃ q, q = w.heap.size := ⟨_, rfl⟩
  rw [← hq] at hB ⊢
  have hB0 : Rb w2 q (fun j => if j < 37 * 0 then 1024 else 0) := by
    unfold Rb
    rw [arrI_congr (g := fun _ => 0) (fun i _ => by simp)]
    exact hB
  have HB0 := Lib.hid hB0
  have HF0 := Lib.hid hF
  have Hq := Lib.hid hq
  clear hB0 hF hq hB
  go_wp2_with fail
  go_loopw [2] (fun s2 wr => ∃ t : Nat, t ≤ 16 ∧ s2 = .int .i64 (t : Int) ∧ Rb wr q (fun j => if j < 37 * t then 1024 else 0) ∧ Fr [] w wr) (fun s2 _ => 16 - (intOf s2).toNat)
  case atStart => exact ⟨0, by omega, rfl, HB0.out, HF0.out⟩
  case round =>
    obtain ⟨t, ht, rfl, hB, hF⟩ := hrel
    have HB := Lib.hid hB; have HF := Lib.hid hF
    clear hB hF HB0 HF0
    by_cases h16 : t < 16
    · have e1 : decide ((t : Int) < 16) = true := by simp; omega
      go_wp2_with fail
      go_loopw [3] (fun s3 wr => ∃ i : Nat, i ≤ 37 ∧ s3 = .int .i64 (i : Int) ∧ Rb wr q (fun j => if j < 37 * t + i then 1024 else 0) ∧ Fr [] w wr) (fun s3 _ => 37 - (intOf s3).toNat)
      case atStart => exact ⟨0, by omega, rfl, HB.out, HF.out⟩
      case round =>
        obtain ⟨i, hi, rfl, hB, hF⟩ := hrel
        have HB2 := Lib.hid hB; have HF2 := Lib.hid hF
        clear hB hF HB HF
        by_cases h37 : i < 37
        · have e2 : decide ((i : Int) < 37) = true := by simp; omega
          have c0 := HB2.out.cell (j := t * 37 + i) (by omega)
          have f0 := Blk.frozen HB2.out (t * 37 + i)
          go_wp2_with fail
          refine ⟨⟨i + 1, by omega, by simp, ?_, HF2.out.setCell (.inr (by rw [Hq.out]; exact Nat.le_refl _)) _⟩, by simp [intOf]; omega⟩
          have h := HB2.out.set (t * 37 + i) 1024
          unfold Rb at h ⊢
          rw [arrI_congr (g := fun j => if j < 37 * t + (i + 1) then 1024 else 0)] at h
          · exact h
          · intro j _
            unfold upd
            by_cases hj : j = t * 37 + i
            · rw [if_pos hj, if_pos (by omega)]
            · rw [if_neg hj]
              show (if j < 37 * t + i then 1024 else 0) = _
              by_cases hl : j < 37 * t + i
              · rw [if_pos hl, if_pos (by omega)]
              · rw [if_neg hl, if_neg (by omega)]
        · have e2 : decide ((i : Int) < 37) = false := by simp; omega
          obtain rfl : i = 37 := by omega
          have hB3 : Rb wr q (fun j => if j < 37 * (t + 1) then 1024 else 0) := by
            rw [show 37 * (t + 1) = 37 * t + 37 by omega]
            exact HB2.out
          have HB3 := Lib.hid hB3
          clear hB3 HB2
          go_wp2_with fail
          exact ⟨⟨t + 1, by omega, by simp, HB3.out, HF2.out⟩, by simp [intOf]; omega⟩
    · have e1 : decide ((t : Int) < 16) = false := by simp; omega
      obtain rfl : t = 16 := by omega
      go_wp2_with fail
      go_ret
      refine ⟨q, rfl, ?_, HF.out, by rw [Hq.out]; exact Nat.le_refl _⟩
      have h := HB.out
      unfold Rb at h ⊢
      rw [arrI_congr (g := newBook)] at h
      · exact h
      · intro j hj
        rw [if_pos (by omega)]
        rfl
end Go.Proofs.Ytfjlepnodmeaaaa
