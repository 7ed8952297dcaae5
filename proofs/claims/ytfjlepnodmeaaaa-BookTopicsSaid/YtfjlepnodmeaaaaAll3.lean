/-
  What several laws' proofs lean on, part 3; each part says its conditions below.
-/
import Derived.Handy
import Derived.Laws.BitsAllLaws
import Derived.Laws.StructEq
import Derived.Deep.WholeRow
import Derived.Lib.SliceRun
import Derived.Test.YtfjlepnodmeaaaaAll1
import Derived.Test.YtfjlepnodmeaaaaAll2
/-
  Plain facts of numbers' codes, foldings and of what is got of bits; no program text here.
-/
namespace Go.Proofs.Ytfjlepnodmeaaaa
open Go.RowKit

/-- How many bits a number's code has. -/
def clen (v : Nat) : Nat := 2 * (v + 1).log2 + 1
/-- A number's code. -/
def code (v : Nat) : List Bool := digits (v + 1) (clen v)
@[simp] theorem code_length (v : Nat) : (code v).length = clen v := by simp [code]

/-- How many bits 0 come first. -/
def zeros : List Bool → Nat
  | false :: l => zeros l + 1
  | _ => 0

/-- What a get answers of the bits l at i: the number, the error, and where the reader is behind it. -/
def gget (l : List Bool) (i : Nat) : Nat × Int × Nat :=
  if 32 ≤ zeros (l.drop i) then (0, 21, i) else if l.length < i + (2 * zeros (l.drop i) + 1) then (0, 11, i)
  else (number ((l.drop i).take (2 * zeros (l.drop i) + 1)) - 1, 0, i + (2 * zeros (l.drop i) + 1))

theorem log2_small {v : Nat} (h : v ≤ 4294967294) : (v + 1).log2 ≤ 31 := by
  have := (Nat.log2_lt (n := v + 1) (k := 32) (by omega)).2 (by omega)
  omega
theorem clen_le {v : Nat} (h : v ≤ 4294967294) : clen v ≤ 63 := by have := log2_small h; unfold clen; omega
theorem clen_pos (v : Nat) : 1 ≤ clen v := by unfold clen; omega
theorem lt_clen (v : Nat) : v + 1 < 2 ^ clen v := Nat.lt_of_lt_of_le Nat.lt_log2_self (Nat.pow_le_pow_right (by omega) (by unfold clen; omega))
theorem number_code (v : Nat) : number (code v) = v + 1 := number_digits_lt (lt_clen v)

theorem zeros_le (l : List Bool) : zeros l ≤ l.length := by
  induction l with
  | nil => simp [zeros]
  | cons b l ih => cases b <;> simp [zeros]; omega
theorem zeros_at (l : List Bool) : ∀ k, k < zeros l → l.getD k false = false := by
  induction l with
  | nil => intro k hk; simp
  | cons b l ih =>
    intro k hk
    cases b
    · cases k with
      | zero => rfl
      | succ k => simpa using ih k (by simp [zeros] at hk; omega)
    · simp [zeros] at hk
theorem zeros_one (l : List Bool) (h : zeros l < l.length) : l.getD (zeros l) false = true := by
  induction l with
  | nil => simp at h
  | cons b l ih =>
    cases b
    · simpa [zeros] using ih (by simpa [zeros] using h)
    · rfl
/-- Bits 0, as many as named, and a bit 1 behind them. -/
theorem zeros_eq (l : List Bool) (n : Nat) (h0 : ∀ k, k < n → l.getD k false = false) (h1 : l.getD n false = true) : zeros l = n := by
  have hn : n < l.length := by
    rcases Nat.lt_or_ge n l.length with h | h
    · exact h
    · rw [List.getD_eq_getElem?_getD, List.getElem?_eq_none h] at h1; simp at h1
  rcases Nat.lt_trichotomy (zeros l) n with h | h | h
  · have := zeros_one l (by omega)
    rw [h0 _ h] at this; cases this
  · exact h
  · have := zeros_at l n h
    rw [h1] at this; cases this
theorem le_zeros (l : List Bool) (n : Nat) (hn : n ≤ l.length) (h0 : ∀ k, k < n → l.getD k false = false) : n ≤ zeros l := by
  rcases Nat.lt_or_ge (zeros l) n with h | h
  · have := zeros_one l (by omega)
    rw [h0 _ h] at this; cases this
  · exact h

theorem number_zeros (l : List Bool) (n : Nat) (hn : n ≤ l.length) (h0 : ∀ k, k < n → l.getD k false = false) : number l = number (l.drop n) := by
  have : number (l.take n) = 0 := by
    rw [number_zero_iff]
    intro b hb
    obtain ⟨k, hk, e⟩ := List.getElem_of_mem hb
    have h2 := h0 k (by simp at hk; omega)
    rw [List.getD_eq_getElem?_getD, List.getElem?_eq_getElem (by simp at hk; omega)] at h2
    simp at e h2
    rw [← e]; exact h2
  conv => lhs; rw [← List.take_append_drop n l, number_app, this]
  simp

/-- The number that is got is at least 1 and has no more bits than come behind the bits 0. -/
theorem got_bounds (l : List Bool) (z : Nat) (hz : zeros l = z) (hl : 2 * z + 1 ≤ l.length) : 1 ≤ number (l.take (2 * z + 1)) ∧ number (l.take (2 * z + 1)) < 2 ^ (z + 1) := by
  have hT : (l.take (2 * z + 1)).length = 2 * z + 1 := by simp; omega
  have hget : ∀ k, k < 2 * z + 1 → (l.take (2 * z + 1)).getD k false = l.getD k false := by
    intro k hk
    simp [List.getD_eq_getElem?_getD, hk]
  constructor
  · rcases Nat.eq_zero_or_pos (number (l.take (2 * z + 1))) with h | h
    · rw [number_zero_iff] at h
      have h1 := zeros_one l (by omega)
      rw [hz, ← hget z (by omega), List.getD_eq_getElem?_getD, List.getElem?_eq_getElem (by omega)] at h1
      have := h _ (List.getElem_mem (by omega : z < (l.take (2 * z + 1)).length))
      simp at h1 this
      rw [this] at h1; cases h1
    · exact h
  · rw [number_zeros _ z (by omega) (fun k hk => by rw [hget k (by omega)]; exact zeros_at l k (by omega))]
    have := number_lt ((l.take (2 * z + 1)).drop z)
    rw [List.length_drop, hT, show 2 * z + 1 - z = z + 1 by omega] at this
    exact this

theorem gget_le (l : List Bool) (i : Nat) (hi : i ≤ l.length) : (gget l i).2.2 ≤ l.length ∧ i ≤ (gget l i).2.2 := by
  unfold gget
  split
  · exact ⟨hi, Nat.le_refl _⟩
  · split
    · exact ⟨hi, Nat.le_refl _⟩
    · simp only; omega
theorem gget_num (l : List Bool) (i : Nat) : (gget l i).1 ≤ 4294967294 := by
  unfold gget
  split
  · simp
  · split
    · simp
    · rename_i h1 h2
      have hb := (got_bounds (l.drop i) _ rfl (by simp; omega)).2
      have : 2 ^ (zeros (l.drop i) + 1) ≤ 2 ^ 32 := Nat.pow_le_pow_right (by omega) (by omega)
      simp only; omega

theorem code_getD (v k : Nat) : (code v).getD k false = (decide (k < clen v) && (v + 1).testBit (clen v - 1 - k)) := by rw [code, digits_getD]
theorem code_zeros (v : Nat) (m : List Bool) : zeros (code v ++ m) = (v + 1).log2 := by
  apply zeros_eq
  · intro k hk
    rw [getD_append', if_pos (by simp [clen]; omega), code_getD]
    rw [Nat.testBit_lt_two_pow]
    · simp
    · exact Nat.lt_of_lt_of_le Nat.lt_log2_self (Nat.pow_le_pow_right (by omega) (by unfold clen; omega))
  · rw [getD_append', if_pos (by simp [clen]; omega), code_getD, show clen v - 1 - (v + 1).log2 = (v + 1).log2 by unfold clen; omega]
    have h1 : 2 ^ (v + 1).log2 ≤ v + 1 := Nat.log2_self_le (by omega)
    have h2 : v + 1 < 2 ^ ((v + 1).log2 + 1) := Nat.lt_log2_self
    have h3 : (v + 1) / 2 ^ (v + 1).log2 = 1 := by
      rw [Nat.pow_succ] at h2
      exact Nat.div_eq_of_lt_le (by omega) (by omega)
    rw [Nat.testBit_eq_decide_div_mod_eq, h3]
    have h4 : (v + 1).log2 < clen v := by unfold clen; omega
    simp [h4]

/-- What was put is got. -/
theorem gget_code (l : List Bool) (i v : Nat) (m : List Bool) (hv : v ≤ 4294967294) (h : l.drop i = code v ++ m) (hi : i ≤ l.length) : gget l i = (v, 0, i + clen v) := by
  have hl : l.length = i + clen v + m.length := by
    have := congrArg List.length h
    simp at this; omega
  unfold gget
  rw [h, code_zeros]
  have h1 := log2_small hv
  rw [if_neg (by omega), if_neg (by unfold clen at hl; omega)]
  have e : 2 * (v + 1).log2 + 1 = (code v).length := by simp [clen]
  rw [show 2 * (v + 1).log2 + 1 = (code v).length by simp [clen], List.take_left, number_code]
  simp

/-- Whether a number with a sign folds. -/
def folds (x : Int) : Prop := -2147483647 ≤ x ∧ x ≤ 2147483647
instance (x : Int) : Decidable (folds x) := inferInstanceAs (Decidable (_ ∧ _))
/-- What it folds into. -/
def folded (x : Int) : Nat := if 0 < x then (2 * x - 1).toNat else (-2 * x).toNat
/-- The number that folds into v. -/
def unfolded (v : Nat) : Int := if 4294967294 < v then 0 else if v % 2 = 1 then ((v + 1) / 2 : Nat) else -((v / 2 : Nat) : Int)
theorem folded_le {x : Int} (h : folds x) : folded x ≤ 4294967294 := by unfold folds at h; unfold folded; split <;> omega
theorem unfolded_folded {x : Int} (h : folds x) : unfolded (folded x) = x := by
  have := folded_le h
  unfold folds at h
  unfold unfolded
  rw [if_neg (by omega)]
  unfold folded
  split <;> split <;> omega

theorem i64_xor_ones (a : Int) (h0 : -9223372036854775808 ≤ a) (h1 : a ≤ 9223372036854775807) : bits .xor .i64 a (-1) = -1 - a := by
  show IntKind.i64.wrap ((BitVec.ofInt 64 a ^^^ BitVec.ofInt 64 (-1)).toNat : Int) = _
  rw [show BitVec.ofInt 64 (-1) = BitVec.allOnes 64 by decide, BitVec.xor_allOnes, BitVec.toNat_not, BitVec.toNat_ofInt, IntKind.wrap_i64]
  omega
theorem i64_xor_none (a : Int) (h0 : -9223372036854775808 ≤ a) (h1 : a ≤ 9223372036854775807) : bits .xor .i64 a 0 = a := by
  show IntKind.i64.wrap ((BitVec.ofInt 64 a ^^^ BitVec.ofInt 64 0).toNat : Int) = _
  rw [show BitVec.ofInt 64 0 = 0#64 by decide, BitVec.xor_zero, BitVec.toNat_ofInt, IntKind.wrap_i64]
  omega
theorem u64_and_one (v : Nat) (h : v < 18446744073709551616) : bits .and .u64 (v : Int) 1 = ((v % 2 : Nat) : Int) := by
  rw [show (1 : Int) = ((1 : Nat) : Int) by rfl, u64_and_nat _ _ h (by omega)]
  rw [show (1 : Nat) = 2 ^ 1 - 1 by rfl, Nat.and_two_pow_sub_one_eq_mod]

/-- Of two numbers' codes the first bits, as many as the shorter has, are one number only for one number. -/
theorem code_prefix {a b : Nat} {m : Nat} (ha : m ≤ clen a) (hb : m ≤ clen b) (hm : m = clen a ∨ m = clen b) (h : number ((code a).take m) = number ((code b).take m)) : a = b := by
  have e : (code a).take m = (code b).take m := by
    have h1 : ((code a).take m).length = m := by simp; omega
    have h2 : ((code b).take m).length = m := by simp; omega
    have k1 := digits_number ((code a).take m)
    have k2 := digits_number ((code b).take m)
    rw [h1] at k1; rw [h2] at k2
    rw [← k1, ← k2, h]
  have hz : (a + 1).log2 = (b + 1).log2 := by
    rcases hm with rfl | rfl
    · have h1 : code a = (code b).take (clen a) := by
        rw [← e]; exact (List.take_of_length_le (by simp)).symm
      have h2 : code b = code a ++ (code b).drop (clen a) := by
        conv => lhs; rw [← List.take_append_drop (clen a) (code b)]
        rw [← h1]
      have h3 := code_zeros b []
      rw [List.append_nil, h2, code_zeros] at h3
      exact h3
    · have h1 : code b = (code a).take (clen b) := by
        rw [e]; exact (List.take_of_length_le (by simp)).symm
      have h2 : code a = code b ++ (code a).drop (clen b) := by
        conv => lhs; rw [← List.take_append_drop (clen b) (code a)]
        rw [← h1]
      have h3 := code_zeros a []
      rw [List.append_nil, h2, code_zeros] at h3
      exact h3.symm
  have hl : clen a = clen b := by unfold clen; rw [hz]
  have hm' : m = clen a ∧ m = clen b := by rcases hm with rfl | rfl <;> omega
  have h1 : (code a).take m = code a := List.take_of_length_le (by simp; omega)
  have h2 : (code b).take m = code b := List.take_of_length_le (by simp; omega)
  rw [h1, h2, number_code, number_code] at h
  omega
theorem clen_mono {a b : Nat} (h : a ≤ b) : clen a ≤ clen b := by
  unfold clen
  have h1 : 2 ^ (a + 1).log2 ≤ b + 1 := Nat.le_trans (Nat.log2_self_le (by omega)) (by omega)
  have := (Nat.le_log2 (by omega)).2 h1
  omega
end Go.Proofs.Ytfjlepnodmeaaaa

/-
  Contracts of the landed book: where its chances lie; New, Copy, Same, isTopic, isChoice, isFirst, math/bits.Len below 2^32. Conditions: numbers lie in their types' ranges.
-/
namespace Go.Proofs.Ytfjlepnodmeaaaa
open Go.RowKit

/-! 592 chances in a row. -/
def arrC (n : Nat) (f : Nat → Nat) : Array Value := ((List.range n).map fun i => Value.int .u16 (f i : Int)).toArray
theorem arrC_size (n : Nat) (f : Nat → Nat) : (arrC n f).size = n := by simp [arrC]
theorem arrC_get {n : Nat} (f : Nat → Nat) {i : Nat} (h : i < n) : (arrC n f)[i]? = some (.int .u16 (f i : Int)) := by simp [arrC, h]
theorem arrC_congr {n : Nat} {f g : Nat → Nat} (h : ∀ i, i < n → f i = g i) : arrC n f = arrC n g := by
  unfold arrC
  congr 1
  apply List.map_congr_left
  intro i hi
  rw [h i (by simpa using hi)]
theorem arrC_set (n : Nat) (f : Nat → Nat) (i v : Nat) : (arrC n f).setIfInBounds i (.int .u16 (v : Int)) = arrC n (upd f i v) := by
  apply Array.ext_getElem?
  intro j
  rw [Array.getElem?_setIfInBounds, arrC_size]
  by_cases h : j < n
  · rw [arrC_get _ h, arrC_get _ h]
    unfold upd
    by_cases hj : i = j
    · subst hj; simp [h]
    · rw [if_neg hj, if_neg (fun e => hj e.symm)]
  · have : ∀ f, (arrC n f)[j]? = none := fun f => by rw [Array.getElem?_eq_none]; rw [arrC_size]; omega
    rw [this, this]
    split <;> simp_all
theorem arrC_zero (n : Nat) : Array.replicate n (Value.int .u16 0) = arrC n fun _ => 0 := by
  apply Array.ext_getElem?
  intro i
  by_cases h : i < n
  · rw [arrC_get _ h]; simp [h]
  · rw [Array.getElem?_eq_none (by simpa using h), Array.getElem?_eq_none (by rw [arrC_size]; omega)]
theorem arrC_one (n : Nat) (f : Nat → Nat) : (arrC n f).all (·.oneCell') = true := by
  apply Array.all_eq_true_iff_forall_mem.2
  intro v hv
  simp only [arrC, List.mem_toArray, List.mem_map] at hv
  obtain ⟨i, -, rfl⟩ := hv
  rfl
def Bk (w : World) (q : Nat) (B : Chs) : Prop := Blk w q 62 (arrC 592 B)
theorem Bk.lt {w : World} {q : Nat} {B : Chs} (h : Bk w q B) : q < w.heap.size := Blk.lt h
theorem Bk.fr {w w' : World} {q : Nat} {B : Chs} {S : List Nat} (h : Bk w q B) (hf : Fr S w w') (hq : q ∉ S) : Bk w' q B := Blk.fr h hf hq
theorem Bk.cell {w : World} {q : Nat} {B : Chs} (h : Bk w q B) {j : Nat} (hj : j < 592) : w.cell? ⟨q, j, none⟩ = some (.int .u16 (B j : Int)) := by rw [Blk.cell h, arrC_get _ hj]
theorem Bk.set {w : World} {q : Nat} {B : Chs} (h : Bk w q B) (j x : Nat) : Bk (w.setCell ⟨q, j, none⟩ (.int .u16 (x : Int))) q (upd B j x) := by
  have := Blk.set_ h j (.int .u16 (x : Int))
  rw [arrC_set] at this
  exact this

theorem zeroBk : (Try.prog.info? 62).map (fun i => (i.zero, i.size)) = some (some (.agg (Array.replicate 592 (.int .u16 0))), 592) := by kernel_rfl
theorem sizePs : (Try.prog.info? 60).map (·.size) = some 592 := by kernel_rfl
theorem undPs : Try.prog.underlying 60 = some (.array 16 59) := by kernel_rfl
theorem sizePg : (Try.prog.info? 59).map (·.size) = some 37 := by kernel_rfl
theorem undPg : Try.prog.underlying 59 = some (.array 37 57) := by kernel_rfl
theorem sizeCh : (Try.prog.info? 57).map (·.size) = some 1 := by kernel_rfl
theorem undCh : Try.prog.underlying 57 = some (.int .u16) := by kernel_rfl

set_option maxRecDepth 20000 in
theorem bnew_any (w : World) :
    Calls Try.prog 9 #[] w fun e w' => ∃ q, e = .returned (pt q) ∧ Bk w' q newBook ∧ Fr [] w w' ∧ w.heap.size ≤ q := by
  have z := (zero_of_info zeroBk).1
  go_enter Try.func9, Try.ntmps9
  go_upto_region 2 with fail
  have hF : Fr [] w (w.alloc (Obj.cells (Array.replicate 592 (Value.int IntKind.u16 0)) 62)) := (Fr.refl _ _).alloc _
  have hB := Blk.new w 62 (Array.replicate 592 (Value.int IntKind.u16 0))
  generalize hw2 : (w.alloc (Obj.cells (Array.replicate 592 (Value.int IntKind.u16 0)) 62)) = w2 at hF hB ⊢
  clear hw2 z
  rw [arrC_zero] at hB
  obtain ⟨q, hq⟩ : ∃ q, q = w.heap.size := ⟨_, rfl⟩
  rw [← hq] at hB ⊢
  have hB0 : Bk w2 q (fun j => if j < 37 * 0 then 1024 else 0) := by
    unfold Bk
    rw [arrC_congr (g := fun _ => 0) (fun i _ => by simp)]
    exact hB
  have HB0 := Lib.hid hB0
  have HF0 := Lib.hid hF
  have Hq := Lib.hid hq
  clear hB0 hF hq hB
  go_wp2_with fail
  go_loopw [6] (fun s2 wr => ∃ t : Nat, t ≤ 16 ∧ s2 = .int .i64 (t : Int) ∧ Bk wr q (fun j => if j < 37 * t then 1024 else 0) ∧ Fr [] w wr) (fun s2 _ => 16 - (intOf s2).toNat)
  case atStart => exact ⟨0, by omega, rfl, HB0.out, HF0.out⟩
  case round =>
    obtain ⟨t, ht, rfl, hB, hF⟩ := hrel
    have HB := Lib.hid hB; have HF := Lib.hid hF
    clear hB hF HB0 HF0
    by_cases h16 : t < 16
    · have e1 : decide ((t : Int) < 16) = true := by simp; omega
      go_wp2_with fail
      go_loopw [9] (fun s3 wr => ∃ i : Nat, i ≤ 37 ∧ s3 = .int .i64 (i : Int) ∧ Bk wr q (fun j => if j < 37 * t + i then 1024 else 0) ∧ Fr [] w wr) (fun s3 _ => 37 - (intOf s3).toNat)
      case atStart => exact ⟨0, by omega, rfl, HB.out, HF.out⟩
      case round =>
        obtain ⟨i, hi, rfl, hB, hF⟩ := hrel
        have HB2 := Lib.hid hB; have HF2 := Lib.hid hF
        clear hB hF HB HF
        by_cases h37 : i < 37
        · have e2 : decide ((i : Int) < 37) = true := by simp; omega
          have c0 := HB2.out.cell (j := t * 37 + i) (by omega)
          have f0 := Blk.frozen HB2.out (t * 37 + i)
          go_wp2_with fail
          refine ⟨⟨i + 1, by omega, by simp, ?_, HF2.out.setCell (.inr (by rw [Hq.out]; exact Nat.le_refl _)) _⟩, by simp [intOf]; omega⟩
          have h := HB2.out.set (t * 37 + i) 1024
          unfold Bk at h ⊢
          rw [arrC_congr (g := fun j => if j < 37 * t + (i + 1) then 1024 else 0)] at h
          · exact h
          · intro j _
            unfold upd
            by_cases hj : j = t * 37 + i
            · rw [if_pos hj, if_pos (by omega)]
            · rw [if_neg hj]
              show (if j < 37 * t + i then 1024 else 0) = _
              by_cases hl : j < 37 * t + i
              · rw [if_pos hl, if_pos (by omega)]
              · rw [if_neg hl, if_neg (by omega)]
        · have e2 : decide ((i : Int) < 37) = false := by simp; omega
          obtain rfl : i = 37 := by omega
          have hB3 : Bk wr q (fun j => if j < 37 * (t + 1) then 1024 else 0) := by
            rw [show 37 * (t + 1) = 37 * t + 37 by omega]
            exact HB2.out
          have HB3 := Lib.hid hB3
          clear hB3 HB2
          go_wp2_with fail
          exact ⟨⟨t + 1, by omega, by simp, HB3.out, HF2.out⟩, by simp [intOf]; omega⟩
    · have e1 : decide ((t : Int) < 16) = false := by simp; omega
      obtain rfl : t = 16 := by omega
      go_wp2_with fail
      go_ret
      refine ⟨q, rfl, ?_, HF.out, by rw [Hq.out]; exact Nat.le_refl _⟩
      have h := HB.out
      unfold Bk at h ⊢
      rw [arrC_congr (g := newBook)] at h
      · exact h
      · intro j hj
        rw [if_pos (by omega)]
        rfl

theorem btopic_any (t : Int) (w : World) :
    Calls Try.prog 38 #[.int .i64 t] w fun e w' => e = .returned (.bool (decide (0 ≤ t ∧ t ≤ 15))) ∧ w' = w := by
  obtain ⟨T, hT⟩ : ∃ T, T = decide (0 ≤ t ∧ t ≤ 15) := ⟨_, rfl⟩
  rw [← hT]
  by_cases h1 : 0 ≤ t
  · by_cases h2 : t < 16
    · obtain rfl : T = true := by rw [hT]; simp; omega
      have e1 : decide (0 ≤ t) = true := by simpa using h1
      have e2 : decide (t < 16) = true := by simpa using h2
      clear hT
      go_enter Try.func38, Try.ntmps38
      go_wp2_with fail
      go_ret
      exact ⟨rfl, rfl⟩
    · obtain rfl : T = false := by rw [hT]; simp; omega
      have e1 : decide (0 ≤ t) = true := by simpa using h1
      have e2 : decide (t < 16) = false := by simpa using h2
      clear hT
      go_enter Try.func38, Try.ntmps38
      go_wp2_with fail
      go_ret
      exact ⟨rfl, rfl⟩
  · obtain rfl : T = false := by rw [hT]; simp; omega
    have e1 : decide (0 ≤ t) = false := by simpa using h1
    clear hT
    go_enter Try.func38, Try.ntmps38
    go_wp2_with fail
    go_ret
    exact ⟨rfl, rfl⟩

theorem bchoice_any (t : Int) (w : World) :
    Calls Try.prog 43 #[.int .i64 t] w fun e w' => e = .returned (.bool (decide (1 ≤ t ∧ t ≤ 16))) ∧ w' = w := by
  obtain ⟨T, hT⟩ : ∃ T, T = decide (1 ≤ t ∧ t ≤ 16) := ⟨_, rfl⟩
  rw [← hT]
  by_cases h1 : 1 ≤ t
  · by_cases h2 : t ≤ 16
    · obtain rfl : T = true := by rw [hT]; simp; omega
      have e1 : decide (1 ≤ t) = true := by simpa using h1
      have e2 : decide (t ≤ 16) = true := by simpa using h2
      clear hT
      go_enter Try.func43, Try.ntmps43
      go_wp2_with fail
      go_ret
      exact ⟨rfl, rfl⟩
    · obtain rfl : T = false := by rw [hT]; simp; omega
      have e1 : decide (1 ≤ t) = true := by simpa using h1
      have e2 : decide (t ≤ 16) = false := by simpa using h2
      clear hT
      go_enter Try.func43, Try.ntmps43
      go_wp2_with fail
      go_ret
      exact ⟨rfl, rfl⟩
  · obtain rfl : T = false := by rw [hT]; simp; omega
    have e1 : decide (1 ≤ t) = false := by simpa using h1
    clear hT
    go_enter Try.func43, Try.ntmps43
    go_wp2_with fail
    go_ret
    exact ⟨rfl, rfl⟩

theorem bfirst_any (t : Nat) (w : World) :
    Calls Try.prog 64 #[.int .i64 (t : Int)] w fun e w' => e = .returned (.bool (decide (t < 16))) ∧ w' = w := by
  have e1 : decide ((t : Int) < 16) = decide (t < 16) := by simp; omega
  obtain ⟨T, hT⟩ : ∃ T, T = decide (t < 16) := ⟨_, rfl⟩
  rw [← hT] at e1 ⊢
  clear hT
  go_enter Try.func64, Try.ntmps64
  go_wp2_with fail
  go_ret
  exact ⟨rfl, rfl⟩

/-! Two rows alike. -/
section
variable {P : Program}
theorem run_equalIn_row (d : Nat) (t e : TypeId) (n k : Nat) (xs ys : Array Value) (X Y : Nat → Value) (b : Nat → Bool) (w : World) (ht : P.underlying t = some (.array n e)) (hs : ∀ w, (sizeOf e).run P w = .ok k w)
    (hx : ∀ i, i < n → (part e xs (i * k)).run P w = .ok (X i) w) (hy : ∀ i, i < n → (part e ys (i * k)).run P w = .ok (Y i) w)
    (hb : ∀ i, i < n → (Op.equalIn d e (X i) (Y i)).run P w = .ok (b i) w) :
    (Op.equalIn (d + 1) t (.agg xs) (.agg ys)).run P w = .ok ((List.range n).all b) w := by
  rw [List.range_eq_range', Op.equalIn]
  simp only [Sem.run_bind, run_underlying ht, Result.andThen_ok, hs, Std.Legacy.Range.forIn_eq_forIn_range', Std.Legacy.Range.size, Nat.sub_zero, Nat.add_sub_cancel, Nat.div_one]
  have hl : ∀ i ∈ List.range' 0 n 1, i < n := fun i hi => by simpa using (List.mem_range'_1.1 hi).2
  generalize List.range' 0 n 1 = l at hl ⊢
  induction l with
  | nil => simp
  | cons i l ih =>
    have hi : i < n := hl i (by simp)
    simp only [List.forIn_cons, Sem.run_bind, hx i hi, hy i hi, hb i hi, Result.andThen_ok, List.all_cons]
    cases hb : b i
    · simp
    · simp only [Bool.not_true, Bool.false_eq_true, if_false, Sem.run_pure, Result.andThen_ok, Bool.true_and]
      exact ih fun j hj => hl j (by simp [hj])
theorem sizeOf_run {e : TypeId} {k : Nat} (h : (P.info? e).map (·.size) = some k) (w : World) : (sizeOf e).run P w = .ok k w := by
  cases hq : P.info? e with
  | none => simp [hq] at h
  | some i =>
    have : i.size = k := by simpa [hq] using h
    simp [sizeOf, typeInfo, hq, this, Sem.run_bind]
end

theorem arrC_extract (B : Nat → Nat) (t n : Nat) (h : t + n ≤ 592) : (arrC 592 B).extract t (t + n) = arrC n (fun i => B (t + i)) := by
  apply Array.ext_getElem?
  intro j
  by_cases hj : j < n
  · rw [arrC_get _ hj, Array.getElem?_extract, if_pos (by rw [arrC_size]; omega), arrC_get _ (by omega)]
  · rw [Array.getElem?_eq_none (by simp [arrC_size]; omega), Array.getElem?_eq_none (by rw [arrC_size]; omega)]

theorem eql_page (f g : Nat → Nat) (w : World) :
    (Op.equalIn 9999 59 (.agg (arrC 37 f)) (.agg (arrC 37 g))).run Try.prog w = .ok ((List.range 37).all fun i => f i == g i) w := by
  refine run_equalIn_row (P := Try.prog) 9998 59 57 37 1 _ _ (fun i => .int .u16 (f i : Int)) (fun i => .int .u16 (g i : Int)) _ w undPg (sizeOf_run sizeCh) ?_ ?_ ?_
  · intro i hi
    have := arrC_get f hi
    simp only [Array.getElem?_eq_getElem (show i < (arrC 37 f).size by rw [arrC_size]; exact hi), Option.some.injEq] at this
    simp [part, isAgg, run_underlying undCh, Sem.run_bind, this, arrC_size, hi]
  · intro i hi
    have := arrC_get g hi
    simp only [Array.getElem?_eq_getElem (show i < (arrC 37 g).size by rw [arrC_size]; exact hi), Option.some.injEq] at this
    simp [part, isAgg, run_underlying undCh, Sem.run_bind, this, arrC_size, hi]
  · intro i hi
    rw [run_equalIn_int w 9997 57 .u16 .u16 _ _ undCh]
    congr 1
    rw [Bool.eq_iff_iff]
    simp
    omega
theorem part_page (f : Nat → Nat) (t : Nat) (ht : t < 16) (w : World) : (part 59 (arrC 592 f) (t * 37)).run Try.prog w = .ok (.agg (arrC 37 fun i => f (t * 37 + i))) w := by
  have h1 := sizeOf_run (P := Try.prog) sizePg w
  have h2 := arrC_extract f (t * 37) 37 (by omega)
  unfold part isAgg
  simp only [Sem.run_bind, run_underlying undPg, Result.andThen_ok, Sem.run_pure, if_true, h1, h2]
theorem eql_all (f g : Nat → Nat) : ((List.range 16).all fun t => (List.range 37).all fun i => f (t * 37 + i) == g (t * 37 + i)) = sameB f g := by
  unfold sameB
  rw [Bool.eq_iff_iff, List.all_eq_true, List.all_eq_true]
  constructor
  · intro h j hj
    have hj : j < 592 := by simpa using hj
    have h1 := h (j / 37) (by simp; omega)
    rw [List.all_eq_true] at h1
    have h2 := h1 (j % 37) (by simp; omega)
    rw [show j / 37 * 37 + j % 37 = j by omega] at h2
    exact h2
  · intro h t ht
    have ht : t < 16 := by simpa using ht
    rw [List.all_eq_true]
    intro i hi
    have hi : i < 37 := by simpa using hi
    exact h (t * 37 + i) (by simp; omega)
theorem eql_pages (f g : Nat → Nat) (w : World) :
    (binOp .eql 60 (.agg (arrC 592 f)) (.agg (arrC 592 g))).run Try.prog w = .ok (.bool (sameB f g)) w := by
  have h := run_equalIn_row (P := Try.prog) 9999 60 59 16 37 (arrC 592 f) (arrC 592 g) (fun t => .agg (arrC 37 fun i => f (t * 37 + i))) (fun t => .agg (arrC 37 fun i => g (t * 37 + i))) _ w undPs (sizeOf_run sizePg) (fun t ht => part_page f t ht w) (fun t ht => part_page g t ht w) (fun t ht => eql_page _ _ w)
  have e : ((List.range 16).all fun t => (List.range 37).all fun i => f (t * 37 + i) == g (t * 37 + i)) = sameB f g := eql_all f g
  rw [e] at h
  rw [run_eql_struct]
  exact (congrArg (fun r => Result.andThen r fun b w' => Result.ok (Value.bool b) w') h).trans rfl
end Go.Proofs.Ytfjlepnodmeaaaa

/-
  Contracts of the landed book: Same, Copy. No condition.
-/
namespace Go.Proofs.Ytfjlepnodmeaaaa
open Go.RowKit

theorem fold_zip_list : ∀ (l : List Value) (k : Nat) (Z : Array Value) (j : Nat),
    (List.foldl (fun (a : Array Value) (x : Value × Nat) => a.setIfInBounds x.snd x.fst) Z (l.zipIdx k))[j]? = if k ≤ j ∧ j < k + l.length ∧ j < Z.size then l[j - k]? else Z[j]?
  | [], k, Z, j => by
    rw [if_neg (by simp; omega)]
    rfl
  | u :: l, k, Z, j => by
    rw [List.zipIdx_cons, List.foldl_cons, fold_zip_list l (k + 1) _ j]
    simp only [Array.size_setIfInBounds, List.length_cons, Array.getElem?_setIfInBounds]
    by_cases hj : k = j
    · subst hj
      rw [if_neg (by omega), if_pos rfl]
      by_cases hz : k < Z.size
      · rw [if_pos hz, if_pos ⟨by omega, by omega, hz⟩]
        simp
      · rw [if_neg hz, if_neg (by omega), Array.getElem?_eq_none (by omega)]
    · by_cases h1 : k + 1 ≤ j ∧ j < k + 1 + l.length ∧ j < Z.size
      · rw [if_pos h1, if_pos ⟨by omega, by omega, by omega⟩, show j - k = (j - (k + 1)) + 1 by omega]
        rfl
      · rw [if_neg h1, if_neg hj, if_neg (by omega)]
theorem fold_zip (cs Z : Array Value) (n : Nat) (hc : cs.size = n) (hz : Z.size = n) : Array.foldl (fun (a : Array Value) (x : Value × Nat) => a.setIfInBounds x.snd x.fst) Z cs.zipIdx 0 n = cs := by
  have h0 : Array.foldl (fun (a : Array Value) (x : Value × Nat) => a.setIfInBounds x.snd x.fst) Z cs.zipIdx 0 n = List.foldl (fun (a : Array Value) (x : Value × Nat) => a.setIfInBounds x.snd x.fst) Z (cs.toList.zipIdx 0) := by
    have := Array.foldl_toList (xs := cs.zipIdx) (init := Z) (fun (a : Array Value) (x : Value × Nat) => a.setIfInBounds x.snd x.fst)
    rw [Array.toList_zipIdx] at this
    rw [this, Array.size_zipIdx, hc]
  rw [h0]
  apply Array.ext_getElem?
  intro j
  rw [fold_zip_list]
  by_cases hj : j < n
  · rw [if_pos ⟨by omega, by simp; omega, by omega⟩]
    simp
  · rw [if_neg (by omega), Array.getElem?_eq_none (by omega), Array.getElem?_eq_none (by omega)]
/-- A whole array, read, as an operation. -/
theorem exec_loadB {P : Program} {a : Act} {o : Oper} {ty : TypeId} {x : Operand} {g : Nat} {cs : Array Value} {W : World} (ho : o.op = .load ty x) (hx : a.eval x = .pointer (some ⟨g, 0, none⟩))
    (h : (loadVar ty ⟨g, 0, none⟩).run P W = .ok (.agg cs) W) : (execOp a.eval o).run P W = .ok (.value (.agg cs)) W := by
  unfold execOp
  simp only [ho, hx, Instr.loadAt, Instr.sureAddr, Sem.run_bind, Sem.run_pure, Result.andThen_ok, h]
theorem load_arrB {W : World} {p : Nat} {t : TypeId} {cs : Array Value} (hB : Blk W p t cs) {ty : TypeId} {n : Nat} {e : TypeId} (hu : Try.prog.underlying ty = some (.array n e)) (hi : (Try.prog.info? ty).map (·.size) = some cs.size) :
    (loadVar ty ⟨p, 0, none⟩).run Try.prog W = .ok (.agg cs) W :=
  run_loadVar_row W p t ty cs (0, 0) _ hB.here hu rfl hi
theorem zeroBk_size : Try.zeroCells62.size = 592 := by decide +kernel

set_option maxRecDepth 20000 in
theorem bsame_any (w : World) (b : Nat) (B : Chs) (c : Nat) (C : Chs) (hb : Bk w b B) (hc : Bk w c C) :
    Calls Try.prog 23 #[pt b, pt c] w fun r w' => r = .returned (.bool (sameB B C)) ∧ Fr [] w w' := by
  have hs : ∀ f, (Try.prog.info? 60).map (·.size) = some (arrC 592 f).size := fun f => by rw [arrC_size]; exact sizePs
  have he := eql_pages B C
  obtain ⟨S, hS⟩ : ∃ S, S = sameB B C := ⟨_, rfl⟩
  rw [← hS] at he ⊢
  clear hS
  have Hs := Lib.hid hs
  have Hb := Lib.hid hb
  have Hc := Lib.hid hc
  clear hs hb hc
  go_enter Try.func23, Try.ntmps23
  go_upto_region 3 with fail
  have hb := Blk.drew Hb.out
  have hc := Blk.drew Hc.out
  refine wp_region_held_drew (S := fun W => Blk W b 62 (arrC 592 B) ∧ Blk W c 62 (arrC 592 C)) (by kernel_rfl) ?_ (fun hHeld => ?_)
  · exact ⟨hb, hc⟩
  refine wpAnyH_pick 0 (v := ?_) rfl (by kernel_rfl) (by kernel_rfl) (by kernel_rfl) (fun _ _ _ h => h) (by assumption) (by rfl) ?_ ?_
  rotate_left
  · (intro w hSw; (try dsimp only at hSw); go_simp) <;> (with_reducible rfl)
  (try simp only [Act.put, List.setIfInBounds_toArray, List.set_cons_zero, List.set_cons_succ])
  refine wpAnyH_pick 1 (v := ?_) rfl (by kernel_rfl) (by kernel_rfl) (by kernel_rfl) (fun _ _ _ h => h) (by assumption) (by rfl) ?_ ?_
  rotate_left
  · (intro w hSw; (try dsimp only at hSw); go_simp) <;> (with_reducible rfl)
  (try simp only [Act.put, List.setIfInBounds_toArray, List.set_cons_zero, List.set_cons_succ])
  refine wpAnyH_pick 2 (v := ?_) rfl (by kernel_rfl) (by kernel_rfl) (by kernel_rfl) (fun _ _ _ h => h) (by assumption) (by rfl) ?_ ?_
  rotate_left
  · (intro w hSw; (try dsimp only at hSw); go_simp) <;> (with_reducible rfl)
  (try simp only [Act.put, List.setIfInBounds_toArray, List.set_cons_zero, List.set_cons_succ])
  refine wpAnyH_pick 3 rfl (by kernel_rfl) (by kernel_rfl) (by kernel_rfl) (fun _ _ _ h => h) (by assumption) (by rfl) (fun w hSw => exec_loadB rfl rfl (load_arrB hSw.1 undPs (Hs.out _))) ?_
  (try simp only [Act.put, List.setIfInBounds_toArray, List.set_cons_zero, List.set_cons_succ])
  refine wpAnyH_pick 4 (v := ?_) rfl (by kernel_rfl) (by kernel_rfl) (by kernel_rfl) (fun _ _ _ h => h) (by assumption) (by rfl) ?_ ?_
  rotate_left
  · (intro w hSw; (try dsimp only at hSw); go_simp) <;> (with_reducible rfl)
  (try simp only [Act.put, List.setIfInBounds_toArray, List.set_cons_zero, List.set_cons_succ])
  refine wpAnyH_pick 5 (v := ?_) rfl (by kernel_rfl) (by kernel_rfl) (by kernel_rfl) (fun _ _ _ h => h) (by assumption) (by rfl) ?_ ?_
  rotate_left
  · (intro w hSw; (try dsimp only at hSw); go_simp) <;> (with_reducible rfl)
  (try simp only [Act.put, List.setIfInBounds_toArray, List.set_cons_zero, List.set_cons_succ])
  refine wpAnyH_pick 6 (v := ?_) rfl (by kernel_rfl) (by kernel_rfl) (by kernel_rfl) (fun _ _ _ h => h) (by assumption) (by rfl) ?_ ?_
  rotate_left
  · (intro w hSw; (try dsimp only at hSw); go_simp) <;> (with_reducible rfl)
  (try simp only [Act.put, List.setIfInBounds_toArray, List.set_cons_zero, List.set_cons_succ])
  refine wpAnyH_pick 7 rfl (by kernel_rfl) (by kernel_rfl) (by kernel_rfl) (fun _ _ _ h => h) (by assumption) (by rfl) (fun w hSw => exec_loadB rfl rfl (load_arrB hSw.2 undPs (Hs.out _))) ?_
  (try simp only [Act.put, List.setIfInBounds_toArray, List.set_cons_zero, List.set_cons_succ])
  refine wpAnyH_pick 8 (v := ?_) rfl (by kernel_rfl) (by kernel_rfl) (by kernel_rfl) (fun _ _ _ h => h) (by assumption) (by rfl) ?_ ?_
  rotate_left
  · (intro w hSw; (try dsimp only at hSw); go_simp) <;> (with_reducible rfl)
  (try simp only [Act.put, List.setIfInBounds_toArray, List.set_cons_zero, List.set_cons_succ])
  refine wpAnyH_pick 9 (v := ?_) rfl (by kernel_rfl) (by kernel_rfl) (by kernel_rfl) (fun _ _ _ h => h) (by assumption) (by rfl) ?_ ?_
  rotate_left
  · (intro w hSw; (try dsimp only at hSw); go_simp) <;> (with_reducible rfl)
  (try simp only [Act.put, List.setIfInBounds_toArray, List.set_cons_zero, List.set_cons_succ])
  refine wpAnyH_done (by kernel_rfl) ?_ _
  skip
  go_wp2_with fail
  go_ret
  exact ⟨rfl, (Fr.refl _ _).drew⟩
set_option maxRecDepth 20000 in
theorem bsameNN_any (w : World) : Calls Try.prog 23 #[.pointer none, .pointer none] w fun r w' => r = .returned (.bool true) ∧ Fr [] w w' := by
  go_enter Try.func23, Try.ntmps23
  go_wp2_with fail
  go_ret
  exact ⟨rfl, Fr.refl _ _⟩
theorem eql_nil_pt (w : World) (b : Nat) : (binOp .eql 23 (.pointer none) (pt b)).run Try.prog w = .ok (.bool false) w := by
  have hu : Try.prog.underlying 23 = some (.pointer 62) := by kernel_rfl
  have h : ∀ d : Nat, (Op.equalIn (d + 1) 23 (.pointer none) (pt b)).run Try.prog w = .ok false w := fun d => by
    simp [Op.equalIn, run_underlying hu]
  simp only [binOp]
  simp [Op.equal, Op.maxDepth, h 9999]
set_option maxRecDepth 20000 in
theorem bsameNB_any (w : World) (b : Nat) : Calls Try.prog 23 #[.pointer none, pt b] w fun r w' => r = .returned (.bool false) ∧ Fr [] w w' := by
  have he := fun w => eql_nil_pt w b
  go_enter Try.func23, Try.ntmps23
  go_wp2_with fail
  go_ret
  exact ⟨rfl, Fr.refl _ _⟩
set_option maxRecDepth 20000 in
theorem bcopyNil_any (w : World) : Calls Try.prog 22 #[.pointer none] w fun r w' => r = .returned (.pointer none) ∧ Fr [] w w' := by
  go_enter Try.func22, Try.ntmps22
  go_wp2_with fail
  go_ret
  exact ⟨rfl, Fr.refl _ _⟩

set_option maxRecDepth 20000 in
theorem bcopy_any (w : World) (b : Nat) (B : Chs) (hb : Bk w b B) :
    Calls Try.prog 22 #[pt b] w fun r w' => ∃ c, r = .returned (pt c) ∧ Bk w' c B ∧ Fr [] w w' ∧ w.heap.size ≤ c := by
  have hs : (Try.prog.info? 60).map (·.size) = some (arrC 592 B).size := by rw [arrC_size]; exact sizePs
  have hz : (arrC 592 B).size = 592 := arrC_size _ _
  obtain ⟨cs, hcs⟩ : ∃ cs, cs = arrC 592 B := ⟨_, rfl⟩
  have hb' := hb
  unfold Bk at hb'
  rw [← hcs] at hs hz hb'
  have Hs := Lib.hid hs
  have Hb := Lib.hid hb'
  have Hc := Lib.hid hcs
  clear hs hb hb' hcs
  go_enter Try.func22, Try.ntmps22
  go_wp2_with (first
        | refine wpList_load_row rfl 60 _ rfl b rfl 62 _ _ _ Hb.out.here undPs rfl Hs.out ?_)
  rw [fold_zip cs _ 592 hz zeroBk_size]
  go_ret
  refine ⟨w.heap.size, rfl, ?_, (Fr.refl _ _).alloc _, Nat.le_refl _⟩
  have h := Blk.new w 62 cs
  rw [Hc.out] at h
  rw [Hc.out]
  exact h
end Go.Proofs.Ytfjlepnodmeaaaa

/-
  Contracts of the program's coder: isOne, bound, isNarrow, Next, bytes.Clone; conditions: the widths are below 2^32.
-/
namespace Go.Proofs.Ytfjlepnodmeaaaa
open Go.RowKit

theorem isOne_any (c : Nat) (w : World) :
    Calls Try.prog 65 #[.int .u16 (c : Int)] w fun e w' => e = .returned (.bool (decide (rightC c))) ∧ w' = w := by
  by_cases h1 : 31 ≤ c
  · have e1 : decide ((31 : Int) ≤ (c : Int)) = true := by simp; omega
    by_cases h2 : c ≤ 2017
    · have e2 : decide ((c : Int) ≤ 2017) = true := by simp; omega
      have e3 : decide (rightC c) = true := decide_eq_true ⟨h1, h2⟩
      go_enter Try.func65, Try.ntmps65
      go_wp2_with fail
      go_ret
      exact ⟨by rw [e3]; rfl, rfl⟩
    · have e2 : decide ((c : Int) ≤ 2017) = false := by simp; omega
      have e3 : decide (rightC c) = false := decide_eq_false fun h => h2 h.2
      go_enter Try.func65, Try.ntmps65
      go_wp2_with fail
      go_ret
      exact ⟨by rw [e3]; rfl, rfl⟩
  · have e1 : decide ((31 : Int) ≤ (c : Int)) = false := by simp; omega
    have e3 : decide (rightC c) = false := decide_eq_false fun h => h1 h.1
    go_enter Try.func65, Try.ntmps65
    go_wp2_with fail
    go_ret
    exact ⟨by rw [e3]; rfl, rfl⟩

theorem bound_any (c r : Nat) (w : World) (hc : rightC c) (hr : 16777216 ≤ r) (hr2 : r ≤ 4294967295) :
    Calls Try.prog 66 #[.int .u16 (c : Int), .int .u32 (r : Int)] w fun e w' => e = .returned (.int .u32 (bnd r c : Int)) ∧ w' = w := by
  obtain ⟨B, hB⟩ : ∃ B, B = bnd r c := ⟨_, rfl⟩
  have hb2 := bnd_hi hr hc
  rw [← hB] at hb2 ⊢
  have eB : (r : Int) / 2048 * (c : Int) = (B : Int) := by rw [hB]; unfold bnd; simp
  have e1 : IntKind.wrap .u32 (c : Int) = (c : Int) := IntWalk.u32_in _ (by have := hc.2; omega)
  have e2 : IntKind.wrap .u32 (B : Int) = (B : Int) := IntWalk.u32_in _ (by omega)
  clear hB hb2
  go_enter Try.func66, Try.ntmps66
  go_wp2_with fail
  go_ret
  exact ⟨rfl, rfl⟩

theorem isNarrow_any (r : Nat) (w : World) :
    Calls Try.prog 68 #[.int .u32 (r : Int)] w fun e w' => e = .returned (.bool (decide (r < 16777216))) ∧ w' = w := by
  by_cases h1 : r < 16777216
  · have e1 : decide ((r : Int) < 16777216) = true := by simp; omega
    rw [decide_eq_true h1]
    go_enter Try.func68, Try.ntmps68
    go_wp2_with fail
    go_ret
    exact ⟨rfl, rfl⟩
  · have e1 : decide ((r : Int) < 16777216) = false := by simp; omega
    rw [decide_eq_false h1]
    go_enter Try.func68, Try.ntmps68
    go_wp2_with fail
    go_ret
    exact ⟨rfl, rfl⟩

theorem next_any : NextSpec := by
  intro w c bit hc hb1 hb2
  obtain ⟨y, hy⟩ : ∃ y, y = nextC c (bit != 0) := ⟨_, rfl⟩
  have hyr : rightC y := by rw [hy]; exact nextC_right _ _
  have hyl := hyr.2
  rw [← hy]
  have HY := Lib.hid hy; clear hy hyr
  by_cases hb : bit = 0
  · have eb : (bit == 0) = true := by simp [hb]
    have HB := Lib.hid (show (bit != 0) = false by simp [hb]); clear hb
    go_enter Try.func58, Try.ntmps58
    go_wp2_with fail
    all_goals
      go_ret
      refine ⟨?_, Fr.refl _ _⟩
      have hy := HY.out
      unfold nextC clampC at hy
      rw [HB.out, if_neg (by simp)] at hy
      first
        | (refine congrArg (fun z => Ending.returned (Value.int .u16 z)) (?_ : _ = (y : Int)); omega)
        | (exfalso; simp_all <;> omega)
  · have eb : (bit == 0) = false := by simp [hb]
    have HB := Lib.hid (show (bit != 0) = true by simp [hb]); clear hb
    go_enter Try.func58, Try.ntmps58
    go_wp2_with fail
    all_goals
      go_ret
      refine ⟨?_, Fr.refl _ _⟩
      have hy := HY.out
      unfold nextC clampC at hy
      rw [HB.out, if_pos rfl] at hy
      first
        | (refine congrArg (fun z => Ending.returned (Value.int .u16 z)) (?_ : _ = (y : Int)); omega)
        | (exfalso; simp_all <;> omega)

theorem clone_any (src : Value) (xs : List UInt8) (w : World) (hs : Src w src (xs.map B8)) (hn : xs.length ≤ 1000000000000) (hne : src.ownBlock ≠ none) :
    Calls Try.prog 33 #[src] w fun e w' => ∃ u, e = .returned u ∧ Mine w w' u xs ∧ u.ownBlock ≠ none := by
  obtain ⟨ad, c, rfl⟩ : ∃ ad c, src = .slice (some ad) xs.length c := by
    rcases hs with ⟨rfl, h0⟩ | ⟨ad, c, rfl, -⟩
    · simp [Value.ownBlock] at hne
    · exact ⟨ad, c, by simp⟩
  obtain ⟨n, hnn⟩ : ∃ n, n = xs.length := ⟨_, rfl⟩
  rw [← hnn] at hs hn ⊢
  have HS := Lib.hid hs
  have Hn := Lib.hid hnn
  clear hs hnn hne
  have q : ∀ (w : World) (a : Option Addr) (n c n' c' : Nat), (binOp .eql 37 (.slice a n c) (.slice none n' c')).run Try.prog w = .ok (.bool a.isNone) w := fun w a n c n' c' => Lib.run_eql_slice_nil w _ _ a n c n' c' Try.underlying37
  go_enter Try.func33, Try.ntmps33
  go_wp2_with (at_builtin; refine wp_append_u8 _ _ (.slice (some ⟨w.heap.size, 0, none⟩) 0 0) [] (.slice (some ad) n c) xs rfl rfl rfl rfl (Own.lit w 5 #[] 0 rfl (by simp [maxLen])) (HS.out.fr0 ((Fr.refl _ _).alloc _)) (by simp; have := Hn.out; omega) ?_)
  intro vo w1 hO hG
  have hM := Mine.copied (w0 := w) (w := w) hO hG (Fr.refl _ _)
  have hne : vo.ownBlock ≠ none := by
    rcases hG.2 with e | ⟨g, e, -⟩
    · rw [e]; simp [Value.ownBlock]
    · rw [e]; simp
  have HM := Lib.hid hM
  clear hM hO hG
  go_wp2_with fail
  go_ret
  exact ⟨_, rfl, HM.out, hne⟩
end Go.Proofs.Ytfjlepnodmeaaaa

/-
  The program's encoder: New, add; conditions: the code fits.
-/
namespace Go.Proofs.Ytfjlepnodmeaaaa
open Go.RowKit

/-- The program's encoder: its bytes, in a row of its own, and the range. -/
def Pe (w : World) (p : Nat) (v : Value) (e : Enc) : Prop :=
  Blk w p 69 #[v, .int .u32 (e.r : Int)] ∧ Own w 5 v ((bytesOf e.n e.v).map B8) ∧ v.ownBlock ≠ some p

theorem four0 : [Value.int IntKind.u8 0, Value.int IntKind.u8 0, Value.int IntKind.u8 0, Value.int IntKind.u8 0] = ((bytesOf 4 0).map B8) := by rfl

theorem pnew_any (w : World) :
    Calls Try.prog 11 #[] w fun e w' => ∃ p v, e = .returned (.pointer (some ⟨p, 0, none⟩)) ∧ Pe w' p v encNew ∧ Fr [] w w' ∧ w.heap.size ≤ p ∧ ∀ k, v.ownBlock = some k → w.heap.size ≤ k := by
  obtain ⟨i, hi, hz, h1, h2⟩ := info_parts info_u8
  go_enter Try.func11, Try.ntmps11
  go_wp2_with (at_make; refine wpList_make_mine _ _ 37 5 i _ 1 _ _ 4 rfl rfl Try.underlying37 hi hz h1 h2 rfl rfl rfl (by omega) (by simp only [maxLen]; omega) ?_)
  intro w1 hO hF hlt
  have HO := Lib.hid hO
  have HF := Lib.hid hF
  clear hO hF
  go_wp2_with fail
  go_ret
  have hO := HO.out
  rw [four0] at hO
  refine ⟨w1.heap.size, .slice (some ⟨w.heap.size, 0, none⟩) 4 4, rfl, ⟨?_, hO.alloc _, ?_⟩, HF.out.alloc _, by omega, by simp [Value.ownBlock]⟩
  · exact Blk.new w1 69 #[Value.slice (some ⟨w.heap.size, 0, none⟩) 4 4, Value.int IntKind.u32 4294967295]
  · simp [Value.ownBlock]; omega

theorem Pe.form {w : World} {p : Nat} {v : Value} {e : Enc} (h : Pe w p v e) : ∃ g c, v = .slice g e.n c ∧ e.n ≤ c := by
  rcases h.2.1.form with ⟨rfl, h0⟩ | ⟨g, cap, cur, rfl, -, hc, -⟩
  · have := congrArg List.length h0
    simp at this
    exact ⟨none, 0, by rw [this], by omega⟩
  · exact ⟨_, _, by simp; exact ⟨rfl, rfl⟩, by simpa using hc⟩

set_option maxRecDepth 20000 in
set_option maxHeartbeats 4000000 in
theorem padd_any (p : Nat) (v : Value) (e : Enc) (n : Nat) (w : World) (h : Pe w p v e) (hn : e.v + n < 256 ^ e.n) (hl : e.n ≤ 1000000000) (hs : n ≤ 4294967295) :
    Calls Try.prog 67 #[.pointer (some ⟨p, 0, none⟩), .int .u32 (n : Int)] w fun e' w' => e' = .returned (.tuple #[]) ∧ Pe w' p v ⟨e.v + n, e.n, e.r⟩ ∧ Fr v.ownBlock.toList w w' := by
  obtain ⟨g, c, rfl, hgc⟩ := h.form
  obtain ⟨hB, hO, hne⟩ := h
  obtain ⟨ds, hds⟩ : ∃ ds, ds = bytesOf e.n e.v := ⟨_, rfl⟩
  have hdl : ds.length = e.n := by rw [hds, bytesOf_length]
  have hdv : valueOf ds = e.v := by rw [hds, valueOf_bytesOf, Nat.mod_eq_of_lt (by omega)]
  rw [← hds] at hO
  obtain ⟨L, hL⟩ : ∃ L, L = e.n := ⟨_, rfl⟩
  rw [← hL] at hdl hn hl hO hne hB ⊢
  have c0 := hB.cell 0
  have hlt := hB.lt
  simp at c0
  have ew : IntKind.u64.wrap (n : Int) = (n : Int) := IntWalk.u64_in _ (by omega)
  have Hds := Lib.hid hds; clear hds
  have Hdl := Lib.hid hdl; clear hdl
  have Hdv := Lib.hid hdv; clear hdv
  have HO := Lib.hid hO; clear hO
  have HB := Lib.hid hB; clear hB
  have Hne := Lib.hid hne; clear hne
  have Hn := Lib.hid hn; clear hn
  have HL := Lib.hid hL; clear hL
  go_enter Try.func67, Try.ntmps67
  go_wp2_with fail
  go_loopw [4, 5] (fun s4 s5 wr => ∃ (j cy : Nat) (xs : List UInt8), j ≤ L ∧ s5 = .int .i64 ((j : Int) - 1) ∧ s4 = .int .u64 (cy : Int) ∧ cy ≤ 4294967295 ∧ xs.length = L ∧ valueOf xs + cy * 256 ^ (L - j) = e.v + n ∧ Own wr 5 (.slice g L c) (xs.map B8) ∧ Blk wr p 69 #[.slice g L c, .int .u32 (e.r : Int)] ∧ Fr (Value.slice g L c).ownBlock.toList w wr) (fun _ s5 _ => (intOf s5 + 1).toNat)
  case atStart => exact ⟨L, n, ds, Nat.le_refl _, rfl, rfl, hs, Hdl.out, by rw [Nat.sub_self, Nat.pow_zero, Nat.mul_one, Hdv.out], HO.out, HB.out, Fr.refl _ _⟩
  case round =>
    obtain ⟨j, cy, xs, hj, rfl, rfl, hcy, hxl, hV, hO, hB, hF⟩ := hrel
    have Hxl := Lib.hid hxl; clear hxl
    have HV := Lib.hid hV; clear hV
    have HF := Lib.hid hF; clear hF
    have c1 := hB.cell 0
    simp at c1
    have hdone : (j = 0 ∨ cy = 0) → Pe wr p (.slice g L c) ⟨e.v + n, L, e.r⟩ := by
      intro hx
      have hval : valueOf xs = e.v + n := by
        have h1 := HV.out
        have h2 := Hn.out
        rcases hx with rfl | rfl
        · rw [Nat.sub_zero] at h1
          by_cases h0 : cy = 0
          · subst h0; omega
          · have : 1 * 256 ^ L ≤ cy * 256 ^ L := Nat.mul_le_mul_right _ (by omega)
            omega
        · omega
      refine ⟨hB, ?_, Hne.out⟩
      rw [← of_value Hxl.out hval]
      exact hO
    have HB2 := Lib.hid hB; clear hB
    by_cases hj0 : j = 0
    · subst hj0
      have hR := Lib.hid (hdone (.inl rfl)); clear hdone hO
      go_wp2_with fail
      go_end0
      exact ⟨rfl, hR.out, HF.out⟩
    · by_cases hc0 : cy = 0
      · subst hc0
        obtain ⟨k, rfl⟩ : ∃ k, j = k + 1 := ⟨j - 1, by omega⟩
        have hR := Lib.hid (hdone (.inr rfl)); clear hdone hO
        go_wp2_with fail
        go_end0
        exact ⟨rfl, hR.out, HF.out⟩
      · obtain ⟨k, rfl⟩ : ∃ k, j = k + 1 := ⟨j - 1, by omega⟩
        have e0 : decide ((0 : Int) < (cy : Int)) = true := by simp; omega
        clear hdone
        obtain ⟨g', rfl, c2, c3, -, -⟩ := hO.cell (j := k) (by simp; have := Hxl.out; omega)
        obtain ⟨x, hx⟩ : ∃ x, x = xs.getD k 0 := ⟨_, rfl⟩
        have hk : k < xs.length := by have := Hxl.out; omega
        have c4 : wr.cell? ⟨g', k, none⟩ = some (.int .u8 (x.toNat : Int)) := by
          rw [c2, List.getElem?_map, List.getElem?_eq_getElem hk, hx, List.getD_eq_getElem?_getD, List.getElem?_eq_getElem hk]; rfl
        have hxl := x.toNat_lt
        obtain ⟨V, hVV⟩ : ∃ V, V = cy + x.toNat := ⟨_, rfl⟩
        have eV : (cy : Int) + (x.toNat : Int) = (V : Int) := by omega
        obtain ⟨z, hz⟩ : ∃ z : UInt8, z = UInt8.ofNat (V % 256) := ⟨_, rfl⟩
        have hzn : z.toNat = V % 256 := by rw [hz]; simp
        have ex : IntKind.u64.wrap (x.toNat : Int) = (x.toNat : Int) := IntWalk.u64_in _ (by omega)
        have ew1 : IntKind.u64.wrap (V : Int) = (V : Int) := IntWalk.u64_in _ (by omega)
        have ez : (V : Int) % 256 = (z.toNat : Int) := by omega
        obtain ⟨cy', hcy'⟩ : ∃ cy', cy' = V / 256 := ⟨_, rfl⟩
        have ec : (V : Int) / 256 = (cy' : Int) := by omega
        have hsum : z.toNat + 256 * cy' = x.toNat + cy := by omega
        have hcl : cy' ≤ 4294967295 := by omega
        have h3 := hO.set k (B8 z)
        have hne : g' ≠ p := by have := Hne.out; simpa [Value.ownBlock] using this
        have hVn : valueOf (xs.set k z) + cy' * 256 ^ (L - k) = e.v + n := by
          have h1 := HV.out
          have h2 := valueOf_set xs k z hk
          rw [← hx, Hxl.out] at h2
          rw [show L - (k + 1) = L - 1 - k by omega] at h1
          rw [show L - k = (L - 1 - k) + 1 by omega, Nat.pow_succ]
          generalize 256 ^ (L - 1 - k) = P at h1 h2 ⊢
          have h4 : z.toNat * P + 256 * cy' * P = x.toNat * P + cy * P := by rw [← Nat.add_mul, hsum, Nat.add_mul]
          rw [show cy' * (P * 256) = 256 * cy' * P by rw [Nat.mul_comm P 256, ← Nat.mul_assoc, Nat.mul_comm cy' 256]]
          omega
        have H3 := Lib.hid h3
        have HVn := Lib.hid hVn
        have hVl : V ≤ 4294967550 := by omega
        clear h3 hVn hz hzn hVV hcy' hsum hx c2 hO
        go_wp2_with fail
        refine ⟨⟨k, cy', xs.set k z, by omega, by simp, rfl, hcl, by rw [List.length_set]; exact Hxl.out, HVn.out, ?_, HB2.out.far (by simp; omega) _, HF.out.setCell (.inl (by simp [Value.ownBlock])) _⟩, by simp [intOf]⟩
        have h5 := H3.out
        rw [← List.map_set] at h5
        exact h5

theorem Pe.span {w : World} {p : Nat} {v : Value} {e : Enc} (h : Pe w p v e) (r : Nat) : Pe (w.setCell ⟨p, 1, none⟩ (.int .u32 (r : Int))) p v ⟨e.v, e.n, r⟩ := by
  refine ⟨?_, h.2.1.fr (S := [p]) ((Fr.refl _ _).setCell (.inl (by simp)) _) (fun k hk hm => ?_), h.2.2⟩
  · have := h.1.set_ 1 (.int .u32 (r : Int))
    simpa using this
  · simp at hm; subst hm; exact h.2.2 hk

/-- What writing changes: the encoder's own cells, its row; the row is the same or new. -/
def PeFr (p : Nat) (v v' : Value) (w w' : World) : Prop := Fr (p :: v.ownBlock.toList) w w' ∧ (v'.ownBlock = v.ownBlock ∨ ∃ g, v'.ownBlock = some g ∧ w.heap.size ≤ g)

theorem pput_nil (w : World) (c : Nat) (bit : Int) : Calls Try.prog 57 #[.pointer none, .int .u16 (c : Int), .int .i64 bit] w fun r w' => r = .returned (.int .i64 1) ∧ Fr [] w w' := by
  go_enter Try.func57, Try.ntmps57
  go_wp2_with fail
  go_ret
  exact ⟨rfl, Fr.refl _ _⟩

theorem pput_bad (w : World) (p c : Nat) (bit : Int) (h : ¬ (rightC c ∧ (bit = 0 ∨ bit = 1))) :
    Calls Try.prog 57 #[pt p, .int .u16 (c : Int), .int .i64 bit] w fun r w' => r = .returned (.int .i64 1) ∧ Fr [] w w' := by
  by_cases hc : rightC c
  · have e0 : decide (rightC c) = true := decide_eq_true hc
    have h0 : bit ≠ 0 := fun e => h ⟨hc, .inl e⟩
    have h1 : bit ≠ 1 := fun e => h ⟨hc, .inr e⟩
    have e1 : (bit != 0) = true := by simp [h0]
    have e2 : (bit != 1) = true := by simp [h1]
    have HC := Lib.hid (isOne_any c w)
    clear h hc h0 h1
    go_enter Try.func57, Try.ntmps57
    go_wp2_with fail
    refine HC.out.mono ?_
    rintro e w' ⟨rfl, rfl⟩
    rw [e0]
    go_wp2_with fail
    go_ret
    exact ⟨rfl, Fr.refl _ _⟩
  · have e0 : decide (rightC c) = false := decide_eq_false hc
    have HC := Lib.hid (isOne_any c w)
    clear h hc
    go_enter Try.func57, Try.ntmps57
    go_wp2_with fail
    refine HC.out.mono ?_
    rintro e w' ⟨rfl, rfl⟩
    rw [e0]
    go_wp2_with fail
    go_ret
    exact ⟨rfl, Fr.refl _ _⟩

theorem Src.le {w : World} {A : Option Addr} {n c : Nat} {xs : List Value} (h : Src w (.slice A n c) xs) : n ≤ c := by
  rcases h with ⟨h1, rfl⟩ | ⟨ad, c', h1, hle, -⟩
  · injection h1 with e1 e2 e3
    subst e1 e2 e3
    exact Nat.le_refl _
  · injection h1 with e1 e2 e3
    subst e1 e2 e3
    exact hle
theorem Src.cut {w : World} {A : Option Addr} {n c : Nat} {xs : List Value} (h : Src w (.slice A n c) xs) : Src w (.slice A n n) xs := by
  rcases h with ⟨h1, rfl⟩ | ⟨ad, c', h1, hle, hx⟩
  · injection h1 with e1 e2 e3
    subst e1 e2 e3
    exact .inl ⟨rfl, rfl⟩
  · injection h1 with e1 e2 e3
    subst e1 e2 e3
    exact .inr ⟨ad, xs.length, rfl, Nat.le_refl _, hx⟩

theorem bytesNil_any (w : World) : Calls Try.prog 16 #[.pointer none] w fun r w' => r = .returned (.slice none 0 0) ∧ Fr [] w w' := by
  go_enter Try.func16, Try.ntmps16
  go_wp2_with fail
  go_ret
  exact ⟨rfl, Fr.refl _ _⟩

theorem pbytes_any (w : World) (p : Nat) (v : Value) (e : Enc) (h : Pe w p v e) (hl : 0 < e.n) (hn : e.n ≤ 100000) :
    Calls Try.prog 16 #[pt p] w fun r w' => ∃ u, r = .returned u ∧ Src w' u ((bytesOf e.n e.v).map B8) ∧ Fr [] w w' ∧ ∀ k, u.ownBlock = some k → w.heap.size ≤ k := by
  obtain ⟨g, c, rfl, hgc⟩ := h.form
  obtain ⟨hB, hO, hne⟩ := h
  have hcl := clone_any (.slice g e.n c) (bytesOf e.n e.v) w hO.src (by simp; omega) (by
    rcases hO.form with ⟨h0, h1⟩ | ⟨g1, cap, cur, h1, -⟩
    · have := congrArg List.length h1
      simp at this; omega
    · rw [h1]; simp [Value.ownBlock])
  have c0 := hB.cell 0
  have hlt := hB.lt
  simp at c0
  have HC := Lib.hid hcl
  obtain ⟨n, hN⟩ : ∃ n, n = e.n := ⟨_, rfl⟩
  rw [← hN] at c0 HC hn hgc hl ⊢
  have HN := Lib.hid hN
  clear hO hB hcl hN
  go_enter Try.func16, Try.ntmps16
  go_wp2_with fail
  refine HC.out.mono ?_
  rintro r w1 ⟨u, rfl, hM, hnn⟩
  obtain ⟨g2, c2, hform⟩ := hM.slice
  subst hform
  rw [bytesOf_length] at *
  have hc2 := hM.src.le
  go_wp2_with fail
  go_ret
  refine ⟨_, rfl, hM.src.cut, hM.fr, ?_⟩
  cases g2 with
  | none => simp [Value.ownBlock]
  | some a => exact fun k hk => hM.new k hk
end Go.Proofs.Ytfjlepnodmeaaaa

/-
  The program's encoder: Put; conditions: the code is at most as long as named.
-/
namespace Go.Proofs.Ytfjlepnodmeaaaa
open Go.RowKit

theorem PeFr.own {p : Nat} {v : Value} {w w' : World} (h : Fr (p :: v.ownBlock.toList) w w') : PeFr p v v w w' := ⟨h, .inl rfl⟩

set_option maxRecDepth 100000 in
set_option maxHeartbeats 4000000 in
theorem pput_ok (p : Nat) (v : Value) (e : Enc) (c : Nat) (bit : Bool) (w : World) (h : Pe w p v e) (he : e.Ok) (hc : rightC c) (hn : e.n ≤ 1000000) :
    Calls Try.prog 57 #[pt p, .int .u16 (c : Int), .int .i64 (bit.toNat : Int)] w fun e' w' => e' = .returned (.int .i64 0) ∧ ∃ v', Pe w' p v' (encPut e c bit) ∧ PeFr p v v' w w' := by
  have e0 : decide (rightC c) = true := decide_eq_true hc
  have HC := Lib.hid (isOne_any c w)
  have HBd := Lib.hid (bound_any c e.r w hc he.lo he.hi)
  obtain ⟨B, hB⟩ : ∃ B, B = bnd e.r c := ⟨_, rfl⟩
  have hb1 := bnd_lo he.lo hc
  have hb2 := bnd_hi he.lo hc
  have hr2 := he.hi
  rw [← hB] at hb1 hb2 HBd
  have hfit := he.fit
  obtain ⟨E1, hE1⟩ : ∃ E1, E1 = encBit e c bit := ⟨_, rfl⟩
  have hpo : (encScale E1).Ok := by rw [hE1]; exact encPut_ok he hc bit
  have hpo := Lib.hid hpo
  obtain ⟨E2, hE2⟩ : ∃ E2, encScale E1 = E2 := ⟨_, rfl⟩
  rw [show encPut e c bit = E2 by rw [← hE2, hE1]; rfl]
  have HE2 := Lib.hid hE2
  have hEn : E1.n ≤ 1000000 := by rw [hE1, (encBit_facts he hc bit).1]; exact hn
  have hEr : 253952 ≤ E1.r ∧ E1.r ≤ 4294967295 := by
    obtain ⟨q1, q2, q3, q4, q5⟩ := encBit_facts he hc bit
    rw [hE1]; omega
  have h1 := h.1.cell 1
  have h1f := h.1.frozen 1
  have hlt := h.1.lt
  simp at h1
  have hadd := fun hb : bit = true => padd_any p v e B w h (by omega) (by omega) (by omega)
  obtain ⟨R, hR⟩ : ∃ R, R = e.r := ⟨_, rfl⟩
  rw [← hR] at h1 hb2 hr2 HBd
  have H := Lib.hid h
  have HB := Lib.hid hB
  have HR := Lib.hid hR
  have HE1 := Lib.hid hE1
  have HEr := Lib.hid hEr
  have HAdd := Lib.hid hadd
  clear h hB hR hc he hE1 hE2 hEr hadd
  cases bit
  case' false =>
    have h3 : Pe (w.setCell ⟨p, 1, none⟩ (.int .u32 (B : Int))) p v E1 := by
      have := H.out.span B
      rw [HE1.out]
      unfold encBit
      rw [if_neg (by simp), ← HB.out]
      exact this
    have hF3 : PeFr p v v w (w.setCell ⟨p, 1, none⟩ (.int .u32 (B : Int))) := PeFr.own ((Fr.refl (p :: v.ownBlock.toList) w).setCell (p := ⟨p, 1, none⟩) (.inl (by simp)) (.int .u32 (B : Int)))
    have H3 := Lib.hid h3
    have HF3 := Lib.hid hF3
    clear h3 hF3
    go_enter Try.func57, Try.ntmps57
    go_wp2_with fail
    refine HC.out.mono ?_
    rintro e1 w' ⟨rfl, rfl⟩
    rw [e0]
    go_wp2_with fail
    refine HBd.out.mono ?_
    rintro e1 w2 ⟨rfl, rfl⟩
    clear HC HBd HAdd
    go_upto_region 8 with fail
    generalize w2.setCell ⟨p, 1, none⟩ (.int .u32 (B : Int)) = w4 at H3 HF3 ⊢
    clear h1 h1f hlt
  case' true =>
    obtain ⟨S, hS⟩ : ∃ S, S = R - B := ⟨_, rfl⟩
    have eS : (R : Int) - (B : Int) = (S : Int) := by omega
    have HS := Lib.hid hS
    clear hS
    go_enter Try.func57, Try.ntmps57
    go_wp2_with fail
    refine HC.out.mono ?_
    rintro e1 w' ⟨rfl, rfl⟩
    rw [e0]
    go_wp2_with fail
    refine HBd.out.mono ?_
    rintro e1 w2 ⟨rfl, rfl⟩
    clear HC HBd
    go_wp2_with fail
    refine (HAdd.out trivial).mono ?_
    rintro e1 w3 ⟨rfl, hR3, hF3⟩
    have h3 : Pe (w3.setCell ⟨p, 1, none⟩ (.int .u32 (S : Int))) p v E1 := by
      have := hR3.span S
      rw [HE1.out]
      unfold encBit
      rw [if_pos rfl, ← HB.out, ← HR.out, ← HS.out]
      exact this
    have c1 := hR3.1.cell 1
    have f1 := hR3.1.frozen 1
    have hl3 := hR3.1.lt
    simp at c1
    rw [← HR.out] at c1
    have hF3 : PeFr p v v w2 (w3.setCell ⟨p, 1, none⟩ (.int .u32 (S : Int))) := PeFr.own ((hF3.mono (S' := p :: v.ownBlock.toList) (fun x hx => .inl (List.mem_cons_of_mem _ hx))).setCell (.inl (by simp)) _)
    have H3 := Lib.hid h3
    have HF3 := Lib.hid hF3
    clear h3 hF3 hR3 h1 h1f HAdd
    go_upto_region 8 with fail
    generalize w3.setCell ⟨p, 1, none⟩ (.int .u32 (S : Int)) = w4 at H3 HF3 ⊢
    clear c1 f1 hl3 eS HS hlt
  all_goals
    have c1 := H3.out.1.cell 1
    have f1 := H3.out.1.frozen 1
    have hl := H3.out.1.lt
    simp at c1
    obtain ⟨r, hr⟩ : ∃ r, r = E1.r := ⟨_, rfl⟩
    rw [← hr] at c1
    have HN := Lib.hid (isNarrow_any r w4)
    have Hr := Lib.hid hr
    have hr3 : r ≤ 4294967295 := by have := HEr.out.2; omega
    clear hr
    by_cases hlt : r < 16777216
    · rw [decide_eq_true hlt] at HN
      obtain ⟨M, hM⟩ : ∃ M, M = r * 256 := ⟨_, rfl⟩
      have eM : (r : Int) * 256 = (M : Int) := by omega
      have eM2 : (M : Int) % 4294967296 = (M : Int) := by omega
      have HM := Lib.hid hM
      have Hlt := Lib.hid hlt
      clear hlt hM
      go_wp2_with fail
      refine HN.out.mono ?_
      rintro e1 w5 ⟨rfl, rfl⟩
      go_upto_region 10 with fail
      have h6 := H3.out.span M
      obtain ⟨g, cc, hv, -⟩ := H3.out.form
      have hF6 : Fr [p] w5 (w5.setCell ⟨p, 1, none⟩ (.int .u32 (M : Int))) := (Fr.refl _ _).setCell (.inl (by simp)) _
      generalize w5.setCell ⟨p, 1, none⟩ (.int .u32 (M : Int)) = w6 at h6 hF6 ⊢
      clear c1 f1 hl
      have c0 := h6.1.cell 0
      have hl6 := h6.1.lt
      simp at c0
      have H6 := Lib.hid h6
      have HF6 := Lib.hid hF6
      rw [hv] at c0
      have Hv := Lib.hid hv
      clear h6 hF6 hv
      go_wp2_with (at_builtin; refine wp_append_u8 _ _ (.slice g E1.n cc) (bytesOf E1.n E1.v) (.slice (some ⟨w6.heap.size, 0, none⟩) 1 1) [0] rfl rfl rfl rfl (by rw [← Hv.out]; exact H6.out.2.1.alloc _) (Src.one (by simp [go_sem]; rfl)) (by simp; omega) ?_)
      intro v7 w7 hO7 hG7
      rw [← Hv.out] at hG7
      have hB7 := (H6.out.1.alloc (.cells #[.int .u8 0] 5)).fr hG7.1 (not_own H6.out.2.2)
      have k0 := hB7.cell 0
      have k1 := hB7.frozen 0
      have k2 := hB7.lt
      simp at k0
      have hlen7 : ((bytesOf E1.n E1.v).map B8 ++ [B8 0]).length = E1.n + 1 := by simp
      obtain ⟨g7, cap7, hv7, -, -, -, -⟩ := hO7.last (i := E1.n) hlen7
      have hne7 : v7.ownBlock ≠ some p := by
        rcases hG7.2 with e' | ⟨g5, e', hg⟩
        · rw [e']; exact H6.out.2.2
        · rw [e']; intro h; injection h with h; simp at hg; omega
      have hR7 : Pe (w7.setCell ⟨p, 0, none⟩ v7) p v7 E2 := by
        rw [← HE2.out, encScale_more (by rw [← Hr.out]; exact Hlt.out), ← Hr.out, ← HM.out]
        refine ⟨?_, ?_, hne7⟩
        · have := hB7.set_ 0 v7
          simpa using this
        · rw [bytesOf_zero, List.map_append]
          exact hO7.fr (S := [p]) ((Fr.refl _ _).setCell (.inl (by simp)) _) (fun k hk hm => by simp at hm; subst hm; exact hne7 hk)
      have hF7 : PeFr p v v7 w2 (w7.setCell ⟨p, 0, none⟩ v7) := by
        obtain ⟨q1, -⟩ := HF3.out
        have q3 := HF6.out
        refine ⟨((((q1.trans q3 (by simp)).alloc _).trans hG7.1 (fun x hx => .inl (List.mem_cons_of_mem _ hx)))).setCell (.inl (by simp)) _, ?_⟩
        have hs := q1.size
        have hs4 := q3.size
        rcases hG7.2 with e' | ⟨g5, e', hg⟩
        · exact .inl e'
        · exact .inr ⟨g5, e', by simp at hg; omega⟩
      have HR7 := Lib.hid hR7
      have HF7 := Lib.hid hF7
      obtain ⟨n1, hn1⟩ : ∃ n1, n1 = E1.n := ⟨_, rfl⟩
      rw [← hn1] at hv7
      have HNN := Lib.hid hn1
      clear hn1
      clear hR7 hF7 hO7 hG7 hB7 hne7 hlen7
      subst hv7
      go_wp2_with fail
      go_ret
      exact ⟨rfl, _, HR7.out, HF7.out⟩
    · rw [decide_eq_false hlt] at HN
      have Hlt := Lib.hid hlt
      clear hlt
      go_wp2_with fail
      refine HN.out.mono ?_
      rintro e1 w5 ⟨rfl, rfl⟩
      go_wp2_with fail
      go_ret
      refine ⟨rfl, v, ?_, HF3.out⟩
      rw [← HE2.out, encScale_same (by rw [← Hr.out]; exact Hlt.out)]
      exact H3.out
end Go.Proofs.Ytfjlepnodmeaaaa

/-
  The program's decoder: split, take, Open, End; conditions: the numbers are bounded as named.
-/
namespace Go.Proofs.Ytfjlepnodmeaaaa
open Go.RowKit

theorem split_any (q : Nat) (v : Value) (rest r B : Nat) (w : World) (h : Blk w q 81 #[v, .int .u32 (rest : Int), .int .u32 (r : Int)]) (hB : B ≤ r) (hr : r ≤ 4294967295) (hrest : rest < 4294967296) :
    Calls Try.prog 71 #[pt q, .int .u32 (B : Int)] w fun e w' => Fr [q] w w' ∧
      ((rest < B ∧ e = .returned (.int .i64 0) ∧ Blk w' q 81 #[v, .int .u32 (rest : Int), .int .u32 (B : Int)]) ∨
      (B ≤ rest ∧ e = .returned (.int .i64 1) ∧ Blk w' q 81 #[v, .int .u32 ((rest - B : Nat) : Int), .int .u32 ((r - B : Nat) : Int)])) := by
  have c1 := h.cell 1
  have c2 := h.cell 2
  have f1 := h.frozen 1
  have f2 := h.frozen 2
  have hl := h.lt
  simp at c1 c2
  have H := Lib.hid h
  clear h
  by_cases hb : rest < B
  · have eb : decide (rest < B) = true := by simp [hb]
    have hB2 := H.out.set_ 2 (.int .u32 (B : Int))
    have HB2 := Lib.hid hB2
    have Hb := Lib.hid hb
    clear hB2 hb
    go_enter Try.func71, Try.ntmps71
    go_wp2_with fail
    go_ret
    exact ⟨(Fr.refl _ _).setCell (.inl (by simp)) _, .inl ⟨Hb.out, rfl, by simpa using HB2.out⟩⟩
  · have eb : decide (rest < B) = false := by simp; omega
    obtain ⟨R1, hR1⟩ : ∃ R1, R1 = rest - B := ⟨_, rfl⟩
    obtain ⟨K1, hK1⟩ : ∃ K1, K1 = r - B := ⟨_, rfl⟩
    rw [← hR1, ← hK1]
    have eR : (rest : Int) - (B : Int) = (R1 : Int) := by omega
    have eK : (r : Int) - (B : Int) = (K1 : Int) := by omega
    have h3 := H.out.set_ 1 (.int .u32 (R1 : Int))
    have k2 := h3.cell 2
    have kf := h3.frozen 2
    simp at k2
    have h4 := h3.set_ 2 (.int .u32 (K1 : Int))
    have H4 := Lib.hid h4
    have Hb := Lib.hid hb
    have lR : R1 ≤ 4294967295 := by omega
    have lK : K1 ≤ 4294967295 := by omega
    clear h3 h4 hb hR1 hK1
    go_enter Try.func71, Try.ntmps71
    go_wp2_with fail
    go_ret
    exact ⟨((Fr.refl _ _).setCell (.inl (by simp)) _).setCell (.inl (by simp)) _, .inr ⟨by have := Hb.out; omega, rfl, by simpa using H4.out⟩⟩

theorem take_none (q : Nat) (v : Value) (rest r : Nat) (w : World) (h : Blk w q 81 #[v, .int .u32 (rest : Int), .int .u32 (r : Int)]) (hs : Src w v []) :
    Calls Try.prog 72 #[pt q] w fun e w' => e = .returned (.bool false) ∧ w' = w := by
  obtain ⟨A, c, rfl⟩ : ∃ A c, v = .slice A 0 c := by
    rcases hs with ⟨rfl, -⟩ | ⟨ad, c, rfl, -⟩
    · exact ⟨_, _, rfl⟩
    · exact ⟨_, _, rfl⟩
  have c0 := h.cell 0
  have hl := h.lt
  simp at c0
  clear h hs
  go_enter Try.func72, Try.ntmps72
  go_wp2_with fail
  go_ret
  exact ⟨rfl, rfl⟩

theorem or_256 (R : Nat) (x : UInt8) (h : R < 16777216) : bits .or .u32 ((R * 256 : Nat) : Int) (x.toNat : Int) = ((256 * R + x.toNat : Nat) : Int) := by
  have hx := x.toNat_lt
  rw [u32_or_nat _ _ (by omega) (by omega)]
  congr 1
  have := Nat.two_pow_add_eq_or_of_lt (i := 8) (b := x.toNat) (by omega) R
  rw [Nat.mul_comm R 256]
  exact this.symm

set_option maxRecDepth 20000 in
theorem take_one (q : Nat) (v : Value) (rest r : Nat) (x : UInt8) (ys : List UInt8) (w : World) (h : Blk w q 81 #[v, .int .u32 (rest : Int), .int .u32 (r : Int)]) (hs : Src w v ((x :: ys).map B8)) (hn : v.ownBlock ≠ some q) (hr : r < 16777216) (hrest : rest < r) :
    Calls Try.prog 72 #[pt q] w fun e w' => e = .returned (.bool true) ∧ ∃ v', Blk w' q 81 #[v', .int .u32 ((256 * rest + x.toNat : Nat) : Int), .int .u32 ((r * 256 : Nat) : Int)] ∧ Src w' v' (ys.map B8) ∧ v'.ownBlock = v.ownBlock ∧ Fr [q] w w' := by
  obtain ⟨ad, c, rfl, hc, hcell⟩ : ∃ ad c, v = .slice (some ad) (ys.length + 1) c ∧ ys.length + 1 ≤ c ∧ w.cell? ad = some (.int .u8 (x.toNat : Int)) := by
    rcases hs with ⟨rfl, h0⟩ | ⟨ad, c, rfl, hc, hx⟩
    · cases h0
    · refine ⟨ad, c, by simp, by simpa using hc, ?_⟩
      have := hx 0 (B8 x) rfl
      rw [show ad.add 0 = ad by simp [Addr.add]] at this
      exact this
  have hdrop := hs.drop (k := 1) (by omega)
  obtain ⟨n, hnn⟩ : ∃ n, n = ys.length := ⟨_, rfl⟩
  rw [← hnn] at h hc hdrop hs
  have c0 := h.cell 0
  have c1 := h.cell 1
  have c2 := h.cell 2
  have f2 := h.frozen 2
  have hl := h.lt
  simp at c0 c1 c2
  obtain ⟨M, hM⟩ : ∃ M, M = r * 256 := ⟨_, rfl⟩
  have eM : (r : Int) * 256 = (M : Int) := by omega
  have eM2 : (M : Int) % 4294967296 = (M : Int) := by omega
  obtain ⟨T, hT⟩ : ∃ T, T = rest * 256 := ⟨_, rfl⟩
  have eT : (rest : Int) * 256 = (T : Int) := by omega
  have eT2 : (T : Int) % 4294967296 = (T : Int) := by omega
  have eT3 : IntKind.wrap .u32 (T : Int) = (T : Int) := IntWalk.u32_in _ (by omega)
  obtain ⟨U, hU⟩ : ∃ U, U = 256 * rest + x.toNat := ⟨_, rfl⟩
  have eU := or_256 rest x (by omega)
  rw [← hT, ← hU] at eU
  have hxl := x.toNat_lt
  have ex : IntKind.wrap .u32 (x.toNat : Int) = (x.toNat : Int) := IntWalk.u32_in _ (by omega)
  have hlx := World.block_lt_of_cell? w _ hcell
  have e9 : (((n : Int) + 1) == 0) = false := by simp; omega
  have hne : ad.block ≠ q := by simpa [Value.ownBlock] using hn
  have h3 := h.set_ 2 (.int .u32 (M : Int))
  generalize hw3 : w.setCell ⟨q, 2, none⟩ (.int .u32 (M : Int)) = w3 at h3
  have hF3 : Fr [q] w w3 := by rw [← hw3]; exact (Fr.refl _ _).setCell (.inl (by simp)) _
  have hcell3 : w3.cell? ad = some (.int .u8 (x.toNat : Int)) := by rw [hF3.cell hlx (by simpa using hne)]; exact hcell
  have Hw3 := Lib.hid hw3
  have H := Lib.hid h
  have HS := Lib.hid hs
  have HD := Lib.hid hdrop
  have H3 := Lib.hid h3
  have HF3 := Lib.hid hF3
  have HM := Lib.hid hM
  have HU := Lib.hid hU
  have HT := Lib.hid hT
  have Hnn := Lib.hid hnn
  clear h hs hdrop h3 hF3 hM hU hT hnn hw3
  go_enter Try.func72, Try.ntmps72
  go_upto_region 4 with fail
  rw [Hw3.out]
  clear c0 c1 c2 f2 hl hcell Hw3
  have k0 := H3.out.drew.cell 0
  have k1 := H3.out.drew.cell 1
  have g1 := H3.out.drew.frozen 1
  have hl3 := H3.out.drew.lt
  have kx : w3.drew.cell? ad = some (.int .u8 (x.toNat : Int)) := hcell3
  simp at k0 k1
  have h5 := H3.out.drew.set_ 1 (.int .u32 (U : Int))
  have h5' : Blk (w3.drew.setCell ⟨q, 1, none⟩ (.int .u32 (U : Int))) q 81 #[.slice (some ad) (n + 1) c, .int .u32 (U : Int), .int .u32 (M : Int)] := by simpa using h5
  have f5 : Fr [q] w (w3.drew.setCell ⟨q, 1, none⟩ (.int .u32 (U : Int))) := HF3.out.drew.setCell (.inl (by simp)) _
  have p0 := h5'.cell 0
  simp at p0
  have px : (w3.drew.setCell ⟨q, 1, none⟩ (.int .u32 (U : Int))).cell? ad = some (.int .u8 (x.toNat : Int)) := by rw [f5.cell hlx (by simpa using hne)]; rw [← hcell3]; exact (HF3.out.cell hlx (by simpa using hne)).symm
  have H5 := Lib.hid h5'
  have F5 := Lib.hid f5
  clear h5 h5' f5 hcell3
  refine wp_region_held_drew (S := fun W => W.cell? ⟨q, 0, none⟩ = some (.slice (some ad) (n + 1) c) ∧ W.cell? ad = some (.int .u8 (x.toNat : Int))) (by kernel_rfl) ?_ (fun hHeld => ?_)
  · (repeat' (first | trivial | assumption | refine ⟨?_, ?_⟩))
  refine wpAnyH_pick 0 (v := ?_) rfl (by kernel_rfl) (by kernel_rfl) (by kernel_rfl) (fun _ _ _ h => h) (by assumption) (by rfl) ?_ ?_
  rotate_left
  · (intro w hSw; (try dsimp only at hSw); go_simp) <;> (with_reducible rfl)
  (try simp only [Act.put, List.setIfInBounds_toArray, List.set_cons_zero, List.set_cons_succ])
  refine wpAnyH_pick 1 (v := ?_) rfl (by kernel_rfl) (by kernel_rfl) (by kernel_rfl) (fun _ _ _ h => h) (by assumption) (by rfl) ?_ ?_
  rotate_left
  · (intro w hSw; (try dsimp only at hSw); go_simp) <;> (with_reducible rfl)
  (try simp only [Act.put, List.setIfInBounds_toArray, List.set_cons_zero, List.set_cons_succ])
  refine wpAnyH_pick 2 (v := ?_) rfl (by kernel_rfl) (by kernel_rfl) (by kernel_rfl) (fun _ _ _ h => h) (by assumption) (by rfl) ?_ ?_
  rotate_left
  · (intro w hSw; (try dsimp only at hSw); go_simp) <;> (with_reducible rfl)
  (try simp only [Act.put, List.setIfInBounds_toArray, List.set_cons_zero, List.set_cons_succ])
  refine wpAnyH_pick 3 (v := ?_) rfl (by kernel_rfl) (by kernel_rfl) (by kernel_rfl) (fun _ _ _ h => h) (by assumption) (by rfl) ?_ ?_
  rotate_left
  · (intro w hSw; (try dsimp only at hSw); go_simp) <;> (with_reducible rfl)
  (try simp only [Act.put, List.setIfInBounds_toArray, List.set_cons_zero, List.set_cons_succ])
  refine wpAnyH_pick 6 (v := ?_) rfl (by kernel_rfl) (by kernel_rfl) (by kernel_rfl) (fun _ _ _ h => h) (by assumption) (by rfl) ?_ ?_
  rotate_left
  · (intro w hSw; (try dsimp only at hSw); go_simp) <;> (with_reducible rfl)
  (try simp only [Act.put, List.setIfInBounds_toArray, List.set_cons_zero, List.set_cons_succ])
  refine wpAnyH_pick 7 (v := ?_) rfl (by kernel_rfl) (by kernel_rfl) (by kernel_rfl) (fun _ _ _ h => h) (by assumption) (by rfl) ?_ ?_
  rotate_left
  · (intro w hSw; (try dsimp only at hSw); go_simp) <;> (with_reducible rfl)
  (try simp only [Act.put, List.setIfInBounds_toArray, List.set_cons_zero, List.set_cons_succ])
  refine wpAnyH_pick 8 (v := ?_) rfl (by kernel_rfl) (by kernel_rfl) (by kernel_rfl) (fun _ _ _ h => h) (by assumption) (by rfl) ?_ ?_
  rotate_left
  · (intro w hSw; (try dsimp only at hSw); go_simp) <;> (with_reducible rfl)
  (try simp only [Act.put, List.setIfInBounds_toArray, List.set_cons_zero, List.set_cons_succ])
  refine wpAnyH_pick 9 (v := ?_) rfl (by kernel_rfl) (by kernel_rfl) (by kernel_rfl) (fun _ _ _ h => h) (by assumption) (by rfl) ?_ ?_
  rotate_left
  · (intro w hSw; (try dsimp only at hSw); go_simp) <;> (with_reducible rfl)
  (try simp only [Act.put, List.setIfInBounds_toArray, List.set_cons_zero, List.set_cons_succ])
  refine wpAnyH_pick 10 (v := ?_) rfl (by kernel_rfl) (by kernel_rfl) (by kernel_rfl) (fun _ _ _ h => h) (by assumption) (by rfl) ?_ ?_
  rotate_left
  · (intro w hSw; (try dsimp only at hSw); go_simp) <;> (with_reducible rfl)
  (try simp only [Act.put, List.setIfInBounds_toArray, List.set_cons_zero, List.set_cons_succ])
  refine wpAnyH_pick 11 (v := ?_) rfl (by kernel_rfl) (by kernel_rfl) (by kernel_rfl) (fun _ _ _ h => h) (by assumption) (by rfl) ?_ ?_
  rotate_left
  · (intro w hSw; (try dsimp only at hSw); go_simp) <;> (with_reducible rfl)
  (try simp only [Act.put, List.setIfInBounds_toArray, List.set_cons_zero, List.set_cons_succ])
  refine wpAnyH_pick 12 (v := ?_) rfl (by kernel_rfl) (by kernel_rfl) (by kernel_rfl) (fun _ _ _ h => h) (by assumption) (by rfl) ?_ ?_
  rotate_left
  · (intro w hSw; (try dsimp only at hSw); go_simp) <;> (with_reducible rfl)
  (try simp only [Act.put, List.setIfInBounds_toArray, List.set_cons_zero, List.set_cons_succ])
  refine wpAnyH_ready (rs := [4]) (by kernel_rfl) (by simp) ?_
  refine AllReadyH_pick rfl (fun K hK => ?_) (AllReadyH.nil)
  skip
  go_simp
  refine hK.out _ _ ?_ (fun hHeld => ?_)
  · (repeat' (first | trivial | assumption | refine ⟨?_, ?_⟩))
  clear hK K
  (try simp only [Act.put, List.setIfInBounds_toArray, List.set_cons_zero, List.set_cons_succ])
  refine wpAnyH_pick 5 (v := ?_) rfl (by kernel_rfl) (by kernel_rfl) (by kernel_rfl) (fun _ _ _ h => h) (by assumption) (by rfl) ?_ ?_
  rotate_left
  · (intro w hSw; (try dsimp only at hSw); go_simp) <;> (with_reducible rfl)
  (try simp only [Act.put, List.setIfInBounds_toArray, List.set_cons_zero, List.set_cons_succ])
  refine wpAnyH_pick 13 (v := ?_) rfl (by kernel_rfl) (by kernel_rfl) (by kernel_rfl) (fun _ _ _ h => h) (by assumption) (by rfl) ?_ ?_
  rotate_left
  · (intro w hSw; (try dsimp only at hSw); go_simp) <;> (with_reducible rfl)
  (try simp only [Act.put, List.setIfInBounds_toArray, List.set_cons_zero, List.set_cons_succ])
  refine wpAnyH_pick 14 (v := ?_) rfl (by kernel_rfl) (by kernel_rfl) (by kernel_rfl) (fun _ _ _ h => h) (by assumption) (by rfl) ?_ ?_
  rotate_left
  · (intro w hSw; (try dsimp only at hSw); go_simp) <;> (with_reducible rfl)
  (try simp only [Act.put, List.setIfInBounds_toArray, List.set_cons_zero, List.set_cons_succ])
  refine wpAnyH_pick 15 (v := ?_) rfl (by kernel_rfl) (by kernel_rfl) (by kernel_rfl) (fun _ _ _ h => h) (by assumption) (by rfl) ?_ ?_
  rotate_left
  · (intro w hSw; (try dsimp only at hSw); go_simp) <;> (with_reducible rfl)
  (try simp only [Act.put, List.setIfInBounds_toArray, List.set_cons_zero, List.set_cons_succ])
  refine wpAnyH_ready (rs := [16]) (by kernel_rfl) (by simp) ?_
  refine AllReadyH_pick rfl (fun K hK => ?_) (AllReadyH.nil)
  skip
  go_simp
  refine hK.out _ _ ?_ (fun hHeld => ?_)
  · (repeat' (first | trivial | assumption | refine ⟨?_, ?_⟩))
  clear hK K
  (try simp only [Act.put, List.setIfInBounds_toArray, List.set_cons_zero, List.set_cons_succ])
  refine wpAnyH_done (by kernel_rfl) ?_ _
  skip
  have h7 : Blk (w3.setCell ⟨q, 1, none⟩ (.int .u32 (U : Int))).drew q 81 #[.slice (some ad) (n + 1) c, .int .u32 (U : Int), .int .u32 (M : Int)] := H5.out
  have f7 : Fr [q] w (w3.setCell ⟨q, 1, none⟩ (.int .u32 (U : Int))).drew := F5.out
  generalize (w3.setCell ⟨q, 1, none⟩ (.int .u32 (U : Int))).drew = w7 at h7 f7 ⊢
  clear hHeld k0 k1 g1 hl3 kx p0 px H5 F5
  have c0 := h7.cell 0
  have f0 := h7.frozen 0
  have hl7 := h7.lt
  simp at c0
  obtain ⟨A', hA⟩ : ∃ A', A' = (if c = 1 then some ad else Option.map (fun x => x.add 1) (some ad)) := ⟨_, rfl⟩
  have hd : Src w (.slice A' n (c - 1)) (ys.map B8) := by
    have := HD.out
    rw [hA]
    simpa using this
  have hblk : (Value.slice A' n (c - 1)).ownBlock = some ad.block := by
    rw [hA]
    split
    · rfl
    · simp [Value.ownBlock, addr_block]
  have h8 := h7.set_ 0 (.slice A' n (c - 1))
  have H8 := Lib.hid h8
  have F8 := Lib.hid (f7.setCell (p := ⟨q, 0, none⟩) (.inl (by simp)) (.slice A' n (c - 1)))
  have HA := Lib.hid hA
  have Hd := Lib.hid hd
  have Hblk := Lib.hid hblk
  clear h7 f7 h8 hd hblk
  go_upto_region 6 with fail
  rw [show (if c = 1 then some ad else some ⟨ad.block, ad.off + 1, none⟩) = A' by rw [HA.out]; simp [Addr.add]]
  go_wp2_with fail
  go_ret
  refine ⟨rfl, _, ?_, ?_, Hblk.out, F8.out⟩
  · rw [← HU.out, ← HM.out]
    simpa using H8.out
  · refine Hd.out.fr F8.out (fun k hk hm => ?_)
    rw [Hblk.out] at hk
    injection hk with hk
    simp at hm
    omega

/-- The program's decoder: what is behind, the rest, the range. -/
def Pd (w : World) (p : Nat) (v : Value) (bs : List UInt8) (d : Dec) : Prop :=
  Blk w p 81 #[v, .int .u32 (d.rest : Int), .int .u32 (d.r : Int)] ∧ Src w v ((bs.drop d.i).map B8) ∧ v.ownBlock ≠ some p ∧ d.i ≤ bs.length

theorem endNil_any (w : World) : Calls Try.prog 24 #[.pointer none] w fun r w' => r = .returned (.int .i64 1) ∧ Fr [] w w' := by
  go_enter Try.func24, Try.ntmps24
  go_wp2_with fail
  go_ret
  exact ⟨rfl, Fr.refl _ _⟩

theorem getNil_any (w : World) (c : Nat) : Calls Try.prog 61 #[.pointer none, .int .u16 (c : Int)] w fun r w' => r = .returned (.tuple #[.int .i64 0, .int .i64 1]) ∧ Fr [] w w' := by
  go_enter Try.func61, Try.ntmps61
  go_wp2_with fail
  go_ret2
  exact ⟨rfl, Fr.refl _ _⟩

theorem getArg_any (w : World) (p c : Nat) (h : ¬ rightC c) : Calls Try.prog 61 #[pt p, .int .u16 (c : Int)] w fun r w' => r = .returned (.tuple #[.int .i64 0, .int .i64 1]) ∧ Fr [] w w' := by
  have e0 : decide (rightC c) = false := decide_eq_false h
  have HC := Lib.hid (isOne_any c w)
  clear h
  go_enter Try.func61, Try.ntmps61
  go_wp2_with fail
  refine HC.out.mono ?_
  rintro e w' ⟨rfl, rfl⟩
  rw [e0]
  go_wp2_with fail
  go_ret2
  exact ⟨rfl, Fr.refl _ _⟩

theorem end_any (w : World) (p : Nat) (v : Value) (bs : List UInt8) (d : Dec) (h : Pd w p v bs d) :
    Calls Try.prog 24 #[pt p] w fun r w' => r = .returned (.int .i64 (if d.i = bs.length ∧ d.rest = 0 then 0 else 41)) ∧ w' = w := by
  obtain ⟨hB, hS, -, hi⟩ := h
  obtain ⟨A, c, rfl⟩ := hS.slice
  rw [List.length_drop] at *
  obtain ⟨n, hn⟩ : ∃ n, n = bs.length - d.i := ⟨_, rfl⟩
  rw [← hn] at hB
  obtain ⟨R, hR⟩ : ∃ R, R = d.rest := ⟨_, rfl⟩
  rw [← hR] at hB
  have c0 := hB.cell 0
  have c1 := hB.cell 1
  have hl := hB.lt
  simp at c0 c1
  clear hS hB
  by_cases h1 : 0 < n
  · rw [if_neg (by omega)]
    have e1 : decide (0 < n) = true := by simp; omega
    clear hn hR h1
    go_enter Try.func24, Try.ntmps24
    go_wp2_with fail
    go_ret
    exact ⟨rfl, rfl⟩
  · obtain rfl : n = 0 := by omega
    by_cases h2 : R = 0
    · rw [if_pos (by omega)]
      have e2 : ((R : Int) != 0) = false := by simp; omega
      clear hn hR h1 h2
      go_enter Try.func24, Try.ntmps24
      go_wp2_with fail
      go_ret
      exact ⟨rfl, rfl⟩
    · rw [if_neg (by omega)]
      have e2 : ((R : Int) != 0) = true := by simp; omega
      clear hn hR h1 h2
      go_enter Try.func24, Try.ntmps24
      go_wp2_with fail
      go_ret
      exact ⟨rfl, rfl⟩

theorem open_short (w : World) (A : Option Addr) (n c : Nat) (h : n < 4) : Calls Try.prog 18 #[.slice A n c] w fun r w' => r = .returned (.tuple #[.pointer none, .int .i64 41]) ∧ Fr [] w w' := by
  have e1 : decide ((n : Int) < 4) = true := by simp; omega
  clear h
  go_enter Try.func18, Try.ntmps18
  go_wp2_with fail
  go_ret2
  exact ⟨rfl, Fr.refl _ _⟩
end Go.Proofs.Ytfjlepnodmeaaaa

/-
  The program's decoder: Open; conditions: the lengths are bounded as named.
-/
namespace Go.Proofs.Ytfjlepnodmeaaaa
open Go.RowKit

set_option maxRecDepth 20000 in
set_option maxHeartbeats 4000000 in
theorem open_any (A : Option Addr) (c : Nat) (bs : List UInt8) (w : World) (hs : Src w (.slice A bs.length c) (bs.map B8)) (hn : 4 ≤ bs.length) (hm : bs.length ≤ 1000000) :
    Calls Try.prog 18 #[.slice A bs.length c] w fun e w' => ∃ p v, e = .returned (.tuple #[pt p, .int .i64 0]) ∧ Pd w' p v bs (decOpen bs) ∧ Fr [] w w' ∧ w.heap.size ≤ p ∧ (∀ k, v.ownBlock = some k → w.heap.size ≤ k) ∧ ∀ k, v.ownBlock = some k → k < w'.heap.size := by
  obtain ⟨n, hnn⟩ : ∃ n, n = bs.length := ⟨_, rfl⟩
  rw [← hnn] at hs hn hm
  have hcap := hs.le
  have e1 : decide ((n : Int) < 4) = false := by simp; omega
  have HS := Lib.hid hs
  have Hnn := Lib.hid hnn
  rw [show (bs.length) = n from hnn.symm]
  clear hs hnn
  go_enter Try.func18, Try.ntmps18
  go_upto_region 5 with fail
  go_loopw [4, 13] (fun s4 s13 wr => ∃ i : Nat, i ≤ 4 ∧ s13 = .int .i64 (i : Int) ∧ s4 = .int .u32 (valueOf (bs.take i) : Int) ∧ wr = w) (fun _ s13 _ => 4 - (intOf s13).toNat)
  case atStart => exact ⟨0, by omega, rfl, rfl, rfl⟩
  case round =>
    obtain ⟨i, hi, rfl, rfl, rfl⟩ := hrel
    by_cases hlt : i < 4
    · have eg : decide ((i : Int) < 4) = true := by simp; omega
      obtain ⟨x, hx⟩ : ∃ x, bs[i]? = some x := ⟨_, List.getElem?_eq_getElem (by have := Hnn.out; omega)⟩
      obtain ⟨ad, rfl, hcell0⟩ := HS.out.cellAt hx
      have hcell : wr.cell? (ad.add i) = some (.int .u8 (x.toNat : Int)) := hcell0
      clear hcell0
      obtain ⟨V, hV⟩ : ∃ V, V = valueOf (bs.take i) := ⟨_, rfl⟩
      have hVl : V < 16777216 := by
        have h1 := valueOf_lt (bs.take i)
        have h2 : (bs.take i).length ≤ 3 := by simp; omega
        have h3 : 256 ^ (bs.take i).length ≤ 256 ^ 3 := Nat.pow_le_pow_right (by omega) h2
        rw [← hV] at h1
        omega
      rw [← hV]
      have hxl := x.toNat_lt
      obtain ⟨T, hT⟩ : ∃ T, T = V * 256 := ⟨_, rfl⟩
      have eT : (V : Int) * 256 = (T : Int) := by omega
      have eT2 : (T : Int) % 4294967296 = (T : Int) := by omega
      have eT3 : IntKind.wrap .u32 (T : Int) = (T : Int) := IntWalk.u32_in _ (by omega)
      obtain ⟨U, hU⟩ : ∃ U, U = 256 * V + x.toNat := ⟨_, rfl⟩
      have eU := or_256 V x (by omega)
      rw [← hT, ← hU] at eU
      have ex : IntKind.wrap .u32 (x.toNat : Int) = (x.toNat : Int) := IntWalk.u32_in _ (by omega)
      have hval : valueOf (bs.take (i + 1)) = U := by
        rw [take_value bs i (by have := Hnn.out; omega), ← hV, hU, List.getD_eq_getElem?_getD, hx]; rfl
      have Hval := Lib.hid hval
      have HV := Lib.hid hV
      have Hx := Lib.hid hx
      clear hval hV hx hT hU
      go_wp2_with fail
      exact ⟨⟨i + 1, by omega, by simp, by rw [Hval.out], trivial⟩, by simp [intOf]; omega⟩
    · have hi4 : i = 4 := by omega
      have eg : decide ((i : Int) < 4) = false := by simp; omega
      rw [show valueOf (bs.take i) = valueOf (bs.take 4) by rw [hi4]]
      obtain ⟨V, hV⟩ : ∃ V, V = valueOf (bs.take 4) := ⟨_, rfl⟩
      rw [← hV]
      have hdrop := HS.out.drop (k := 4) hn
      obtain ⟨m, hmm⟩ : ∃ m, m = n - 4 := ⟨_, rfl⟩
      have em : n - 4 = m := hmm.symm
      obtain ⟨ad, rA, -⟩ := HS.out.cellAt (k := 0) (List.getElem?_eq_getElem (by have := Hnn.out; omega))
      subst rA
      rw [em, ← List.map_drop] at hdrop
      have hlen : (bs.drop 4).length = m := by simp; have := Hnn.out; omega
      have HV := Lib.hid hV
      have Hlen := Lib.hid hlen
      clear hV hlen hmm hi hi4 hlt
      by_cases hc4 : c = 4
      case' pos =>
        rw [if_pos hc4] at hdrop
        have HCl := Lib.hid (clone_any _ _ wr hdrop (by have := Hlen.out; omega) (by simp [Value.ownBlock]))
        rw [show c - 4 = 0 by omega] at HCl
        clear hdrop
        go_wp2_with fail
        refine HCl.out.mono ?_
      case' neg =>
        rw [if_neg hc4] at hdrop
        have hCl := clone_any _ _ wr hdrop (by have := Hlen.out; omega) (by simp [Value.ownBlock])
        have e4 : Option.map (fun x => x.add 4) (some ad) = some ⟨ad.block, ad.off + 4, none⟩ := by simp [Addr.add]
        rw [e4] at hCl
        have HCl := Lib.hid hCl
        clear hdrop hCl e4
        go_wp2_with fail
        refine HCl.out.mono ?_
      all_goals
        rintro e w1 ⟨u, rfl, hM, hnn⟩
        have HM := Lib.hid hM
        obtain ⟨g, cu, hu⟩ := hM.slice
        rw [Hlen.out] at hu
        clear hM
        subst hu
        clear HCl hc4
        go_wp2_with fail
        go_ret2
        generalize hw2 : w1.alloc _ = w2
        refine ⟨w1.heap.size, .slice g m cu, rfl, ⟨?_, ?_, ?_, ?_⟩, ?_, ?_, ?_, ?_⟩
        · rw [← hw2]
          have := Blk.new w1 81 #[.slice g m cu, .int .u32 (V : Int), .int .u32 4294967295]
          rw [HV.out] at this ⊢
          exact this
        · rw [← hw2]
          exact HM.out.src.fr0 ((Fr.refl _ _).alloc _)
        · intro h
          have := HM.out.own.lt _ h
          omega
        · show 4 ≤ bs.length
          have := Hnn.out
          omega
        · rw [← hw2]
          exact HM.out.fr.alloc _
        · exact HM.out.fr.size
        · exact HM.out.new
        · intro k hk
          have := HM.out.own.lt k hk
          rw [← hw2]
          simp
          omega
end Go.Proofs.Ytfjlepnodmeaaaa

/-
  The program's decoder: Get; conditions: the range and the place are bounded as named.
-/
namespace Go.Proofs.Ytfjlepnodmeaaaa
open Go.RowKit

/-- The rest is too great. -/
theorem pget_great (p : Nat) (v : Value) (bs : List UInt8) (d : Dec) (c : Nat) (w : World) (h : Pd w p v bs d) (hc : rightC c) (hr : d.r ≤ d.rest) :
    Calls Try.prog 61 #[pt p, .int .u16 (c : Int)] w fun e w' => e = .returned (.tuple #[.int .i64 0, .int .i64 41]) ∧ Fr [] w w' := by
  have e0 : decide (rightC c) = true := decide_eq_true hc
  have HC := Lib.hid (isOne_any c w)
  have c1 := h.1.cell 1
  have c2 := h.1.cell 2
  have hlt := h.1.lt
  simp at c1 c2
  obtain ⟨i, r, k⟩ := d
  simp only at *
  have e1 : decide (k ≤ r) = true := by simp [hr]
  clear h hc hr
  go_enter Try.func61, Try.ntmps61
  go_wp2_with fail
  refine HC.out.mono ?_
  rintro e w' ⟨rfl, rfl⟩
  rw [e0]
  go_upto_region 3 with fail
  go_quiet (fail)
  go_wp2_with fail
  go_ret2
  exact ⟨rfl, (Fr.refl _ _).drewN _⟩

/-- What Get answers. -/
def PGot (p : Nat) (v : Value) (bs : List UInt8) (d : Dec) (c : Nat) (w : World) (e : Ending) (w' : World) : Prop :=
  (∃ bit d', decGet bs d c = some (bit, d') ∧ e = .returned (.tuple #[.int .i64 (bit.toNat : Int), .int .i64 0]) ∧ (∃ v', Pd w' p v' bs d' ∧ v'.ownBlock = v.ownBlock) ∧ Fr [p] w w') ∨
  (decGet bs d c = none ∧ e = .returned (.tuple #[.int .i64 0, .int .i64 41]) ∧ Fr [] w w')

set_option maxRecDepth 20000 in
set_option maxHeartbeats 4000000 in
theorem pget_any (p : Nat) (v : Value) (bs : List UInt8) (d : Dec) (c : Nat) (w : World) (h : Pd w p v bs d) (hc : rightC c) (hr : d.rest < d.r) (hr1 : 16777216 ≤ d.r) (hr2 : d.r ≤ 4294967295) :
    Calls Try.prog 61 #[pt p, .int .u16 (c : Int)] w (PGot p v bs d c w) := by
  obtain ⟨g, cv, hv⟩ := h.2.1.slice
  obtain ⟨n, hnn⟩ : ∃ n, n = ((bs.drop d.i).map B8).length := ⟨_, rfl⟩
  rw [show (bs.drop d.i).length = n by rw [hnn]; simp] at hv
  subst hv
  have Hnn := Lib.hid hnn
  clear hnn
  have e0 : decide (rightC c) = true := decide_eq_true hc
  have HC := Lib.hid (isOne_any c w)
  obtain ⟨B, hB⟩ : ∃ B, B = bnd d.r c := ⟨_, rfl⟩
  have hb1 := bnd_lo hr1 hc
  have hb2 := bnd_hi hr1 hc
  rw [← hB] at hb1 hb2
  have HBd := fun w => bound_any c d.r w hc hr1 hr2
  rw [← hB] at HBd
  have HBd := Lib.hid HBd
  obtain ⟨D, hD⟩ : ∃ D, D = decBit d c := ⟨_, rfl⟩
  have hget : decGet bs d c = decScale bs D.1 D.2 := by unfold decGet; rw [if_pos hr, hD]
  have hD2 : D = if d.rest < B then (false, ⟨d.i, d.rest, B⟩) else (true, ⟨d.i, d.rest - B, d.r - B⟩) := by rw [hD, hB]; rfl
  have Hget := Lib.hid hget
  have HD := Lib.hid hD2
  have H := Lib.hid h
  have c1 := h.1.cell 1
  have c2 := h.1.cell 2
  have hlt := h.1.lt
  have hz : (Try.prog.info? 81).map (·.size) = some 3 := by kernel_rfl
  have Hz := Lib.hid hz
  simp at c1 c2
  obtain ⟨i, r, k⟩ := d
  simp only at *
  have e1 : decide (k ≤ r) = false := by simp; omega
  clear h hc hget hD2 hD hz hB
  go_enter Try.func61, Try.ntmps61
  go_wp2_with fail
  refine HC.out.mono ?_
  rintro e w' ⟨rfl, rfl⟩
  rw [e0]
  go_upto_region 3 with fail
  go_quiet (fail)
  have hF2 := ((Fr.refl [] w').drewN nq)
  have h2 : Pd (w'.drewN nq) p (.slice g n cv) bs ⟨i, r, k⟩ := ⟨H.out.1.fr hF2 (by simp), H.out.2.1.fr0 hF2, H.out.2.2⟩
  have H2 := Lib.hid h2
  have HFd := Lib.hid hF2
  clear h2 hF2
  generalize w'.drewN nq = w2 at H2 HFd ⊢
  go_upto_region 5 with fail
  have hz4 : (Try.prog.info? 81).map (·.size) = some (#[.slice g n cv, .int .u32 (r : Int), .int .u32 (k : Int)] : Array Value).size := Hz.out
  go_upto_region 6 with (first
    | refine wpList_load_row rfl 81 _ rfl p rfl 81 _ _ _ H2.out.1.here Try.underlying81 rfl hz4 ?_
    | refine wpList_store_row rfl 81 _ _ rfl w2.heap.size _ rfl rfl 81 _ (heap_alloc_new _ _) hz4 rfl rfl ?_)
  (try rw [World.setRow_alloc_new])
  generalize hw : w2.alloc (.cells #[.slice g n cv, .int .u32 (r : Int), .int .u32 (k : Int)] 81) = w3
  have hB3 : Blk w3 w2.heap.size 81 #[.slice g n cv, .int .u32 (r : Int), .int .u32 (k : Int)] := by rw [← hw]; exact Blk.new _ _ _
  have hF3 : Fr [] w2 w3 := by rw [← hw]; exact (Fr.refl _ _).alloc _
  obtain ⟨q, hq⟩ : ∃ q, q = w2.heap.size := ⟨_, rfl⟩
  rw [← hq] at hB3 ⊢
  have h3 : Pd w3 p (.slice g n cv) bs ⟨i, r, k⟩ := ⟨H2.out.1.fr hF3 (by simp), H2.out.2.1.fr0 hF3, H2.out.2.2⟩
  have H3 := Lib.hid h3
  have Hq := Lib.hid hq
  have HB3 := Lib.hid hB3
  have HF3 := Lib.hid hF3
  have d2 := h3.1.cell 2
  have hl3 := h3.1.lt
  have HSp := Lib.hid (split_any q _ r k B w3 hB3 (by omega) hr2 (by omega))
  simp at d2
  clear hw hq hB3 hF3 c1 c2 hlt HC e0 h3 e1
  go_wp2_with fail
  refine (HBd.out w3).mono ?_
  rintro e w4 ⟨rfl, rfl⟩
  go_wp2_with fail
  refine HSp.out.mono ?_
  rintro e w5 ⟨hF5, hcase⟩
  have hcase : ∃ (bit : Bool) (r1 k1 : Nat), e = .returned (.int .i64 (bit.toNat : Int)) ∧ Blk w5 q 81 #[.slice g n cv, .int .u32 (r1 : Int), .int .u32 (k1 : Int)] ∧ D = (bit, ⟨i, r1, k1⟩) ∧ r1 < k1 ∧ 253952 ≤ k1 ∧ k1 ≤ k := by
    have hD := HD.out
    rcases hcase with ⟨hb, he, hB5⟩ | ⟨hb, he, hB5⟩
    · rw [if_pos hb] at hD
      exact ⟨false, r, B, he, hB5, hD, hb, hb1, by omega⟩
    · rw [if_neg (by omega)] at hD
      exact ⟨true, r - B, k - B, he, hB5, hD, by omega, by omega, by omega⟩
  obtain ⟨bit, r1, k1, rfl, hB5, hDD, hrk, hk1, hkk⟩ := hcase
  clear hcase
  have hF25 : Fr [] w2 w5 := HF3.out.trans hF5 (fun x hx => .inr (by have := Hq.out; simp at hx; omega))
  have hS5 : Src w5 (.slice g n cv) ((bs.drop i).map B8) := H2.out.2.1.fr0 hF25
  have hp2 : p < w2.heap.size := H2.out.1.lt
  have hscale : decGet bs ⟨i, r, k⟩ c = decScale bs bit ⟨i, r1, k1⟩ := by rw [Hget.out, hDD]
  have hlen : i ≤ bs.length := H2.out.2.2.2
  have Hsc := Lib.hid hscale
  have HF25 := Lib.hid hF25
  have HS5 := Lib.hid hS5
  have HB5 := Lib.hid hB5
  have Hq1 := Lib.hid (show p < q ∧ q = w2.heap.size from ⟨by have := Hq.out; omega, Hq.out⟩)
  have HN := Lib.hid (isNarrow_any k1 w5)
  have c2 := hB5.cell 2
  have hlq := hB5.lt
  simp at c2
  obtain ⟨b, hb⟩ : ∃ b : Int, b = (bit.toNat : Int) := ⟨_, rfl⟩
  have Hb := Lib.hid hb
  rw [← hb]
  clear hscale hF25 hS5 hB5 hF5 hDD Hget HD H H3 HB3 HF3 HSp HBd d2 hb hp2 Hq
  clear HBd hl3 hz4
  by_cases hnar : k1 < 16777216
  case' pos =>
    rw [decide_eq_true hnar] at HN
    rcases hys : bs.drop i with _ | ⟨x, ys⟩
    case' nil =>
      have hS := HS5.out
      rw [hys] at hS
      have hnone : decGet bs ⟨i, r, k⟩ c = none := by
        rw [Hsc.out, decScale_none hnar]
        have := congrArg List.length hys
        simp at this
        show bs.length ≤ i
        omega
      have HT := Lib.hid (take_none q _ _ _ w5 HB5.out hS)
      have Hnone := Lib.hid hnone
      clear hS hnone hys
      go_wp2_with fail
      refine HN.out.mono ?_
      rintro e w6 ⟨rfl, rfl⟩
      go_wp2_with fail
      refine HT.out.mono ?_
      rintro e w7 ⟨rfl, rfl⟩
      go_wp2_with fail
      go_ret2
      exact .inr ⟨Hnone.out, rfl, HFd.out.trans HF25.out (by simp)⟩
    case' cons =>
      have hS := HS5.out
      rw [hys] at hS
      have hne : (Value.slice g n cv).ownBlock ≠ some q := by
        have h1 := H2.out.2.1
        simp only at h1
        rw [hys] at h1
        obtain ⟨ad, r1, c1⟩ := h1.cellAt (k := 0) rfl
        subst r1
        have h2 := World.block_lt_of_cell? w2 _ c1
        rw [addr_block] at h2
        have h3 := Hq1.out.2
        simp [Value.ownBlock]
        omega
      have hT := take_one q _ r1 k1 x ys w5 HB5.out hS hne hnar hrk
      have hil : i < bs.length := by
        have := congrArg List.length hys
        simp at this
        omega
      have hsome : decGet bs ⟨i, r, k⟩ c = some (bit, ⟨i + 1, 256 * r1 + x.toNat, k1 * 256⟩) := by
        have hx : bs.getD i 0 = x := by
          have h1 := List.getElem?_drop (xs := bs) (i := i) (j := 0)
          rw [hys] at h1
          rw [List.getD_eq_getElem?_getD, ← Nat.add_zero i, ← h1]
          rfl
        rw [Hsc.out, decScale_more hnar hil, hx]
      have htail : bs.drop (i + 1) = ys := by
        rw [← List.tail_drop, hys]
        rfl
      have HT := Lib.hid hT
      have Hsome := Lib.hid hsome
      have Htail := Lib.hid htail
      have Hne := Lib.hid hne
      clear hS hne hT hsome htail hys
      go_wp2_with fail
      refine HN.out.mono ?_
      rintro e w6 ⟨rfl, rfl⟩
      go_wp2_with fail
      refine HT.out.mono ?_
      rintro e w7 ⟨rfl, v7, hB7, hS7, hv7, hF7⟩
      obtain ⟨g7, c7, rfl⟩ := hS7.slice
      have hend : ∃ (g7 : Option Addr) (c7 i7 n7 R7 K7 : Nat), decGet bs ⟨i, r, k⟩ c = some (bit, ⟨i7, R7, K7⟩) ∧ Blk w7 q 81 #[.slice g7 n7 c7, .int .u32 (R7 : Int), .int .u32 (K7 : Int)] ∧ Src w7 (.slice g7 n7 c7) ((bs.drop i7).map B8) ∧ (Value.slice g7 n7 c7).ownBlock = (Value.slice g n cv).ownBlock ∧ Fr [] w2 w7 ∧ i7 ≤ bs.length :=
        ⟨g7, c7, i + 1, _, _, _, Hsome.out, hB7, by rw [Htail.out]; exact hS7, hv7, HF25.out.trans hF7 (fun x hx => .inr (by have := Hq1.out.2; simp at hx; omega)), hil⟩
      have Hend := Lib.hid hend
      clear hB7 hS7 hv7 hF7 hend
      go_upto_region 9 with fail
  case' neg =>
    rw [decide_eq_false hnar] at HN
    have hend : ∃ (g7 : Option Addr) (c7 i7 n7 R7 K7 : Nat), decGet bs ⟨i, r, k⟩ c = some (bit, ⟨i7, R7, K7⟩) ∧ Blk w5 q 81 #[.slice g7 n7 c7, .int .u32 (R7 : Int), .int .u32 (K7 : Int)] ∧ Src w5 (.slice g7 n7 c7) ((bs.drop i7).map B8) ∧ (Value.slice g7 n7 c7).ownBlock = (Value.slice g n cv).ownBlock ∧ Fr [] w2 w5 ∧ i7 ≤ bs.length :=
      ⟨g, cv, i, _, _, _, by rw [Hsc.out]; exact decScale_same hnar, HB5.out, HS5.out, rfl, HF25.out, hlen⟩
    have Hend := Lib.hid hend
    clear hend
    go_wp2_with fail
    refine HN.out.mono ?_
    rintro e w6 ⟨rfl, rfl⟩
    go_upto_region 9 with fail
    generalize w6 = w7 at *
  all_goals
    obtain ⟨g7, c7, i7, n7, R7, K7, hg, hB, hS, hv, hF, hi7⟩ := Hend.out
    have hP := H2.out.1.fr hF (by simp)
    have m0 := hB.cell 0
    have m1 := hB.cell 1
    have m2 := hB.cell 2
    have l7 := hB.lt
    have n0 := hP.cell 0
    have n1 := hP.cell 1
    have n2 := hP.cell 2
    have p0 := hP.frozen 0
    have p1 := hP.frozen 1
    have p2 := hP.frozen 2
    have lp := hP.lt
    simp at m0 m1 m2 n0 n1 n2
    have hs3 := ((hP.set_ 0 (.slice g7 n7 c7)).set_ 1 (.int .u32 (R7 : Int))).set_ 2 (.int .u32 (K7 : Int))
    have hf3 : Fr [p] w7 (((w7.setCell ⟨p, 0, none⟩ (.slice g7 n7 c7)).setCell ⟨p, 1, none⟩ (.int .u32 (R7 : Int))).setCell ⟨p, 2, none⟩ (.int .u32 (K7 : Int))) :=
      (((Fr.refl [p] w7).setCell (.inl (by simp)) _).setCell (.inl (by simp)) _).setCell (.inl (by simp)) _
    have HS3 := Lib.hid hs3
    have HF3 := Lib.hid hf3
    have HG := Lib.hid hg
    have HS7 := Lib.hid hS
    have HV := Lib.hid hv
    have HF7 := Lib.hid hF
    clear hg hS hv hF hP hB Hend hs3 hf3 c2 HN
    (try clear HT)
    go_wp2_with fail
    go_ret2
    refine .inl ⟨bit, ⟨i7, R7, K7⟩, HG.out, by rw [← Hb.out]; rfl, ⟨.slice g7 n7 c7, ⟨?_, ?_, ?_, hi7⟩, HV.out⟩, ?_⟩
    · simpa using HS3.out
    · refine HS7.out.fr HF3.out (fun k hk hm => ?_)
      rw [HV.out] at hk
      simp at hm
      subst hm
      exact H2.out.2.2.1 hk
    · rw [HV.out]; exact H2.out.2.2.1
    · exact (((HFd.out.trans HF7.out (by simp)).mono (S' := [p]) (by simp)).trans HF3.out (fun x hx => .inl hx))
end Go.Proofs.Ytfjlepnodmeaaaa

/-
  The landed coder keeps the contracts that the laws ask of it. No condition.
-/
namespace Go.Proofs.Ytfjlepnodmeaaaa
open Go.RowKit

def PEn (w : World) (p : Nat) (D : List Nat) (e : Enc) : Prop := ∃ v, Pe w p v e ∧ D = v.ownBlock.toList

theorem own_mem {v : Value} {k : Nat} : k ∈ v.ownBlock.toList ↔ v.ownBlock = some k := by
  cases v.ownBlock with
  | none => simp
  | some a => simp; omega

theorem Enc.Ok.pos {e : Enc} (h : e.Ok) : 0 < e.n := by
  have h1 := h.lo
  have h2 := h.fit
  rcases Nat.eq_zero_or_pos e.n with h0 | h0
  · rw [h0] at h2; omega
  · exact h0

def encI : EncSpec where
  En := PEn
  lt := by
    rintro w p D e ⟨v, h, rfl⟩ k hk
    rcases List.mem_cons.1 hk with rfl | hk
    · exact h.1.lt
    · exact h.2.1.lt k (own_mem.1 hk)
  fr := by
    rintro w w' p D e S ⟨v, h, rfl⟩ hF hS
    refine ⟨v, ⟨h.1.fr hF (hS p (List.mem_cons_self ..)), h.2.1.fr hF (fun k hk => hS k (List.mem_cons_of_mem _ (own_mem.2 hk))), h.2.2⟩, rfl⟩
  new := by
    intro w
    refine (pnew_any w).mono ?_
    rintro r w' ⟨p, v, rfl, h, hF, hp, hv⟩
    refine ⟨p, _, rfl, ⟨v, h, rfl⟩, hF, fun k hk => ?_⟩
    rcases List.mem_cons.1 hk with rfl | hk
    · exact hp
    · exact hv k (own_mem.1 hk)
  bad := by
    rintro w p D e c bit - - - - h
    exact pput_bad w p c bit h
  put := by
    rintro w p D e c bit ⟨v, h, rfl⟩ he hc hn
    refine (pput_ok p v e c bit w h he hc (by omega)).mono ?_
    rintro r w' ⟨rfl, v', h', hF, hb⟩
    refine ⟨rfl, _, ⟨v', h', rfl⟩, hF, fun k hk => ?_⟩
    rcases hb with hb | ⟨g, hb, hg⟩
    · rw [hb] at hk; exact .inl hk
    · rw [hb] at hk
      have : k = g := by simpa using hk
      exact .inr (by omega)
  bytes := by
    rintro w p D e ⟨v, h, rfl⟩ he hn
    refine (pbytes_any w p v e h he.pos hn).mono ?_
    rintro r w' ⟨u, rfl, hS, hF, hk⟩
    exact ⟨u, rfl, hS, hF, fun k h => .inr (hk k h)⟩
  putNil := by
    rintro w c bit -
    exact pput_nil w c bit
  bytesNil := bytesNil_any

def PDe (w : World) (p : Nat) (D : List Nat) (bs : List UInt8) (d : Dec) : Prop := ∃ v, Pd w p v bs d ∧ D = v.ownBlock.toList ∧ ∀ k ∈ D, k < w.heap.size

def decI : DecSpec where
  De := PDe
  lt := by
    rintro w p D bs d ⟨v, h, rfl, hl⟩ k hk
    rcases List.mem_cons.1 hk with rfl | hk
    · exact h.1.lt
    · exact hl k hk
  fr := by
    rintro w w' p D bs d S ⟨v, h, rfl, hl⟩ hF hS
    exact ⟨v, ⟨h.1.fr hF (hS p (List.mem_cons_self ..)), h.2.1.fr hF (fun k hk => hS k (List.mem_cons_of_mem _ (own_mem.2 hk))), h.2.2⟩, rfl, fun k hk => Nat.lt_of_lt_of_le (hl k hk) hF.size⟩
  short := by
    intro w A n c h
    exact open_short w A n c h
  opens := by
    intro w A c bs hS hn hm
    refine (open_any A c bs w hS hn (by omega)).mono ?_
    rintro r w' ⟨p, v, rfl, h, hF, hp, hv, hl⟩
    refine ⟨p, _, rfl, ⟨v, h, rfl, fun k hk => hl k (own_mem.1 hk)⟩, hF, hp, fun k hk e => ?_, fun k hk => .inl (hv k (own_mem.1 hk))⟩
    have := own_mem.1 hk
    rw [e] at this
    exact h.2.2.1 this
  arg := by
    rintro w p D bs d c - - h
    exact getArg_any w p c h
  get := by
    rintro w p D bs d c ⟨v, h, rfl, hl⟩ hc hr h1 h2 - -
    by_cases hg : d.rest < d.r
    · refine (pget_any p v bs d c w h hc hg h1 h2).mono ?_
      rintro r w' (⟨bit, d', hd, he, ⟨v', h', hv⟩, hF⟩ | ⟨hd, he, hF⟩)
      · exact .inl ⟨bit, d', hd, he, ⟨v', h', by rw [hv], fun k hk => Nat.lt_of_lt_of_le (hl k hk) hF.size⟩, hF⟩
      · exact .inr ⟨hd, he, hF⟩
    · refine (pget_great p v bs d c w h hc (by omega)).mono ?_
      rintro r w' ⟨he, hF⟩
      exact .inr ⟨by unfold decGet; rw [if_neg hg], he, hF⟩
  ends := by
    rintro w p D bs d ⟨v, h, -, -⟩
    refine (end_any w p v bs d h).mono ?_
    rintro r w' ⟨rfl, rfl⟩
    exact ⟨rfl, 0, rfl⟩
  getNil := by
    rintro w c -
    exact getNil_any w c
  endNil := endNil_any

theorem nextI : NextSpec := next_any
end Go.Proofs.Ytfjlepnodmeaaaa

/-
  Contracts of the landed book: put, putBehind, putLength, putLowest. Conditions: the book and the encoder are apart, the chances are right, the code is not too long.
-/
namespace Go.Proofs.Ytfjlepnodmeaaaa
open Go.RowKit

abbrev ptc (b j : Nat) : Value := .pointer (some ⟨b, j, none⟩)

/-- Behind a row of bits, from w0 on. -/
def NibAt (X : EncSpec) (w0 : World) (b p : Nat) (D0 : List Nat) (t : Nat) (B : Chs) (e : Enc) (w : World) (l : List Ev) : Prop :=
  ∃ D, Bk w b (learned t B l) ∧ X.En w p D (puts e (track t B l)) ∧ b ∉ p :: D ∧ Fr (b :: p :: D0) w0 w ∧ ∀ k ∈ D, k ∈ D0 ∨ w0.heap.size ≤ k

section
variable {X : EncSpec} {w0 w : World} {b p : Nat} {D0 : List Nat} {t : Nat} {B : Chs} {e : Enc} {l : List Ev}
theorem NibAt.start (hb : Bk w0 b B) (he : X.En w0 p D0 e) (hs : b ∉ p :: D0) : NibAt X w0 b p D0 t B e w0 [] :=
  ⟨D0, hb, he, hs, Fr.refl _ _, fun k hk => .inl hk⟩
theorem NibAt.fr0 {w' : World} (h : NibAt X w0 b p D0 t B e w l) (hf : Fr [] w w') : NibAt X w0 b p D0 t B e w' l := by
  obtain ⟨D, h1, h2, h3, h4, h5⟩ := h
  exact ⟨D, h1.fr hf (by simp), X.fr h2 hf (by simp), h3, h4.trans hf (by simp), h5⟩
end

set_option maxRecDepth 20000 in
theorem bput_any (N : NextSpec) (X : EncSpec) (w w0 : World) (b p : Nat) (D0 : List Nat) (t i : Nat) (B : Chs) (e : Enc) (l : List Ev) (bit : Bool) (h : NibAt X w0 b p D0 t B e w l) (hB : FineB B) (he : e.Ok) (hn : e.n + l.length ≤ 100000) (ht : t < 16) (hi : i < 37) :
    Calls Try.prog 42 #[pt p, ptc b (t * 37 + i), .int .i64 (bit.toNat : Int)] w fun r w' => r = .returned (.int .i64 0) ∧ NibAt X w0 b p D0 t B e w' (l ++ [(some i, bit)]) := by
  obtain ⟨D, hb, hE, hs, hF, hD⟩ := h
  have hfine := learned_fine t l hB
  have hok := puts_ok he (track_rights t l hB)
  have hn2 := puts_n (track t B l) e
  rw [track_length] at hn2
  obtain ⟨c, hc⟩ : ∃ c, c = learned t B l (37 * t + i) := ⟨_, rfl⟩
  have hcr : rightC c := by rw [hc]; exact hfine _
  have ka := hb.cell (j := t * 37 + i) (by omega)
  rw [show t * 37 + i = 37 * t + i by omega, ← hc, show 37 * t + i = t * 37 + i by omega] at ka
  have hP := X.put w p D _ c bit hE hok hcr (by omega)
  have hN := fun W => N W c (bit.toNat : Int) (by have := hcr.2; omega) (by omega) (by have := Bool.toNat_le bit; omega)
  have hbb : ((bit.toNat : Int) != 0) = bit := by cases bit <;> rfl
  rw [hbb] at hN
  obtain ⟨y, hy⟩ : ∃ y, y = nextC c bit := ⟨_, rfl⟩
  rw [← hy] at hN
  have HP := Lib.hid hP; have HN := Lib.hid hN; have Hc := Lib.hid hc; have Hy := Lib.hid hy
  have Hb := Lib.hid hb; have Hs := Lib.hid hs; have HF := Lib.hid hF; have HD := Lib.hid hD; have HE := Lib.hid hE
  clear hb hE hs hF hD hc hP hN hbb hy hfine hok hn2 he hn hB
  go_enter Try.func42, Try.ntmps42
  go_wp2_with fail
  refine HP.out.mono ?_
  rintro r w1 ⟨rfl, D', hE1, hF1, hD1⟩
  have hb1 : Bk w1 b (learned t B l) := Hb.out.fr hF1 Hs.out
  have kb : w1.cell? ⟨b, t * 37 + i, none⟩ = some (.int .u16 (c : Int)) := by
    have := hb1.cell (j := t * 37 + i) (by omega)
    rw [show t * 37 + i = 37 * t + i by omega, ← Hc.out, show 37 * t + i = t * 37 + i by omega] at this
    exact this
  have HE1 := Lib.hid hE1; have HF1 := Lib.hid hF1; have HD1 := Lib.hid hD1; have HB1 := Lib.hid hb1
  clear hE1 hF1 hD1 hb1 ka HP
  go_wp2_with fail
  refine (HN.out _).mono ?_
  rintro r w2 ⟨rfl, hF2⟩
  have hb2 : Bk w2 b (learned t B l) := HB1.out.fr hF2 (by simp)
  have kc : w2.cell? ⟨b, t * 37 + i, none⟩ = some (.int .u16 (c : Int)) := by
    have := hb2.cell (j := t * 37 + i) (by omega)
    rw [show t * 37 + i = 37 * t + i by omega, ← Hc.out, show 37 * t + i = t * 37 + i by omega] at this
    exact this
  have kf : w2.frozen? ⟨b, t * 37 + i, none⟩ = false := Blk.frozen hb2 _
  have HF2 := Lib.hid hF2; have HB2 := Lib.hid hb2
  clear hF2 hb2 kb
  go_wp2_with fail
  go_ret
  have hbl := Hb.out.lt
  have hF12 : Fr [b] w1 (w2.setCell ⟨b, t * 37 + i, none⟩ (.int .u16 (y : Int))) := (HF2.out.mono (S' := [b]) (by simp)).trans ((Fr.refl [b] w2).setCell (.inl (by simp)) _) (fun x hx => .inl hx)
  have hsep : b ∉ p :: D' := by
    intro hm
    rcases List.mem_cons.1 hm with hm | hm
    · exact Hs.out (by rw [hm]; exact List.mem_cons_self ..)
    · rcases HD1.out b hm with h | h
      · exact Hs.out (List.mem_cons_of_mem _ h)
      · omega
  have hcB : learned t B l (37 * t + i) = c := Hc.out.symm
  refine ⟨rfl, D', ?_, ?_, hsep, ?_, ?_⟩
  · rw [learned_append]
    show Bk _ b (upd (learned t B l) (37 * t + i) (nextC (learned t B l (37 * t + i)) bit))
    rw [hcB, ← Hy.out, show 37 * t + i = t * 37 + i by omega]
    exact HB2.out.set _ _
  · rw [track_append, puts_append]
    have h1 : X.En w1 p D' (encPut (puts e (track t B l)) (learned t B l (37 * t + i)) bit) := by rw [hcB]; exact HE1.out
    exact X.fr h1 hF12 (fun k hk hm => by simp at hm; subst hm; exact hsep hk)
  · refine (HF.out.trans HF1.out ?_).trans hF12 ?_
    · intro x hx
      rcases List.mem_cons.1 hx with rfl | hx
      · exact .inl (List.mem_cons_of_mem _ (List.mem_cons_self ..))
      · rcases HD.out x hx with h | h
        · exact .inl (List.mem_cons_of_mem _ (List.mem_cons_of_mem _ h))
        · exact .inr h
    · intro x hx
      simp at hx
      subst hx
      exact .inl (List.mem_cons_self ..)
  · intro k hk
    rcases HD1.out k hk with h | h
    · exact HD.out k h
    · exact .inr (Nat.le_trans HF.out.size h)

theorem NibAt.even {X : EncSpec} {w w0 : World} {b p : Nat} {D0 : List Nat} {t : Nat} {B : Chs} {e : Enc} {l : List Ev} (h : NibAt X w0 b p D0 t B e w l) (hB : FineB B) (he : e.Ok) (hn : e.n + l.length ≤ 100000) (bit : Bool) :
    Calls Try.prog 57 #[pt p, .int .u16 1024, .int .i64 (bit.toNat : Int)] w fun r w' => r = .returned (.int .i64 0) ∧ NibAt X w0 b p D0 t B e w' (l ++ [(none, bit)]) := by
  obtain ⟨D, hb, hE, hs, hF, hD⟩ := h
  have hn2 := puts_n (track t B l) e
  rw [track_length] at hn2
  refine (X.put w p D _ 1024 bit hE (puts_ok he (track_rights t l hB)) (by decide) (by omega)).mono ?_
  rintro r w' ⟨rfl, D', hE1, hF1, hD1⟩
  have hbl := hb.lt
  refine ⟨rfl, D', ?_, ?_, ?_, ?_, ?_⟩
  · rw [learned_append]
    exact hb.fr hF1 hs
  · rw [track_append, puts_append]
    exact hE1
  · intro hm
    rcases List.mem_cons.1 hm with hm | hm
    · exact hs (by rw [hm]; exact List.mem_cons_self ..)
    · rcases hD1 b hm with h | h
      · exact hs (List.mem_cons_of_mem _ h)
      · omega
  · refine hF.trans hF1 ?_
    intro x hx
    rcases List.mem_cons.1 hx with rfl | hx
    · exact .inl (List.mem_cons_of_mem _ (List.mem_cons_self ..))
    · rcases hD x hx with h | h
      · exact .inl (List.mem_cons_of_mem _ (List.mem_cons_of_mem _ h))
      · exact .inr h
  · intro k hk
    rcases hD1 k hk with h | h
    · exact hD k h
    · exact .inr (Nat.le_trans hF.size h)

set_option maxRecDepth 20000 in
theorem bbehind_any (N : NextSpec) (X : EncSpec) (w w0 : World) (b p : Nat) (D0 : List Nat) (t i a : Nat) (B : Chs) (e : Enc) (l : List Ev) (bit : Bool) (h : NibAt X w0 b p D0 t B e w l) (hB : FineB B) (he : e.Ok) (hn : e.n + l.length ≤ 100000) (ht : t < 16) (ha : a < 2 ^ i) (hi : i ≤ 20) :
    Calls Try.prog 56 #[ptc b (t * 37), pt p, .int .i64 ((2 ^ i + a : Nat) : Int), .int .i64 (bit.toNat : Int)] w fun r w' => r = .returned (.int .i64 0) ∧ NibAt X w0 b p D0 t B e w' (l ++ [(place i a, bit)]) := by
  have HI := Lib.hid (bfirst_any (2 ^ i + a) w)
  by_cases h4 : i < 4
  · have hp : 2 ^ i ≤ 8 := Nat.pow_le_pow_right (n := 2) (i := i) (j := 3) (by omega) (by omega)
    have hp0 := Nat.two_pow_pos i
    have hP := bput_any N X w w0 b p D0 t (20 + (2 ^ i - 1) + a) B e l bit h hB he hn ht (by omega)
    have hpl : place i a = some (20 + (2 ^ i - 1) + a) := by unfold place; rw [if_pos h4]
    rw [← hpl] at hP
    obtain ⟨W, hW⟩ : ∃ W, W = 2 ^ i + a := ⟨_, rfl⟩
    rw [show t * 37 + (20 + (2 ^ i - 1) + a) = t * 37 + (19 + W) by omega] at hP
    rw [← hW, decide_eq_true (by omega : W < 16)] at HI
    have e1 : (W : Int) < 16 := by omega
    rw [← hW]
    have HP := Lib.hid hP
    have hW0 : 1 ≤ W := by omega
    have hW16 : W < 16 := by omega
    clear hP hW hpl h hB he hn ha h4 hp hp0
    go_enter Try.func56, Try.ntmps56
    go_wp2_with fail
    refine HI.out.mono ?_
    rintro r w1 ⟨rfl, rfl⟩
    clear HI
    have ew : 20 + W - 1 = 19 + W := by omega
    have Hew := Lib.hid ew
    clear ew
    go_wp2_with fail
    rw [Hew.out]
    refine HP.out.mono ?_
    rintro r w2 ⟨rfl, hQ⟩
    have HQ := Lib.hid hQ
    clear hQ HP
    go_wp2_with fail
    go_ret
    exact ⟨rfl, HQ.out⟩
  · have hp : 16 ≤ 2 ^ i := Nat.pow_le_pow_right (n := 2) (i := 4) (j := i) (by omega) (by omega)
    have hpl : place i a = none := by unfold place; rw [if_neg h4]
    have hE := h.even hB he hn bit
    rw [hpl]
    obtain ⟨W, hW⟩ : ∃ W, W = 2 ^ i + a := ⟨_, rfl⟩
    rw [← hW, decide_eq_false (by omega : ¬ W < 16)] at HI
    rw [← hW]
    have HE := Lib.hid hE
    clear hE hW hpl h hB he hn ha h4 hp
    go_enter Try.func56, Try.ntmps56
    go_wp2_with fail
    refine HI.out.mono ?_
    rintro r w1 ⟨rfl, rfl⟩
    clear HI
    go_wp2_with fail
    refine HE.out.mono ?_
    rintro r w2 ⟨rfl, hQ⟩
    have HQ := Lib.hid hQ
    clear hQ HE
    go_wp2_with fail
    go_ret
    exact ⟨rfl, HQ.out⟩

set_option maxRecDepth 20000 in
theorem blength_any (N : NextSpec) (X : EncSpec) (w w0 : World) (b p : Nat) (D0 : List Nat) (t n : Nat) (B : Chs) (e : Enc) (l : List Ev) (h : NibAt X w0 b p D0 t B e w l) (hB : FineB B) (he : e.Ok) (hn : e.n + l.length ≤ 90000) (ht : t < 16) (hn20 : n ≤ 20) :
    Calls Try.prog 40 #[ptc b (t * 37), pt p, .int .i64 (n : Int)] w fun r w' => r = .returned (.int .i64 0) ∧ NibAt X w0 b p D0 t B e w' (l ++ (onesEvs 0 n ++ stopEvs n)) := by
  have H0 := Lib.hid h
  have HB := Lib.hid hB; have He := Lib.hid he; have Hn := Lib.hid hn
  clear h hB he hn
  go_enter Try.func40, Try.ntmps40
  go_wp2_with fail
  go_loopw [10] (fun s10 wr => ∃ i : Nat, i ≤ n ∧ s10 = .int .i64 (i : Int) ∧ NibAt X w0 b p D0 t B e wr (l ++ onesEvs 0 i)) (fun s10 _ => 20 - (intOf s10).toNat)
  case atStart => exact ⟨0, by omega, rfl, by rw [show onesEvs 0 0 = [] from rfl, List.append_nil]; exact H0.out⟩
  case round =>
    clear H0
    obtain ⟨i, hi, rfl, hP⟩ := hrel
    have HP := Lib.hid hP; clear hP
    by_cases hin : i < n
    · have e1 : decide (i < n) = true := by simpa using hin
      have hPut := bput_any N X wr w0 b p D0 t i B e _ true HP.out HB.out He.out (by have := Hn.out; simp; omega) ht (by omega)
      rw [show ((true.toNat : Nat) : Int) = 1 from rfl, List.append_assoc, show onesEvs 0 i ++ [(some i, true)] = onesEvs 0 (i + 1) by rw [onesEvs_snoc, Nat.zero_add]] at hPut
      have HPut := Lib.hid hPut
      clear hPut
      go_wp2_with fail
      refine HPut.out.mono ?_
      rintro r w1 ⟨rfl, hQ⟩
      have HQ := Lib.hid hQ
      clear hQ HPut
      go_wp2_with fail
      exact ⟨⟨i + 1, by omega, by simp, HQ.out⟩, by simp [intOf]; omega⟩
    · have e1 : decide (i < n) = false := by simpa using hin
      have hin2 : i = n := by omega
      have hQ := HP.out
      rw [hin2] at hQ
      have HQ := Lib.hid hQ
      clear hQ HP hin2 hin hi
      by_cases h20 : n = 20
      · have e2 : ((n : Int) == 20) = true := by simp; omega
        have hfin : NibAt X w0 b p D0 t B e wr (l ++ (onesEvs 0 n ++ stopEvs n)) := by
          rw [show stopEvs n = [] by unfold stopEvs; rw [if_neg (by omega)], List.append_nil]
          exact HQ.out
        have HFin := Lib.hid hfin
        clear hfin HQ h20
        go_wp2_with fail
        go_ret
        exact ⟨rfl, HFin.out⟩
      · have e2 : ((n : Int) == 20) = false := by simp; omega
        have hPut := bput_any N X wr w0 b p D0 t n B e _ false HQ.out HB.out He.out (by have := Hn.out; simp; omega) ht (by omega)
        rw [show ((false.toNat : Nat) : Int) = 0 from rfl, List.append_assoc, show onesEvs 0 n ++ [(some n, false)] = onesEvs 0 n ++ stopEvs n by unfold stopEvs; rw [if_pos (by omega)]] at hPut
        have HPut := Lib.hid hPut
        clear hPut HQ
        go_wp2_with fail
        refine HPut.out.mono ?_
        rintro r w1 ⟨rfl, hQ⟩
        have HQ := Lib.hid hQ
        clear hQ HPut
        go_wp2_with fail
        go_ret
        exact ⟨rfl, HQ.out⟩

theorem i64_and_one (R : Nat) (h : R < 9223372036854775808) : bits .and .i64 (R : Int) 1 = ((R % 2 : Nat) : Int) := by
  show IntKind.i64.wrap ((BitVec.ofInt 64 (R : Int) &&& BitVec.ofInt 64 1).toNat : Int) = _
  rw [BitVec.toNat_and, BitVec.toNat_ofInt, show (BitVec.ofInt 64 1).toNat = 1 by decide, Nat.and_one_is_mod]
  rw [IntWalk.i64_in _ (by omega)]
  omega
/-! The lowest n bits of V, which has a 1 ahead of them. -/
theorem low_take (V n i : Nat) (h : i ≤ n) : (digits V n).take i = digits (V / 2 ^ (n - i)) i := by
  have e := digits_add V (n - i) i
  rw [show n - i + i = n by omega] at e
  rw [e, List.take_left' (by simp), Nat.shiftRight_eq_div_pow]
theorem low_ahead {V n i : Nat} (h0 : 2 ^ n ≤ V) (h1 : V < 2 ^ (n + 1)) (h : i ≤ n) : V / 2 ^ (n - i) = 2 ^ i + number ((digits V n).take i) := by
  rw [low_take V n i h, number_digits]
  have hp := Nat.two_pow_pos (n - i)
  have h2 : 2 ^ i ≤ V / 2 ^ (n - i) := by
    rw [Nat.le_div_iff_mul_le hp, ← Nat.pow_add, show i + (n - i) = n by omega]
    exact h0
  have h3 : V / 2 ^ (n - i) < 2 ^ (i + 1) := by
    rw [Nat.div_lt_iff_lt_mul hp, ← Nat.pow_add, show i + 1 + (n - i) = n + 1 by omega]
    exact h1
  rw [Nat.pow_succ] at h3
  generalize V / 2 ^ (n - i) = m at h2 h3 ⊢
  generalize 2 ^ i = q at h2 h3 ⊢
  rw [Nat.mod_eq_sub_mod h2, Nat.mod_eq_of_lt (by omega)]
  omega
theorem low_bit {V n i : Nat} (h : i < n) : V / 2 ^ (n - 1 - i) % 2 = ((digits V n).getD i false).toNat := by
  rw [digits_getD, Nat.testBit_eq_decide_div_mod_eq]
  simp only [h, decide_true, Bool.true_and]
  rcases Nat.mod_two_eq_zero_or_one (V / 2 ^ (n - 1 - i)) with h | h <;> rw [h] <;> rfl
theorem low_half {V n i : Nat} (h : i < n) : V / 2 ^ (n - 1 - i) / 2 = V / 2 ^ (n - i) := by
  rw [Nat.div_div_eq_div_mul, ← Nat.pow_succ, show (n - 1 - i).succ = n - i by omega]

set_option maxRecDepth 20000 in
theorem blowest_any (N : NextSpec) (X : EncSpec) (w w0 : World) (b p : Nat) (D0 : List Nat) (t n V : Nat) (B : Chs) (e : Enc) (l : List Ev) (h : NibAt X w0 b p D0 t B e w l) (hB : FineB B) (he : e.Ok) (hn : e.n + l.length ≤ 90000) (ht : t < 16) (hn20 : n ≤ 20) (hV0 : 2 ^ n ≤ V) (hV1 : V < 2 ^ (n + 1)) :
    Calls Try.prog 41 #[ptc b (t * 37), pt p, .int .i64 (V : Int), .int .i64 (n : Int)] w fun r w' => r = .returned (.int .i64 0) ∧ NibAt X w0 b p D0 t B e w' (l ++ bitEvs 0 0 (digits V n)) := by
  have hV : V < 2097152 := Nat.lt_of_lt_of_le hV1 (Nat.pow_le_pow_right (n := 2) (i := n + 1) (j := 21) (by omega) (by omega))
  have H0 := Lib.hid h
  have HB := Lib.hid hB; have He := Lib.hid he; have Hn := Lib.hid hn; have HV0 := Lib.hid hV0; have HV1 := Lib.hid hV1
  clear h hB he hn hV0 hV1
  go_enter Try.func41, Try.ntmps41
  go_wp2_with fail
  go_loopw [13] (fun s13 wr => ∃ i : Nat, i ≤ n ∧ s13 = .int .i64 (i : Int) ∧ NibAt X w0 b p D0 t B e wr (l ++ bitEvs 0 0 ((digits V n).take i))) (fun s13 _ => 20 - (intOf s13).toNat)
  case atStart => exact ⟨0, by omega, rfl, by rw [List.take_zero, show bitEvs 0 0 [] = [] from rfl, List.append_nil]; exact H0.out⟩
  case round =>
    clear H0
    obtain ⟨i, hi, rfl, hP⟩ := hrel
    have HP := Lib.hid hP; clear hP
    by_cases hin : i < n
    · have e1 : decide (i < n) = true := by simpa using hin
      have hs : (0 : Int) ≤ (n : Int) - 1 - (i : Int) := by omega
      go_upto_region 5 with fail
      obtain ⟨R, hR⟩ : ∃ R, R = V / 2 ^ (n - 1 - i) := ⟨_, rfl⟩
      have eR : (V : Int) / 2 ^ (n - 1 - i) = (R : Int) := by rw [hR]; simp
      rw [eR]
      have hRV : R ≤ V := by rw [hR]; exact Nat.div_le_self _ _
      have h2 := low_half (V := V) hin
      rw [← hR, low_ahead HV0.out HV1.out (by omega)] at h2
      have h3 := low_bit (V := V) hin
      rw [← hR] at h3
      obtain ⟨bit, hbit⟩ : ∃ bit, bit = (digits V n).getD i false := ⟨_, rfl⟩
      rw [← hbit] at h3
      have hPut := bbehind_any N X wr w0 b p D0 t i (number ((digits V n).take i)) B e _ bit HP.out HB.out He.out (by have := Hn.out; simp; omega) ht (by have := number_lt ((digits V n).take i); rw [List.length_take, digits_length, Nat.min_eq_left (by omega)] at this; exact this) (by omega)
      rw [← h2, List.append_assoc, hbit, ← bitEvs_take (by simpa using hin), ← hbit] at hPut
      have hA : bits .and .i64 (R : Int) 1 = (bit.toNat : Int) := by rw [i64_and_one R (by omega), h3]
      obtain ⟨Q, hQ⟩ : ∃ Q, Q = R / 2 := ⟨_, rfl⟩
      have hD : (R : Int) / 2 = (Q : Int) := by omega
      rw [← hQ] at hPut h2
      have HPut := Lib.hid hPut
      clear hPut hR eR h2 h3 hbit HP hQ
      go_wp2_with fail
      refine HPut.out.mono ?_
      rintro r w1 ⟨rfl, hQ⟩
      have HQ := Lib.hid hQ
      clear hQ HPut
      go_wp2_with fail
      exact ⟨⟨i + 1, by omega, by simp, HQ.out⟩, by simp [intOf]; omega⟩
    · have e1 : decide (i < n) = false := by simpa using hin
      have hin2 : i = n := by omega
      have hQ := HP.out
      rw [hin2, List.take_of_length_le (by simp)] at hQ
      have HQ := Lib.hid hQ
      clear hQ HP hin2 hin hi
      go_wp2_with fail
      go_ret
      exact ⟨rfl, HQ.out⟩
end Go.Proofs.Ytfjlepnodmeaaaa

/-
  Contracts of math/bits.Len64 and math/bits.Len below 2^32. No other condition.
-/
namespace Go.Proofs.Ytfjlepnodmeaaaa
open Go.RowKit

theorem bitLen_div (x k : Nat) (h : 1 ≤ x / 2 ^ k) : bitLen x = bitLen (x / 2 ^ k) + k := by
  have hp : 0 < 2 ^ k := Nat.two_pow_pos k
  have hx : x ≠ 0 := by intro h0; subst h0; simp at h
  have h1 := Nat.log2_self_le (show x / 2 ^ k ≠ 0 by omega)
  have h2 : x / 2 ^ k < 2 ^ ((x / 2 ^ k).log2 + 1) := Nat.lt_log2_self
  have h3 : x.log2 = (x / 2 ^ k).log2 + k := (Nat.log2_eq_iff hx).2 ⟨by rw [Nat.pow_add]; exact (Nat.le_div_iff_mul_le hp).1 h1, by rw [show (x / 2 ^ k).log2 + k + 1 = ((x / 2 ^ k).log2 + 1) + k by omega, Nat.pow_add]; exact (Nat.div_lt_iff_lt_mul hp).1 h2⟩
  unfold bitLen
  rw [if_neg hx, if_neg (by omega), h3]
  omega

set_option maxHeartbeats 4000000 in
set_option maxRecDepth 100000 in
theorem mlen64_any (x : Nat) (w : World) (h1 : x < 4294967296) :
    Calls Try.prog 55 #[.int .u64 (x : Int)] w fun e w' => e = .returned (.int .i64 (bitLen x : Int)) ∧ w' = w := by
  go_enter Try.func55, Try.ntmps55
  generalize hX : ByteArray.mk (List.toArray (List.append (List.append _ _) (List.append _ _))) = s
  have hidx : ∀ (z : Int) (k : Nat), z = ((x / 2 ^ k : Nat) : Int) → (k = 0 ∨ 1 ≤ x / 2 ^ k) → x / 2 ^ k < 256 → ∃ n : Nat, n ≤ 8 ∧ Hid (k + n = bitLen x) ∧ (Instr.index 9 (.string s) (.int .u8 z)).run Try.prog w = .ok (.int .u8 (n : Int)) w := by
    intro z k hz b0 b1
    have hsz : s.size = 256 := by subst hX; decide +kernel
    have all : ∀ n : Fin 256, (s[n.val]?).map UInt8.toNat = some (bitLen n.val) ∧ bitLen n.val ≤ 8 := by subst hX; decide +kernel
    have d : bitLen x = bitLen (x / 2 ^ k) + k := by
      rcases b0 with b0 | b0
      · subst b0; simp
      · exact bitLen_div x k b0
    generalize x / 2 ^ k = b at *
    subst hz
    obtain ⟨hb, hl⟩ := all ⟨b, b1⟩
    simp only at hl d
    refine ⟨bitLen b, hl, Lib.hid (by omega), ?_⟩
    rw [run_index_string w 9 s .u8 b Try.underlying9, dif_pos ⟨by omega, by rw [hsz]; omega⟩]
    simp only [Int.toNat_natCast] at hb ⊢
    rw [getElem?_pos s b (by rw [hsz]; exact b1)] at hb
    simp only [Option.map_some, Option.some.injEq] at hb
    rw [hb]
  clear hX
  have e0 : decide ((4294967296 : Int) ≤ (x : Int)) = false := by simp; omega
  obtain ⟨L, hL⟩ : ∃ L, L = bitLen x := ⟨_, rfl⟩
  rw [← hL] at hidx ⊢
  clear hL
  by_cases ha : 65536 ≤ x
  · have e1 : decide ((65536 : Int) ≤ (x : Int)) = true := by simp; omega
    by_cases hb : 16777216 ≤ x
    · have e2 : decide ((256 : Int) ≤ (x : Int) / 65536) = true := by simp; omega
      obtain ⟨n, hn, HN, hi⟩ := hidx ((x : Int) / 65536 / 256 % 256) 24 (by omega) (by omega) (by omega)
      clear hidx h1 ha hb
      go_wp2_with fail
      go_ret
      exact ⟨by have := HN.out; show Ending.returned (.int .i64 (24 + (n : Int))) = _; congr 2; omega, rfl⟩
    · have e2 : decide ((256 : Int) ≤ (x : Int) / 65536) = false := by simp; omega
      obtain ⟨n, hn, HN, hi⟩ := hidx ((x : Int) / 65536 % 256) 16 (by omega) (by omega) (by omega)
      clear hidx h1 ha hb
      go_wp2_with fail
      go_ret
      exact ⟨by have := HN.out; show Ending.returned (.int .i64 (16 + (n : Int))) = _; congr 2; omega, rfl⟩
  · have e1 : decide ((65536 : Int) ≤ (x : Int)) = false := by simp; omega
    by_cases hb : 256 ≤ x
    · have e2 : decide ((256 : Int) ≤ (x : Int)) = true := by simp; omega
      obtain ⟨n, hn, HN, hi⟩ := hidx ((x : Int) / 256 % 256) 8 (by omega) (by omega) (by omega)
      clear hidx h1 ha hb
      go_wp2_with fail
      go_ret
      exact ⟨by have := HN.out; show Ending.returned (.int .i64 (8 + (n : Int))) = _; congr 2; omega, rfl⟩
    · have e2 : decide ((256 : Int) ≤ (x : Int)) = false := by simp; omega
      obtain ⟨n, hn, HN, hi⟩ := hidx ((x : Int) % 256) 0 (by omega) (by omega) (by omega)
      clear hidx h1 ha hb
      go_wp2_with fail
      go_ret
      exact ⟨by have := HN.out; show Ending.returned (.int .i64 (n : Int)) = _; congr 2; omega, rfl⟩

theorem mlen_any (x : Nat) (w : World) (h1 : x < 4294967296) :
    Calls Try.prog 39 #[.int .u64 (x : Int)] w fun e w' => e = .returned (.int .i64 (bitLen x : Int)) ∧ w' = w := by
  have HL := Lib.hid (mlen64_any x w h1)
  obtain ⟨L, hL⟩ : ∃ L, L = bitLen x := ⟨_, rfl⟩
  rw [← hL] at HL ⊢
  clear hL
  go_enter Try.func39, Try.ntmps39
  go_wp2_with fail
  refine HL.out.mono ?_
  rintro e w' ⟨rfl, rfl⟩
  go_wp2_with fail
  go_ret
  exact ⟨rfl, rfl⟩
end Go.Proofs.Ytfjlepnodmeaaaa

/-
  Contracts of the landed book: Put, PutSigned, PutOne. Conditions: the book and the encoder are apart, the chances are right, the code is not too long.
-/
namespace Go.Proofs.Ytfjlepnodmeaaaa
open Go.RowKit

theorem NibAt.done {X : EncSpec} {w w0 : World} {b p : Nat} {D0 : List Nat} {t : Nat} {B : Chs} {e : Enc} {l : List Ev} (h : NibAt X w0 b p D0 t B e w l) :
    ∃ D', Bk w b (learned t B l) ∧ X.En w p D' (puts e (track t B l)) ∧ Fr (b :: p :: D0) w0 w ∧ ∀ k ∈ D', k ∈ D0 ∨ w0.heap.size ≤ k := by
  obtain ⟨D, h1, h2, -, h4, h5⟩ := h
  exact ⟨D, h1, h2, h4, h5⟩

/-- Not put: whatever is at the book and at the encoder. -/
theorem bPut_bad (t v : Int) (a c : Option Addr) (w : World) (h : a = none ∨ c = none ∨ ¬ (0 ≤ t ∧ t ≤ 15) ∨ v < 0 ∨ 1048576 < v) :
    Calls Try.prog 25 #[.pointer a, .pointer c, .int .i64 t, .int .i64 v] w fun r w' => r = .returned (.int .i64 1) ∧ w' = w := by
  have HT := Lib.hid (btopic_any t w)
  cases a with
  | none =>
    clear h
    go_enter Try.func25, Try.ntmps25
    go_wp2_with fail
    go_ret
    exact ⟨rfl, rfl⟩
  | some a =>
  cases c with
  | none =>
    clear h
    go_enter Try.func25, Try.ntmps25
    go_wp2_with fail
    go_ret
    exact ⟨rfl, rfl⟩
  | some c =>
  have h : ¬ (0 ≤ t ∧ t ≤ 15) ∨ v < 0 ∨ 1048576 < v := by simpa using h
  by_cases h1 : 0 ≤ t ∧ t ≤ 15
  · rw [decide_eq_true h1] at HT
    by_cases h2 : v < 0
    · have e1 : decide (v < 0) = true := by simpa using h2
      go_enter Try.func25, Try.ntmps25
      go_wp2_with fail
      refine HT.out.mono ?_
      rintro r w1 ⟨rfl, rfl⟩
      go_wp2_with fail
      go_ret
      exact ⟨rfl, rfl⟩
    · have e1 : decide (v < 0) = false := by simpa using h2
      have e2 : decide (1048576 < v) = true := by simp; omega
      go_enter Try.func25, Try.ntmps25
      go_wp2_with fail
      refine HT.out.mono ?_
      rintro r w1 ⟨rfl, rfl⟩
      go_wp2_with fail
      go_ret
      exact ⟨rfl, rfl⟩
  · rw [decide_eq_false h1] at HT
    go_enter Try.func25, Try.ntmps25
    go_wp2_with fail
    refine HT.out.mono ?_
    rintro r w1 ⟨rfl, rfl⟩
    go_wp2_with fail
    go_ret
    exact ⟨rfl, rfl⟩

theorem bPut_ok (N : NextSpec) (X : EncSpec) (w : World) (b p t n : Nat) (D : List Nat) (B : Chs) (e : Enc) (hb : Bk w b B) (hE : X.En w p D e) (hs : b ∉ p :: D) (hB : FineB B) (he : e.Ok) (hn : e.n ≤ 60000) (ht : t < 16) (hv : n ≤ 1048576) :
    Calls Try.prog 25 #[pt b, pt p, .int .i64 (t : Int), .int .i64 (n : Int)] w fun r w' => r = .returned (.int .i64 0) ∧ NibAt X w b p D t B e w' (numEvs n) := by
  have HT := btopic_any (t : Int) w
  rw [decide_eq_true (by omega : 0 ≤ (t : Int) ∧ (t : Int) ≤ 15)] at HT
  have HT := Lib.hid HT
  have e1 : decide (1048576 < (n : Int)) = false := by simp; omega
  obtain ⟨k, hk⟩ : ∃ k, k = (n + 1).log2 := ⟨_, rfl⟩
  have hbl : bitLen (n + 1) = k + 1 := by unfold bitLen; rw [if_neg (by omega), hk]
  have hk20 : k ≤ 20 := by rw [hk]; exact log2_level hv
  have hL := mlen_any (n + 1) w (by omega)
  rw [hbl] at hL
  have hP := blength_any N X w w b p D t k B e [] (NibAt.start hb hE hs) hB he (by simp; omega) ht hk20
  have hQ := fun w1 (h : NibAt X w b p D t B e w1 (onesEvs 0 k ++ stopEvs k)) => blowest_any N X w1 w b p D t k (n + 1) B e _ h hB he (by
    have h2 : (stopEvs k).length ≤ 1 := by unfold stopEvs; split <;> simp
    simp; omega) ht hk20 (by rw [hk]; exact Nat.log2_self_le (by omega)) (by rw [hk]; exact Nat.lt_log2_self)
  rw [List.nil_append] at hP
  have en : numEvs n = onesEvs 0 k ++ stopEvs k ++ bitEvs 0 0 (digits (n + 1) k) := by unfold numEvs; rw [← hk, List.append_assoc]
  rw [en]
  have eU : IntKind.u64.wrap ((n : Int) + 1) = (n : Int) + 1 := IntWalk.u64_in _ (by omega)
  rw [show ((n + 1 : Nat) : Int) = (n : Int) + 1 by simp] at hL
  have HL := Lib.hid hL; have HP := Lib.hid hP; have HQ := Lib.hid hQ
  clear hL hP hQ en hk hbl hb hE hs hB he hn
  go_enter Try.func25, Try.ntmps25
  go_wp2_with fail
  refine HT.out.mono ?_
  rintro r w1 ⟨rfl, rfl⟩
  go_wp2_with fail
  refine HL.out.mono ?_
  rintro r w1 ⟨rfl, rfl⟩
  clear HL HT
  go_wp2_with fail
  refine HP.out.mono ?_
  rintro r w2 ⟨rfl, h2⟩
  have HQ2 := Lib.hid (HQ.out w2 h2)
  clear h2 HQ HP
  go_wp2_with fail
  refine HQ2.out.mono ?_
  rintro r w3 ⟨rfl, h3⟩
  have H3 := Lib.hid h3
  clear h3 HQ2
  go_wp2_with fail
  go_ret
  exact ⟨rfl, H3.out⟩

theorem wrap_neg {v : Int} (hv : InI v) : ∃ m : Int, wrap64 (-v) = m ∧ (m = -v ∨ (v = -9223372036854775808 ∧ m = v)) := by
  obtain ⟨hv1, hv2⟩ := hv
  by_cases h0 : v = -9223372036854775808
  · exact ⟨v, by subst h0; decide +kernel, .inr ⟨h0, rfl⟩⟩
  · exact ⟨-v, IntWalk.wrap64_in _ (by omega), .inl rfl⟩

theorem bPutS_bad (t v : Int) (a c : Option Addr) (w : World) (hv : InI v) (h : a = none ∨ c = none ∨ ¬ (0 ≤ t ∧ t ≤ 15) ∨ v < -1048576 ∨ 1048576 < v) :
    Calls Try.prog 26 #[.pointer a, .pointer c, .int .i64 t, .int .i64 v] w fun r w' => r = .returned (.int .i64 1) ∧ w' = w := by
  obtain ⟨m, hm1, hm2⟩ := wrap_neg hv
  have h' : a = none ∨ c = none ∨ ¬ (0 ≤ t ∧ t ≤ 15) ∨ v < -1048576 ∨ 1048576 < v := h
  clear h
  by_cases hl : v < m
  · have HP := Lib.hid (bPut_bad t m a c w (by
      rcases h' with h | h | h | h
      · exact .inl h
      · exact .inr (.inl h)
      · exact .inr (.inr (.inl h))
      · exact .inr (.inr (.inr (by omega)))))
    clear h' hm2 hv
    go_enter Try.func26, Try.ntmps26
    go_wp2_with fail
    refine HP.out.mono ?_
    rintro r w1 ⟨rfl, rfl⟩
    go_wp2_with fail
    go_ret
    exact ⟨rfl, rfl⟩
  · have HP := Lib.hid (bPut_bad t v a c w (by
      rcases h' with h | h | h | h
      · exact .inl h
      · exact .inr (.inl h)
      · exact .inr (.inr (.inl h))
      · exact .inr (.inr (.inr (by omega)))))
    clear h' hm2 hv
    go_enter Try.func26, Try.ntmps26
    go_wp2_with fail
    refine HP.out.mono ?_
    rintro r w1 ⟨rfl, rfl⟩
    go_wp2_with fail
    go_ret
    exact ⟨rfl, rfl⟩

set_option maxRecDepth 20000 in
theorem bPutS_ok (N : NextSpec) (X : EncSpec) (w : World) (b p t : Nat) (v : Int) (D : List Nat) (B : Chs) (e : Enc) (hb : Bk w b B) (hE : X.En w p D e) (hs : b ∉ p :: D) (hB : FineB B) (he : e.Ok) (hn : e.n ≤ 60000) (ht : t < 16) (hv : -1048576 ≤ v ∧ v ≤ 1048576) :
    Calls Try.prog 26 #[pt b, pt p, .int .i64 (t : Int), .int .i64 v] w fun r w' => r = .returned (.int .i64 0) ∧ NibAt X w b p D t B e w' (sgnEvs v) := by
  obtain ⟨m, hm1, hm2⟩ := wrap_neg (v := v) ⟨by omega, by omega⟩
  have hm : m = -v := by omega
  clear hm2
  have hP := bPut_ok N X w b p t v.natAbs D B e hb hE hs hB he hn ht (by omega)
  have hQ := fun w1 (bit : Bool) (h : NibAt X w b p D t B e w1 (numEvs v.natAbs)) => bput_any N X w1 w b p D t 36 B e _ bit h hB he (by have := numEvs_length (v := v.natAbs) (by omega); omega) ht (by omega)
  clear hb hE hs hB he hn
  rcases Int.lt_trichotomy v 0 with h0 | h0 | h0
  · have en : ((v.natAbs : Nat) : Int) = m := by omega
    have hl : v < m := by omega
    have es : sgnEvs v = numEvs v.natAbs ++ [(some 36, true)] := by
      unfold sgnEvs signEvs
      rw [if_neg (by omega), decide_eq_true (by omega)]
    rw [en] at hP
    rw [es]
    have e1 : (v == 0) = false := by simp; omega
    have e2 : decide (v < 0) = true := by simp; omega
    have HP := Lib.hid hP
    have HQ := Lib.hid hQ
    clear hP hQ es h0 hm hv en
    go_enter Try.func26, Try.ntmps26
    go_wp2_with fail
    refine HP.out.mono ?_
    rintro r w1 ⟨rfl, h1⟩
    have HQ1 := Lib.hid (HQ.out w1 true h1)
    rw [show ((true.toNat : Nat) : Int) = 1 from rfl] at HQ1
    clear h1 HP HQ
    go_wp2_with fail
    refine HQ1.out.mono ?_
    rintro r w2 ⟨rfl, h2⟩
    have H2 := Lib.hid h2
    clear h2 HQ1
    go_wp2_with fail
    go_ret
    exact ⟨rfl, H2.out⟩
  · have en : ((v.natAbs : Nat) : Int) = v := by omega
    have hl : ¬ v < m := by omega
    have es : sgnEvs v = numEvs v.natAbs := by
      unfold sgnEvs signEvs
      rw [if_pos h0, List.append_nil]
    rw [en] at hP
    rw [es]
    have e1 : (v == 0) = true := by simp; omega
    have HP := Lib.hid hP
    clear hP hQ es h0 hm hv en
    go_enter Try.func26, Try.ntmps26
    go_wp2_with fail
    refine HP.out.mono ?_
    rintro r w1 ⟨rfl, h1⟩
    have H1 := Lib.hid h1
    clear h1 HP
    go_wp2_with fail
    go_ret
    exact ⟨rfl, H1.out⟩
  · have en : ((v.natAbs : Nat) : Int) = v := by omega
    have hl : ¬ v < m := by omega
    have es : sgnEvs v = numEvs v.natAbs ++ [(some 36, false)] := by
      unfold sgnEvs signEvs
      rw [if_neg (by omega), decide_eq_false (by omega)]
    rw [en] at hP
    rw [es]
    have e1 : (v == 0) = false := by simp; omega
    have e2 : decide (v < 0) = false := by simp; omega
    have HP := Lib.hid hP
    have HQ := Lib.hid hQ
    clear hP hQ es h0 hm hv en
    go_enter Try.func26, Try.ntmps26
    go_wp2_with fail
    refine HP.out.mono ?_
    rintro r w1 ⟨rfl, h1⟩
    have HQ1 := Lib.hid (HQ.out w1 false h1)
    rw [show ((false.toNat : Nat) : Int) = 0 from rfl] at HQ1
    clear h1 HP HQ
    go_wp2_with fail
    refine HQ1.out.mono ?_
    rintro r w2 ⟨rfl, h2⟩
    have H2 := Lib.hid h2
    clear h2 HQ1
    go_wp2_with fail
    go_ret
    exact ⟨rfl, H2.out⟩

theorem bPutO_bad (t n v : Int) (a c : Option Addr) (w : World) (h : a = none ∨ c = none ∨ ¬ (0 ≤ t ∧ t ≤ 15) ∨ ¬ (1 ≤ n ∧ n ≤ 16) ∨ v < 0 ∨ n ≤ v) :
    Calls Try.prog 27 #[.pointer a, .pointer c, .int .i64 t, .int .i64 n, .int .i64 v] w fun r w' => r = .returned (.int .i64 1) ∧ w' = w := by
  have HT := Lib.hid (btopic_any t w)
  have HC := Lib.hid (bchoice_any n w)
  cases a with
  | none =>
    clear h
    go_enter Try.func27, Try.ntmps27
    go_wp2_with fail
    go_ret
    exact ⟨rfl, rfl⟩
  | some a =>
  cases c with
  | none =>
    clear h
    go_enter Try.func27, Try.ntmps27
    go_wp2_with fail
    go_ret
    exact ⟨rfl, rfl⟩
  | some c =>
  have h : ¬ (0 ≤ t ∧ t ≤ 15) ∨ ¬ (1 ≤ n ∧ n ≤ 16) ∨ v < 0 ∨ n ≤ v := by simpa using h
  by_cases h1 : 0 ≤ t ∧ t ≤ 15
  · rw [decide_eq_true h1] at HT
    by_cases h3 : 1 ≤ n ∧ n ≤ 16
    · rw [decide_eq_true h3] at HC
      by_cases h2 : v < 0
      · have e1 : decide (v < 0) = true := by simpa using h2
        clear h1 h3 h
        go_enter Try.func27, Try.ntmps27
        go_wp2_with fail
        refine HT.out.mono ?_
        rintro r w1 ⟨rfl, rfl⟩
        go_wp2_with fail
        refine HC.out.mono ?_
        rintro r w1 ⟨rfl, rfl⟩
        go_wp2_with fail
        go_ret
        exact ⟨rfl, rfl⟩
      · have e1 : decide (v < 0) = false := by simpa using h2
        have e2 : decide (n ≤ v) = true := by simp; omega
        clear h1 h3 h
        go_enter Try.func27, Try.ntmps27
        go_wp2_with fail
        refine HT.out.mono ?_
        rintro r w1 ⟨rfl, rfl⟩
        go_wp2_with fail
        refine HC.out.mono ?_
        rintro r w1 ⟨rfl, rfl⟩
        go_wp2_with fail
        go_ret
        exact ⟨rfl, rfl⟩
    · rw [decide_eq_false h3] at HC
      clear h h1 h3
      go_enter Try.func27, Try.ntmps27
      go_wp2_with fail
      refine HT.out.mono ?_
      rintro r w1 ⟨rfl, rfl⟩
      go_wp2_with fail
      refine HC.out.mono ?_
      rintro r w1 ⟨rfl, rfl⟩
      go_wp2_with fail
      go_ret
      exact ⟨rfl, rfl⟩
  · rw [decide_eq_false h1] at HT
    clear h h1
    go_enter Try.func27, Try.ntmps27
    go_wp2_with fail
    refine HT.out.mono ?_
    rintro r w1 ⟨rfl, rfl⟩
    go_wp2_with fail
    go_ret
    exact ⟨rfl, rfl⟩

theorem digits_ahead (n v : Nat) (h : v < 2 ^ n) : digits (2 ^ n + v) n = digits v n := by
  have h1 : number (digits (2 ^ n + v) n) = number (digits v n) := by
    rw [number_digits, number_digits, Nat.add_mod_left]
  have h2 := digits_number (digits (2 ^ n + v) n)
  have h3 := digits_number (digits v n)
  rw [digits_length] at h2 h3
  rw [← h2, h1, h3]

set_option maxRecDepth 20000 in
theorem bPutO_ok (N : NextSpec) (X : EncSpec) (w : World) (b p t n v : Nat) (D : List Nat) (B : Chs) (e : Enc) (hb : Bk w b B) (hE : X.En w p D e) (hs : b ∉ p :: D) (hB : FineB B) (he : e.Ok) (hn : e.n ≤ 60000) (ht : t < 16) (hn1 : 1 ≤ n) (hn2 : n ≤ 16) (hv : v < n) :
    Calls Try.prog 27 #[pt b, pt p, .int .i64 (t : Int), .int .i64 (n : Int), .int .i64 (v : Int)] w fun r w' => r = .returned (.int .i64 0) ∧ NibAt X w b p D t B e w' (oneEvs n v) := by
  have HT := btopic_any (t : Int) w
  rw [decide_eq_true (by omega : 0 ≤ (t : Int) ∧ (t : Int) ≤ 15)] at HT
  have HT := Lib.hid HT
  have HC := bchoice_any (n : Int) w
  rw [decide_eq_true (by omega : 1 ≤ (n : Int) ∧ (n : Int) ≤ 16)] at HC
  have HC := Lib.hid HC
  have e1 : decide (n ≤ v) = false := by simp; omega
  have hL := mlen_any (n - 1) w (by omega)
  rw [show ((n - 1 : Nat) : Int) = (n : Int) - 1 by omega] at hL
  have eU : IntKind.u64.wrap ((n : Int) - 1) = (n : Int) - 1 := IntWalk.u64_in _ (by omega)
  obtain ⟨k, hk⟩ : ∃ k, k = bitLen (n - 1) := ⟨_, rfl⟩
  have hk4 : k ≤ 4 := by
    rw [hk]
    unfold bitLen
    split
    · omega
    · have : (n - 1).log2 < 4 := (Nat.log2_lt (by omega)).2 (by omega)
      omega
  have hvk : v < 2 ^ k := by have := bitLen_lt (n - 1); rw [← hk] at this; omega
  have hQ := fun w1 (h : NibAt X w b p D t B e w1 []) => blowest_any N X w1 w b p D t k (2 ^ k + v) B e _ h hB he (by simp; omega) ht (by omega) (by omega) (by rw [Nat.pow_succ]; omega)
  rw [digits_ahead k v hvk, List.nil_append] at hQ
  have ho : oneEvs n v = bitEvs 0 0 (digits v k) := by unfold oneEvs; rw [hk]
  rw [ho]
  rw [← hk] at hL
  have H0 := Lib.hid (NibAt.start (t := t) (B := B) (e := e) hb hE hs)
  have hp16 : 2 ^ k ≤ 16 := Nat.pow_le_pow_right (n := 2) (i := k) (j := 4) (by omega) (by omega)
  have eP : wrap64 ((2 : Int) ^ k) = ((2 ^ k : Nat) : Int) := by
    have h1 : ((2 ^ k : Nat) : Int) = (2 : Int) ^ k := by simp
    rw [h1]
    exact IntWalk.wrap64_in _ (by omega)
  have eP' : IntKind.i64.wrap ((2 : Int) ^ k) = ((2 ^ k : Nat) : Int) := by
    have h1 : ((2 ^ k : Nat) : Int) = (2 : Int) ^ k := by simp
    rw [h1]
    exact IntWalk.i64_in _ (by omega)
  obtain ⟨P, hP⟩ : ∃ P, P = 2 ^ k := ⟨_, rfl⟩
  rw [← hP] at hQ eP eP' hvk hp16
  have HL := Lib.hid hL; have HQ := Lib.hid hQ
  clear hL hQ ho hk hb hE hs hB he hn hP
  go_enter Try.func27, Try.ntmps27
  go_wp2_with fail
  refine HT.out.mono ?_
  rintro r w1 ⟨rfl, rfl⟩
  go_wp2_with fail
  refine HC.out.mono ?_
  rintro r w1 ⟨rfl, rfl⟩
  go_wp2_with fail
  refine HL.out.mono ?_
  rintro r w1 ⟨rfl, rfl⟩
  clear HL HT HC
  go_upto_region 4 with fail
  have HQ1 := Lib.hid (HQ.out w1.drew (H0.out.fr0 (Fr.refl _ _).drew))
  clear HQ H0
  have eQ : IntKind.i64.wrap (IntKind.i64.wrap ((2 : Int) ^ k) + (v : Int)) = ((P + v : Nat) : Int) := by rw [eP', IntWalk.i64_in _ (by omega)]; simp
  have EQ := Lib.hid eQ
  clear eP eP' eQ
  have q1 : (t : Int) < 16 := by omega
  refine wp_region_held_drew (S := fun _ => True) (by kernel_rfl) ?_ (fun hHeld => ?_)
  · trivial
  refine wpAnyH_pick 0 (v := ?_) rfl (by kernel_rfl) (by kernel_rfl) (by kernel_rfl) (fun _ _ _ h => h) (by assumption) (by rfl) ?_ ?_
  rotate_left
  · (intro w hSw; (try dsimp only at hSw); go_simp) <;> (with_reducible rfl)
  (try simp only [Act.put, List.setIfInBounds_toArray, List.set_cons_zero, List.set_cons_succ])
  refine wpAnyH_pick 1 (v := ?_) rfl (by kernel_rfl) (by kernel_rfl) (by kernel_rfl) (fun _ _ _ h => h) (by assumption) (by rfl) ?_ ?_
  rotate_left
  · (intro w hSw; (try dsimp only at hSw); go_simp) <;> (with_reducible rfl)
  (try simp only [Act.put, List.setIfInBounds_toArray, List.set_cons_zero, List.set_cons_succ])
  refine wpAnyH_pick 2 (v := ?_) rfl (by kernel_rfl) (by kernel_rfl) (by kernel_rfl) (fun _ _ _ h => h) (by assumption) (by rfl) ?_ ?_
  rotate_left
  · (intro w hSw; (try dsimp only at hSw); go_simp) <;> (with_reducible rfl)
  (try simp only [Act.put, List.setIfInBounds_toArray, List.set_cons_zero, List.set_cons_succ])
  refine wpAnyH_pick 3 (v := ?_) rfl (by kernel_rfl) (by kernel_rfl) (by kernel_rfl) (fun _ _ _ h => h) (by assumption) (by rfl) ?_ ?_
  rotate_left
  · (intro w hSw; (try dsimp only at hSw); go_simp) <;> (with_reducible rfl)
  (try simp only [Act.put, List.setIfInBounds_toArray, List.set_cons_zero, List.set_cons_succ])
  refine wpAnyH_pick 4 (v := ?_) rfl (by kernel_rfl) (by kernel_rfl) (by kernel_rfl) (fun _ _ _ h => h) (by assumption) (by rfl) ?_ ?_
  rotate_left
  · (intro w hSw; (try dsimp only at hSw); go_simp) <;> (with_reducible rfl)
  (try simp only [Act.put, List.setIfInBounds_toArray, List.set_cons_zero, List.set_cons_succ])
  refine wpAnyH_pick 5 (v := ?_) rfl (by kernel_rfl) (by kernel_rfl) (by kernel_rfl) (fun _ _ _ h => h) (by assumption) (by rfl) ?_ ?_
  rotate_left
  · (intro w hSw; (try dsimp only at hSw); go_simp) <;> (with_reducible rfl)
  (try simp only [Act.put, List.setIfInBounds_toArray, List.set_cons_zero, List.set_cons_succ])
  refine wpAnyH_pick 6 (v := ?_) rfl (by kernel_rfl) (by kernel_rfl) (by kernel_rfl) (fun _ _ _ h => h) (by assumption) (by rfl) ?_ ?_
  rotate_left
  · (intro w hSw; (try dsimp only at hSw); go_simp) <;> (with_reducible rfl)
  (try simp only [Act.put, List.setIfInBounds_toArray, List.set_cons_zero, List.set_cons_succ])
  refine wpAnyH_pick 7 (v := ?_) rfl (by kernel_rfl) (by kernel_rfl) (by kernel_rfl) (fun _ _ _ h => h) (by assumption) (by rfl) ?_ ?_
  rotate_left
  · (intro w hSw; (try dsimp only at hSw); go_simp) <;> (with_reducible rfl)
  (try simp only [Act.put, List.setIfInBounds_toArray, List.set_cons_zero, List.set_cons_succ])
  refine wpAnyH_pick 8 (v := ?_) rfl (by kernel_rfl) (by kernel_rfl) (by kernel_rfl) (fun _ _ _ h => h) (by assumption) (by rfl) ?_ ?_
  rotate_left
  · (intro w hSw; (try dsimp only at hSw); go_simp) <;> (with_reducible rfl)
  (try simp only [Act.put, List.setIfInBounds_toArray, List.set_cons_zero, List.set_cons_succ])
  refine wpAnyH_pick 9 (v := ?_) rfl (by kernel_rfl) (by kernel_rfl) (by kernel_rfl) (fun _ _ _ h => h) (by assumption) (by rfl) ?_ ?_
  rotate_left
  · (intro w hSw; (try dsimp only at hSw); go_simp) <;> (with_reducible rfl)
  (try simp only [Act.put, List.setIfInBounds_toArray, List.set_cons_zero, List.set_cons_succ])
  refine wpAnyH_pick 10 (v := ?_) rfl (by kernel_rfl) (by kernel_rfl) (by kernel_rfl) (fun _ _ _ h => h) (by assumption) (by rfl) ?_ ?_
  rotate_left
  · (intro w hSw; (try dsimp only at hSw); go_simp) <;> (with_reducible rfl)
  (try simp only [Act.put, List.setIfInBounds_toArray, List.set_cons_zero, List.set_cons_succ])
  refine wpAnyH_ready (rs := [11]) (by kernel_rfl) (by simp) ?_
  refine AllReadyH_pick rfl (fun K hK => ?_) (AllReadyH.nil)
  go_simp
  rw [EQ.out]
  refine HQ1.out.mono ?_
  rintro r w3 ⟨rfl, h3⟩
  have H3 := Lib.hid h3
  clear h3 HQ1
  go_wp2_with fail
  refine hK.out _ _ ?_ (fun hHeld => ?_)
  · trivial
  clear hK K
  (try simp only [Act.put, List.setIfInBounds_toArray, List.set_cons_zero, List.set_cons_succ])
  refine wpAnyH_pick 12 (v := ?_) rfl (by kernel_rfl) (by kernel_rfl) (by kernel_rfl) (fun _ _ _ h => h) (by assumption) (by rfl) ?_ ?_
  rotate_left
  · (intro w hSw; (try dsimp only at hSw); go_simp) <;> (with_reducible rfl)
  (try simp only [Act.put, List.setIfInBounds_toArray, List.set_cons_zero, List.set_cons_succ])
  refine wpAnyH_done (by kernel_rfl) ?_ _
  skip
  go_wp2_with fail
  go_ret
  exact ⟨rfl, H3.out⟩
end Go.Proofs.Ytfjlepnodmeaaaa

/-
  Contracts of the landed book: get, getBehind, getLength, getLowest. Conditions: the book and the decoder are apart, the chances are right.
-/
namespace Go.Proofs.Ytfjlepnodmeaaaa
open Go.RowKit

/-- The book and a decoder, apart. -/
structure Look (Y : DecSpec) (w : World) (b : Nat) (B : Chs) (y : Nat) (K : List Nat) (bs : List UInt8) (d : Dec) : Prop where
  bk : Bk w b B
  de : Y.De w y K bs d
  sep : b ∉ y :: K
  ok : Okd bs B d
theorem Look.fr0 {Y : DecSpec} {w w' : World} {b : Nat} {B : Chs} {y : Nat} {K : List Nat} {bs : List UInt8} {d : Dec} (h : Look Y w b B y K bs d) (hf : Fr [] w w') : Look Y w' b B y K bs d :=
  ⟨h.bk.fr hf (by simp), Y.fr h.de hf (by simp), h.sep, h.ok⟩

/-- What getting a bit answers, and does. -/
def BitPost (Y : DecSpec) (b y : Nat) (K : List Nat) (bs : List UInt8) (w : World) (g : Option (Bool × Chs × Dec)) (r : Ending) (w' : World) : Prop :=
  match g with
  | none => r = .returned (.tuple #[.int .i64 0, .int .i64 41]) ∧ Fr [b, y] w w'
  | some (bit, B', d') => r = .returned (.tuple #[.int .i64 (bit.toNat : Int), .int .i64 0]) ∧ Look Y w' b B' y K bs d' ∧ Fr [b, y] w w'

set_option maxRecDepth 20000 in
theorem bget_any (N : NextSpec) (Y : DecSpec) (w : World) (b y t i : Nat) (K : List Nat) (bs : List UInt8) (d : Dec) (B : Chs) (h : Look Y w b B y K bs d) (hn : bs.length ≤ 100000) (ht : t < 16) (hi : i < 37) :
    Calls Try.prog 50 #[pt y, ptc b (t * 37 + i)] w (BitPost Y b y K bs w (getEv bs t B d (some i))) := by
  have hkeep := fun b1 B1 d1 (hg : getEv bs t B d (some i) = some (b1, B1, d1)) => getEv_keeps hg h.ok
  obtain ⟨hb, hD, hs, hok⟩ := h
  obtain ⟨c, hc⟩ : ∃ c, c = B (37 * t + i) := ⟨_, rfl⟩
  have hcr : rightC c := by rw [hc]; exact hok.fine _
  have ka := hb.cell (j := t * 37 + i) (by omega)
  rw [show t * 37 + i = 37 * t + i by omega, ← hc, show 37 * t + i = t * 37 + i by omega] at ka
  have hG := Y.get w y K bs d c hD hcr hok.rest hok.lo hok.hi hok.at_ hn
  have hN := fun W (bit : Bool) => N W c (bit.toNat : Int) (by have := hcr.2; omega) (by omega) (by have := Bool.toNat_le bit; omega)
  have hbb : ∀ bit : Bool, ((bit.toNat : Int) != 0) = bit := by intro bit; cases bit <;> rfl
  have hev : getEv bs t B d (some i) = match decGet bs d c with | none => none | some (b, d') => some (b, upd B (37 * t + i) (nextC c b), d') := by
    unfold getEv
    rw [show chOf B t (some i) = c from hc.symm]
    rw [hc]
    rfl
  rw [hev] at hkeep
  obtain ⟨g, hgg⟩ : ∃ g, g = getEv bs t B d (some i) := ⟨_, rfl⟩
  rw [← hgg]
  rw [hev] at hgg
  have Hgg := Lib.hid hgg
  clear hgg
  have HG := Lib.hid hG; have HN := Lib.hid hN; have Hbb := Lib.hid hbb
  have Hb := Lib.hid hb; have Hs := Lib.hid hs; have Hk := Lib.hid hkeep; have Hc := Lib.hid hc
  clear hG hN hbb hb hD hs hok hkeep hev hc
  go_enter Try.func50, Try.ntmps50
  go_wp2_with fail
  refine HG.out.mono ?_
  rintro r w1 (⟨bit, d', hg, rfl, hD1, hF1⟩ | ⟨hg, rfl, hF1⟩)
  · have hk := Hk.out
    have hgv := Hgg.out
    rw [hg] at hk hgv
    have hok1 := hk bit _ d' rfl
    have Hgv := Lib.hid hgv
    clear hk hgv Hgg
    have hb1 : Bk w1 b B := Hb.out.fr hF1 (fun hm => by simp at hm; exact Hs.out (by rw [hm]; exact List.mem_cons_self ..))
    have kb : w1.cell? ⟨b, t * 37 + i, none⟩ = some (.int .u16 (c : Int)) := by
      have := hb1.cell (j := t * 37 + i) (by omega)
      rw [show t * 37 + i = 37 * t + i by omega, ← Hc.out, show 37 * t + i = t * 37 + i by omega] at this
      exact this
    have hNb := fun W => HN.out W bit
    rw [Hbb.out bit] at hNb
    obtain ⟨x, hx⟩ : ∃ x, x = nextC c bit := ⟨_, rfl⟩
    rw [← hx] at hNb hok1
    have HNb := Lib.hid hNb
    have HD1 := Lib.hid hD1; have HF1 := Lib.hid hF1; have HB1 := Lib.hid hb1; have Hg := Lib.hid hg; have Hok1 := Lib.hid hok1; have Hx := Lib.hid hx
    clear hNb hD1 hF1 hb1 hg hok1 HN HG Hk ka hx
    go_wp2_with fail
    refine (HNb.out _).mono ?_
    rintro r w2 ⟨rfl, hF2⟩
    have hb2 : Bk w2 b B := HB1.out.fr hF2 (by simp)
    have kc : w2.cell? ⟨b, t * 37 + i, none⟩ = some (.int .u16 (c : Int)) := by
      have := hb2.cell (j := t * 37 + i) (by omega)
      rw [show t * 37 + i = 37 * t + i by omega, ← Hc.out, show 37 * t + i = t * 37 + i by omega] at this
      exact this
    have kf : w2.frozen? ⟨b, t * 37 + i, none⟩ = false := Blk.frozen hb2 _
    have HF2 := Lib.hid hF2; have HB2 := Lib.hid hb2
    clear hF2 hb2 kb
    go_wp2_with fail
    go_ret2
    have hF12 : Fr [b] w1 (w2.setCell ⟨b, t * 37 + i, none⟩ (.int .u16 (x : Int))) := (HF2.out.mono (S' := [b]) (by simp)).trans ((Fr.refl [b] w2).setCell (.inl (by simp)) _) (fun x hx => .inl hx)
    rw [Hgv.out]
    refine ⟨rfl, ⟨?_, ?_, Hs.out, ?_⟩, ?_⟩
    · rw [← Hx.out, show 37 * t + i = t * 37 + i by omega]
      exact HB2.out.set _ _
    · exact Y.fr HD1.out hF12 (fun k hk hm => Hs.out (by simp at hm; rw [← hm]; exact hk))
    · rw [← Hx.out]
      exact Hok1.out
    · exact (HF1.out.mono (by simp)).trans hF12 (by simp)
  · have HF1 := Lib.hid hF1; have Hg := Lib.hid hg
    clear hF1 hg HG HN Hk ka
    have hgv := Hgg.out
    rw [Hg.out] at hgv
    have Hgv := Lib.hid hgv
    clear hgv Hgg Hg
    go_wp2_with fail
    go_ret2
    rw [Hgv.out]
    exact ⟨rfl, HF1.out.mono (by simp)⟩

theorem Look.even {Y : DecSpec} {w : World} {b : Nat} {B : Chs} {y t : Nat} {K : List Nat} {bs : List UInt8} {d : Dec} (h : Look Y w b B y K bs d) (hn : bs.length ≤ 100000) :
    Calls Try.prog 61 #[pt y, .int .u16 1024] w (BitPost Y b y K bs w (getEv bs t B d none)) := by
  refine (Y.get w y K bs d 1024 h.de (by decide) h.ok.rest h.ok.lo h.ok.hi h.ok.at_ hn).mono ?_
  have hev : getEv bs t B d none = match decGet bs d 1024 with | none => none | some (b, d') => some (b, B, d') := rfl
  have hkeep := fun b1 B1 d1 (hg : getEv bs t B d none = some (b1, B1, d1)) => getEv_keeps hg h.ok
  rintro r w1 (⟨bit, d', hg, rfl, hD1, hF1⟩ | ⟨hg, rfl, hF1⟩)
  · rw [hg] at hev
    rw [hev] at hkeep ⊢
    exact ⟨rfl, ⟨h.bk.fr hF1 (fun hm => by simp at hm; exact h.sep (by rw [hm]; exact List.mem_cons_self ..)), hD1, h.sep, hkeep _ _ _ rfl⟩, hF1.mono (by simp)⟩
  · rw [hg] at hev
    rw [hev]
    exact ⟨rfl, hF1.mono (by simp)⟩

set_option maxRecDepth 20000 in
theorem bgbehind_any (N : NextSpec) (Y : DecSpec) (w : World) (b y t i a : Nat) (K : List Nat) (bs : List UInt8) (d : Dec) (B : Chs) (h : Look Y w b B y K bs d) (hn : bs.length ≤ 100000) (ht : t < 16) (ha : a < 2 ^ i) (hi : i ≤ 20) :
    Calls Try.prog 62 #[ptc b (t * 37), pt y, .int .i64 ((2 ^ i + a : Nat) : Int)] w (BitPost Y b y K bs w (getEv bs t B d (place i a))) := by
  have HI := Lib.hid (bfirst_any (2 ^ i + a) w)
  by_cases h4 : i < 4
  · have hp : 2 ^ i ≤ 8 := Nat.pow_le_pow_right (n := 2) (i := i) (j := 3) (by omega) (by omega)
    have hp0 := Nat.two_pow_pos i
    have hP := bget_any N Y w b y t (20 + (2 ^ i - 1) + a) K bs d B h hn ht (by omega)
    have hpl : place i a = some (20 + (2 ^ i - 1) + a) := by unfold place; rw [if_pos h4]
    rw [← hpl] at hP
    obtain ⟨W, hW⟩ : ∃ W, W = 2 ^ i + a := ⟨_, rfl⟩
    rw [show t * 37 + (20 + (2 ^ i - 1) + a) = t * 37 + (19 + W) by omega] at hP
    rw [← hW, decide_eq_true (by omega : W < 16)] at HI
    have e1 : (W : Int) < 16 := by omega
    rw [← hW]
    obtain ⟨g, hg⟩ : ∃ g, g = getEv bs t B d (place i a) := ⟨_, rfl⟩
    rw [← hg] at hP ⊢
    have HP := Lib.hid hP
    have hW0 : 1 ≤ W := by omega
    have hW16 : W < 16 := by omega
    have ew : 20 + W - 1 = 19 + W := by omega
    have Hew := Lib.hid ew
    clear hP hW hpl h hn ha h4 hp hp0 ew hg
    go_enter Try.func62, Try.ntmps62
    go_wp2_with fail
    refine HI.out.mono ?_
    rintro r w1 ⟨rfl, rfl⟩
    clear HI
    go_wp2_with fail
    rw [Hew.out]
    refine HP.out.mono ?_
    intro r w2 hQ
    rcases g with _ | ⟨bit, B', d'⟩
    · obtain ⟨rfl, hQ⟩ := hQ
      have HQ := Lib.hid hQ
      clear hQ HP
      go_wp2_with fail
      go_ret2
      exact ⟨rfl, HQ.out⟩
    · obtain ⟨rfl, hQ⟩ := hQ
      have HQ := Lib.hid hQ
      clear hQ HP
      go_wp2_with fail
      go_ret2
      exact ⟨rfl, HQ.out⟩
  · have hp : 16 ≤ 2 ^ i := Nat.pow_le_pow_right (n := 2) (i := 4) (j := i) (by omega) (by omega)
    have hpl : place i a = none := by unfold place; rw [if_neg h4]
    have hE := h.even (t := t) hn
    rw [hpl]
    obtain ⟨W, hW⟩ : ∃ W, W = 2 ^ i + a := ⟨_, rfl⟩
    rw [← hW, decide_eq_false (by omega : ¬ W < 16)] at HI
    rw [← hW]
    obtain ⟨g, hg⟩ : ∃ g, g = getEv bs t B d none := ⟨_, rfl⟩
    rw [← hg] at hE ⊢
    have HE := Lib.hid hE
    clear hE hW hpl h hn ha h4 hp hg
    go_enter Try.func62, Try.ntmps62
    go_wp2_with fail
    refine HI.out.mono ?_
    rintro r w1 ⟨rfl, rfl⟩
    clear HI
    go_wp2_with fail
    refine HE.out.mono ?_
    intro r w2 hQ
    rcases g with _ | ⟨bit, B', d'⟩
    · obtain ⟨rfl, hQ⟩ := hQ
      have HQ := Lib.hid hQ
      clear hQ HE
      go_wp2_with fail
      go_ret2
      exact ⟨rfl, HQ.out⟩
    · obtain ⟨rfl, hQ⟩ := hQ
      have HQ := Lib.hid hQ
      clear hQ HE
      go_wp2_with fail
      go_ret2
      exact ⟨rfl, HQ.out⟩

/-- What getting bits together answers, and does: a number as they make it. -/
def RunPost (Y : DecSpec) (b y : Nat) (K : List Nat) (bs : List UInt8) (w : World) (f : Nat → Nat) (g : Option (Nat × Chs × Dec)) (r : Ending) (w' : World) : Prop :=
  match g with
  | none => r = .returned (.tuple #[.int .i64 0, .int .i64 41]) ∧ Fr [b, y] w w'
  | some (n, B', d') => r = .returned (.tuple #[.int .i64 (f n : Int), .int .i64 0]) ∧ Look Y w' b B' y K bs d' ∧ Fr [b, y] w w'

set_option maxRecDepth 20000 in
theorem bglength_any (N : NextSpec) (Y : DecSpec) (w : World) (b y t : Nat) (K : List Nat) (bs : List UInt8) (d : Dec) (B : Chs) (h : Look Y w b B y K bs d) (hn : bs.length ≤ 100000) (ht : t < 16) :
    Calls Try.prog 52 #[ptc b (t * 37), pt y] w (RunPost Y b y K bs w id (getLen bs t 20 0 B d)) := by
  obtain ⟨g, hg⟩ : ∃ g, g = getLen bs t 20 0 B d := ⟨_, rfl⟩
  rw [← hg]
  have H := Lib.hid h; have Hg := Lib.hid hg
  clear h hg
  go_enter Try.func52, Try.ntmps52
  go_wp2_with fail
  go_loopw [9] (fun s9 wr => ∃ (x : Nat) (B1 : Chs) (d1 : Dec), x ≤ 20 ∧ s9 = .int .i64 (x : Int) ∧ g = getLen bs t (20 - x) x B1 d1 ∧ Look Y wr b B1 y K bs d1 ∧ Fr [b, y] w wr) (fun s9 _ => 20 - (intOf s9).toNat)
  case atStart => exact ⟨0, B, d, by omega, rfl, Hg.out, H.out, Fr.refl _ _⟩
  case round =>
    obtain ⟨x, B1, d1, hx, rfl, hL, hE, hF⟩ := hrel
    have HL := Lib.hid hL; have HE := Lib.hid hE; have HF := Lib.hid hF
    clear hL hE hF H Hg
    rcases Nat.lt_or_ge x 20 with h20 | h20
    · have e1 : decide ((x : Int) < 20) = true := by simp; omega
      have hG := bget_any N Y wr b y t x K bs d1 B1 HE.out hn ht (by omega)
      have hstep : g = match getEv bs t B1 d1 (some x) with | none => none | some (b, B', d') => if b then getLen bs t (20 - (x + 1)) (x + 1) B' d' else some (x, B', d') := by
        rw [HL.out, show 20 - x = (20 - (x + 1)) + 1 by omega]
        rfl
      obtain ⟨v, hv⟩ : ∃ v, v = getEv bs t B1 d1 (some x) := ⟨_, rfl⟩
      rw [← hv] at hstep hG
      have HG := Lib.hid hG; have Hstep := Lib.hid hstep
      clear hG hstep hv HL HE
      go_wp2_with fail
      refine HG.out.mono ?_
      intro r w2 hQ
      rcases v with _ | ⟨bit, B2, d2⟩
      · obtain ⟨rfl, hF2⟩ := hQ
        have HF2 := Lib.hid (HF.out.trans hF2 (fun x hx => .inl hx))
        clear hF2 HG HF
        go_wp2_with fail
        go_ret2
        rw [Hstep.out]
        exact ⟨rfl, HF2.out⟩
      · obtain ⟨rfl, hE2, hF2⟩ := hQ
        have HF2 := Lib.hid (HF.out.trans hF2 (fun x hx => .inl hx)); have HE2 := Lib.hid hE2
        clear hF2 hE2 HG HF
        cases bit with
        | true =>
          go_wp2_with fail
          exact ⟨⟨x + 1, B2, d2, by omega, by simp, Hstep.out, HE2.out, HF2.out⟩, by simp [intOf]; omega⟩
        | false =>
          go_wp2_with fail
          go_ret2
          rw [Hstep.out]
          exact ⟨rfl, HE2.out, HF2.out⟩
    · have e1 : decide ((x : Int) < 20) = false := by simp; omega
      have hgg : g = some (20, B1, d1) := by
        rw [HL.out, show x = 20 by omega]
        rfl
      have Hgg := Lib.hid hgg
      clear hgg HL
      go_wp2_with fail
      go_ret2
      rw [Hgg.out]
      exact ⟨rfl, HE.out, HF.out⟩

theorem i64_or_bit (V : Nat) (bit : Bool) (h : V < 4611686018427387904) : bits .or .i64 (((2 * V : Nat)) : Int) (bit.toNat : Int) = ((2 * V + bit.toNat : Nat) : Int) := by
  show IntKind.i64.wrap ((BitVec.ofInt 64 ((2 * V : Nat) : Int) ||| BitVec.ofInt 64 (bit.toNat : Int)).toNat : Int) = _
  have hb := Bool.toNat_le bit
  have e : (BitVec.ofInt 64 ((2 * V : Nat) : Int) ||| BitVec.ofInt 64 (bit.toNat : Int)).toNat = 2 * V + bit.toNat := by
    rw [BitVec.toNat_or, BitVec.toNat_ofInt, BitVec.toNat_ofInt]
    have h1 : (((2 * V : Nat) : Int) % ((2 ^ 64 : Nat) : Int)).toNat = 2 * V := by omega
    have h2 : (((bit.toNat : Nat) : Int) % ((2 ^ 64 : Nat) : Int)).toNat = bit.toNat := by omega
    rw [h1, h2]
    have := Nat.two_pow_add_eq_or_of_lt (i := 1) (b := bit.toNat) (by omega) V
    rw [show 2 ^ 1 * V = 2 * V by omega] at this
    exact this.symm
  rw [e, IntWalk.i64_in _ (by omega)]

set_option maxRecDepth 20000 in
theorem bglowest_any (N : NextSpec) (Y : DecSpec) (w : World) (b y t n : Nat) (K : List Nat) (bs : List UInt8) (d : Dec) (B : Chs) (h : Look Y w b B y K bs d) (hn : bs.length ≤ 100000) (ht : t < 16) (hn20 : n ≤ 20) :
    Calls Try.prog 51 #[ptc b (t * 37), pt y, .int .i64 (n : Int)] w (RunPost Y b y K bs w (fun a => 2 ^ n + a) (getBits bs t n 0 0 B d)) := by
  obtain ⟨g, hg⟩ : ∃ g, g = getBits bs t n 0 0 B d := ⟨_, rfl⟩
  rw [← hg]
  have H := Lib.hid h; have Hg := Lib.hid hg
  clear h hg
  go_enter Try.func51, Try.ntmps51
  go_wp2_with fail
  go_loopw [8, 12] (fun s8 s12 wr => ∃ (i a V : Nat) (B1 : Chs) (d1 : Dec), i ≤ n ∧ a < 2 ^ i ∧ V = 2 ^ i + a ∧ s8 = .int .i64 (V : Int) ∧ s12 = .int .i64 (i : Int) ∧ g = getBits bs t (n - i) i a B1 d1 ∧ Look Y wr b B1 y K bs d1 ∧ Fr [b, y] w wr) (fun _ s12 _ => 20 - (intOf s12).toNat)
  case atStart => exact ⟨0, 0, 1, B, d, by omega, by decide, rfl, rfl, rfl, Hg.out, H.out, Fr.refl _ _⟩
  case round =>
    obtain ⟨i, a, V, B1, d1, hi, ha, hV, rfl, rfl, hL, hE, hF⟩ := hrel
    have HL := Lib.hid hL; have HE := Lib.hid hE; have HF := Lib.hid hF; have HV := Lib.hid hV; have Ha := Lib.hid ha
    have hP20 : 2 ^ i ≤ 1048576 := Nat.pow_le_pow_right (n := 2) (i := i) (j := 20) (by omega) (by omega)
    have hVb : V ≤ 2097152 := by omega
    clear hL hE hF H Hg hV ha hP20
    rcases Nat.lt_or_ge i n with hin | hin
    · have e1 : decide (i < n) = true := by simpa using hin
      have hG := bgbehind_any N Y wr b y t i a K bs d1 B1 HE.out hn ht Ha.out (by omega)
      rw [← HV.out] at hG
      have hstep : g = match getEv bs t B1 d1 (place i a) with | none => none | some (b, B', d') => getBits bs t (n - (i + 1)) (i + 1) (2 * a + b.toNat) B' d' := by
        rw [HL.out, show n - i = (n - (i + 1)) + 1 by omega]
        rfl
      obtain ⟨v, hv⟩ : ∃ v, v = getEv bs t B1 d1 (place i a) := ⟨_, rfl⟩
      rw [← hv] at hstep hG
      have HG := Lib.hid hG; have Hstep := Lib.hid hstep
      clear hG hstep hv HL HE
      go_wp2_with fail
      refine HG.out.mono ?_
      intro r w2 hQ
      rcases v with _ | ⟨bit, B2, d2⟩
      · obtain ⟨rfl, hF2⟩ := hQ
        have HF2 := Lib.hid (HF.out.trans hF2 (fun x hx => .inl hx))
        clear hF2 HG HF
        go_wp2_with fail
        go_ret2
        rw [Hstep.out]
        exact ⟨rfl, HF2.out⟩
      · obtain ⟨rfl, hE2, hF2⟩ := hQ
        have HF2 := Lib.hid (HF.out.trans hF2 (fun x hx => .inl hx)); have HE2 := Lib.hid hE2
        clear hF2 hE2 HG HF
        have eO := i64_or_bit V bit (by omega)
        obtain ⟨V', hV'⟩ : ∃ V', V' = 2 * V + bit.toNat := ⟨_, rfl⟩
        rw [← hV'] at eO
        have e2V : ((2 * V : Nat) : Int) = (V : Int) * 2 := by omega
        rw [e2V] at eO
        have HV' := Lib.hid hV'
        clear hV' e2V
        go_wp2_with fail
        have hb2 := Bool.toNat_le bit
        refine ⟨⟨i + 1, 2 * a + bit.toNat, V', B2, d2, by omega, ?_, ?_, rfl, by simp, Hstep.out, HE2.out, HF2.out⟩, by simp [intOf]; omega⟩
        · have := Ha.out
          rw [Nat.pow_succ]
          omega
        · have h1 := HV'.out
          have h2 := HV.out
          rw [Nat.pow_succ]
          omega
    · have e1 : decide (i < n) = false := by simp; omega
      have hgg : g = some (a, B1, d1) := by
        rw [HL.out, show n - i = 0 by omega]
        rfl
      have hVn : V = 2 ^ n + a := by rw [HV.out, show i = n by omega]
      have Hgg := Lib.hid hgg
      have HVn := Lib.hid hVn
      clear hgg hVn HL HV Ha
      go_wp2_with fail
      go_ret2
      rw [Hgg.out]
      exact ⟨by show Ending.returned (Value.tuple #[.int .i64 (V : Int), .int .i64 0]) = Ending.returned (Value.tuple #[.int .i64 ((2 ^ n + a : Nat) : Int), .int .i64 0]); rw [← HVn.out], HE.out, HF.out⟩
end Go.Proofs.Ytfjlepnodmeaaaa

/-
  Contracts of the landed book: Get, GetSigned, GetOne. Conditions: the book and the decoder are apart, the chances are right.
-/
namespace Go.Proofs.Ytfjlepnodmeaaaa
open Go.RowKit

/-- What getting a number answers, and does. -/
def NumPost (Y : DecSpec) (b y : Nat) (K : List Nat) (bs : List UInt8) (w : World) (g : Got) (r : Ending) (w' : World) : Prop :=
  match g with
  | .bad e => r = .returned (.tuple #[.int .i64 0, .int .i64 e]) ∧ Fr [b, y] w w'
  | .ok v B d => r = .returned (.tuple #[.int .i64 v, .int .i64 0]) ∧ Look Y w' b B y K bs d ∧ Fr [b, y] w w'

theorem bGet_bad (t : Int) (a c : Option Addr) (w : World) (h : a = none ∨ c = none ∨ ¬ (0 ≤ t ∧ t ≤ 15)) :
    Calls Try.prog 34 #[.pointer a, .pointer c, .int .i64 t] w fun r w' => r = .returned (.tuple #[.int .i64 0, .int .i64 1]) ∧ w' = w := by
  have HT := Lib.hid (btopic_any t w)
  cases a with
  | none =>
    clear h
    go_enter Try.func34, Try.ntmps34
    go_wp2_with fail
    go_ret2
    exact ⟨rfl, rfl⟩
  | some a =>
  cases c with
  | none =>
    clear h
    go_enter Try.func34, Try.ntmps34
    go_wp2_with fail
    go_ret2
    exact ⟨rfl, rfl⟩
  | some c =>
  have h : ¬ (0 ≤ t ∧ t ≤ 15) := by simpa using h
  rw [decide_eq_false h] at HT
  go_enter Try.func34, Try.ntmps34
  go_wp2_with fail
  refine HT.out.mono ?_
  rintro r w1 ⟨rfl, rfl⟩
  go_wp2_with fail
  go_ret2
  exact ⟨rfl, rfl⟩

theorem getLen_le {bs : List UInt8} {t : Nat} : ∀ (k n : Nat) {n' : Nat} {B B' : Chs} {d d' : Dec}, getLen bs t k n B d = some (n', B', d') → n' ≤ n + k
  | 0, n, n', B, B', d, d', h => by
    unfold getLen at h
    injection h with h
    injection h with h1 h
    omega
  | k + 1, n, n', B, B', d, d', h => by
    unfold getLen at h
    split at h
    · cases h
    · split at h
      · have := getLen_le k (n + 1) h
        omega
      · injection h with h
        injection h with h1 h
        omega
theorem getBits_lt {bs : List UInt8} {t : Nat} : ∀ (k i a : Nat) {a' : Nat} {B B' : Chs} {d d' : Dec}, getBits bs t k i a B d = some (a', B', d') → a < 2 ^ i → a' < 2 ^ (i + k)
  | 0, i, a, a', B, B', d, d', h, ha => by
    unfold getBits at h
    injection h with h
    injection h with h1 h
    rw [← h1]
    exact ha
  | k + 1, i, a, a', B, B', d, d', h, ha => by
    unfold getBits at h
    split at h
    · cases h
    · rename_i b1 B1 d1 _
      have := getBits_lt k (i + 1) _ h (by rw [Nat.pow_succ]; have := Bool.toNat_le b1; omega)
      rw [show i + (k + 1) = i + 1 + k by omega]
      exact this

set_option maxRecDepth 20000 in
theorem bGet_any (N : NextSpec) (Y : DecSpec) (w : World) (b y t : Nat) (K : List Nat) (bs : List UInt8) (d : Dec) (B : Chs) (h : Look Y w b B y K bs d) (hn : bs.length ≤ 100000) (ht : t < 16) :
    Calls Try.prog 34 #[pt b, pt y, .int .i64 (t : Int)] w (NumPost Y b y K bs w (getNum bs t B d)) := by
  have HT := btopic_any (t : Int) w
  rw [decide_eq_true (by omega : 0 ≤ (t : Int) ∧ (t : Int) ≤ 15)] at HT
  have HT := Lib.hid HT
  have hL := bglength_any N Y w b y t K bs d B h hn ht
  obtain ⟨g, hg⟩ : ∃ g, g = getNum bs t B d := ⟨_, rfl⟩
  rw [← hg]
  unfold getNum at hg
  obtain ⟨u, hu⟩ : ∃ u, u = getLen bs t 20 0 B d := ⟨_, rfl⟩
  have hule := fun n B1 d1 (e : u = some (n, B1, d1)) => getLen_le 20 0 (hu ▸ e)
  rw [← hu] at hL hg
  have HL := Lib.hid hL; have Hg := Lib.hid hg; have Hule := Lib.hid hule
  clear h hL hg hu hule
  go_enter Try.func34, Try.ntmps34
  go_wp2_with fail
  refine HT.out.mono ?_
  rintro r w1 ⟨rfl, rfl⟩
  clear HT
  go_wp2_with fail
  refine HL.out.mono ?_
  intro r w2 hQ
  rcases u with _ | ⟨n, B1, d1⟩
  · obtain ⟨rfl, hF⟩ := hQ
    have hgg : g = .bad 41 := Hg.out
    have Hgg := Lib.hid hgg
    have HF := Lib.hid hF
    clear hF HL hgg Hg Hule
    go_wp2_with fail
    go_ret2
    rw [Hgg.out]
    exact ⟨rfl, HF.out⟩
  · obtain ⟨hr, hE, hF⟩ := hQ
    have hr : r = .returned (.tuple #[.int .i64 (n : Int), .int .i64 0]) := hr
    subst hr
    have hn20 : n ≤ 20 := by have := Hule.out n B1 d1 rfl; omega
    have hP := bglowest_any N Y w2 b y t n K bs d1 B1 hE hn ht hn20
    have hg2 := Hg.out
    obtain ⟨u, hu⟩ : ∃ u, u = getBits bs t n 0 0 B1 d1 := ⟨_, rfl⟩
    have hult := fun a B2 d2 (e : u = some (a, B2, d2)) => getBits_lt n 0 0 (hu ▸ e) (by decide)
    simp only at hg2
    rw [← hu] at hP hg2
    have HP := Lib.hid hP; have Hg2 := Lib.hid hg2; have Hult := Lib.hid hult; have HF := Lib.hid hF
    clear hP hg2 hu hult hE hF HL Hg Hule
    go_wp2_with fail
    refine HP.out.mono ?_
    intro r w3 hQ
    rcases u with _ | ⟨a, B2, d2⟩
    · obtain ⟨rfl, hF3⟩ := hQ
      have hgg : g = .bad 41 := Hg2.out
      have Hgg := Lib.hid hgg
      have HF3 := Lib.hid (HF.out.trans hF3 (fun x hx => .inl hx))
      clear hF3 hgg Hg2 Hult HP HF
      go_wp2_with fail
      go_ret2
      rw [Hgg.out]
      exact ⟨rfl, HF3.out⟩
    · obtain ⟨hr, hE3, hF3⟩ := hQ
      obtain ⟨V, hV⟩ : ∃ V, V = 2 ^ n + a := ⟨_, rfl⟩
      have hr : r = .returned (.tuple #[.int .i64 (V : Int), .int .i64 0]) := by rw [hV]; exact hr
      subst hr
      have hVb : V < 2097152 := by
        have h1 := Hult.out a B2 d2 rfl
        have h2 : 2 ^ n ≤ 1048576 := Nat.pow_le_pow_right (n := 2) (i := n) (j := 20) (by omega) (by omega)
        rw [Nat.zero_add] at h1
        omega
      have hV1 : 1 ≤ V := by have := Nat.two_pow_pos n; omega
      have hgg : g = if 1048576 < V - 1 then .bad 51 else .ok ((V - 1 : Nat) : Int) B2 d2 := by rw [hV]; exact Hg2.out
      have HF3 := Lib.hid (HF.out.trans hF3 (fun x hx => .inl hx)); have HE3 := Lib.hid hE3
      clear hF3 hE3 hV Hg2 Hult HP HF
      by_cases hb : 1048576 < V - 1
      · have e3 : decide (1048576 < (V : Int) - 1) = true := by simp; omega
        rw [if_pos hb] at hgg
        have Hgg := Lib.hid hgg
        clear hgg hb
        go_wp2_with fail
        go_ret2
        rw [Hgg.out]
        exact ⟨rfl, HF3.out⟩
      · have e3 : decide (1048576 < (V : Int) - 1) = false := by simp; omega
        rw [if_neg hb] at hgg
        have eV1 : ((V - 1 : Nat) : Int) = (V : Int) - 1 := by omega
        rw [eV1] at hgg
        have Hgg := Lib.hid hgg
        clear hgg hb eV1
        go_wp2_with fail
        go_ret2
        rw [Hgg.out]
        exact ⟨rfl, HE3.out, HF3.out⟩

theorem bGetS_bad (t : Int) (a c : Option Addr) (w : World) (h : a = none ∨ c = none ∨ ¬ (0 ≤ t ∧ t ≤ 15)) :
    Calls Try.prog 31 #[.pointer a, .pointer c, .int .i64 t] w fun r w' => r = .returned (.tuple #[.int .i64 0, .int .i64 1]) ∧ w' = w := by
  have HG := Lib.hid (bGet_bad t a c w h)
  clear h
  go_enter Try.func31, Try.ntmps31
  go_wp2_with fail
  refine HG.out.mono ?_
  rintro r w1 ⟨rfl, rfl⟩
  go_wp2_with fail
  go_ret2
  exact ⟨rfl, rfl⟩

set_option maxRecDepth 20000 in
theorem bGetS_any (N : NextSpec) (Y : DecSpec) (w : World) (b y t : Nat) (K : List Nat) (bs : List UInt8) (d : Dec) (B : Chs) (h : Look Y w b B y K bs d) (hn : bs.length ≤ 100000) (ht : t < 16) :
    Calls Try.prog 31 #[pt b, pt y, .int .i64 (t : Int)] w (NumPost Y b y K bs w (getSgn bs t B d)) := by
  have hG := bGet_any N Y w b y t K bs d B h hn ht
  have hfine := getNum_keeps (t := t) h.ok
  clear h
  unfold getSgn
  cases hN : getNum bs t B d with
  | bad e =>
    rw [hN] at hG hfine
    simp only
    have he : e = 41 ∨ e = 51 := hfine
    have HG := Lib.hid hG
    clear hG hN hfine
    rcases he with rfl | rfl
    all_goals
      go_enter Try.func31, Try.ntmps31
      go_wp2_with fail
      refine HG.out.mono ?_
      rintro r w1 ⟨rfl, hF⟩
      have HF := Lib.hid hF
      clear hF HG
      go_wp2_with fail
      go_ret2
      exact ⟨rfl, HF.out⟩
  | ok v B1 d1 =>
    have hv := getNum_range hN
    rw [hN] at hG
    have HG := Lib.hid hG
    clear hG hN hfine
    simp only
    by_cases h0 : v = 0
    · subst h0
      unfold getSign
      rw [if_pos rfl]
      go_enter Try.func31, Try.ntmps31
      go_wp2_with fail
      refine HG.out.mono ?_
      rintro r w1 ⟨rfl, hE, hF⟩
      have HF := Lib.hid hF; have HE := Lib.hid hE
      clear hF hE HG
      go_wp2_with fail
      go_ret2
      exact ⟨rfl, HE.out, HF.out⟩
    · have e0 : (v == 0) = false := by simpa using h0
      obtain ⟨g, hg⟩ : ∃ g, g = getSign bs t v B1 d1 := ⟨_, rfl⟩
      rw [← hg]
      unfold getSign at hg
      rw [if_neg h0] at hg
      obtain ⟨u, hu⟩ : ∃ u, u = getEv bs t B1 d1 (some 36) := ⟨_, rfl⟩
      have hB := fun w1 (h : Look Y w1 b B1 y K bs d1) => bget_any N Y w1 b y t 36 K bs d1 B1 h hn ht (by omega)
      rw [← hu] at hg hB
      have Hg := Lib.hid hg; have HB := Lib.hid hB
      clear hg h0 hu hB
      go_enter Try.func31, Try.ntmps31
      go_wp2_with fail
      refine HG.out.mono ?_
      rintro r w1 ⟨rfl, hE, hF⟩
      have HB1 := Lib.hid (HB.out w1 hE); have HF := Lib.hid hF
      clear hE hF HG HB
      go_wp2_with fail
      refine HB1.out.mono ?_
      intro r1 w2 hQ
      rcases u with _ | ⟨bit, B2, d2⟩
      · obtain ⟨rfl, hF2⟩ := hQ
        have hgg : g = .bad 41 := Hg.out
        have HF2 := Lib.hid (HF.out.trans hF2 (fun x hx => .inl hx)); have Hgg := Lib.hid hgg
        clear hF2 hgg HB1 HF Hg
        go_wp2_with fail
        go_ret2
        rw [Hgg.out]
        exact ⟨rfl, HF2.out⟩
      · obtain ⟨rfl, hE2, hF2⟩ := hQ
        have hgg : g = .ok (if bit then -v else v) B2 d2 := Hg.out
        have HF2 := Lib.hid (HF.out.trans hF2 (fun x hx => .inl hx)); have HE2 := Lib.hid hE2
        cases bit with
        | true =>
          have Hgg := Lib.hid hgg
          clear hE2 hF2 hgg HB1 HF Hg
          go_wp2_with fail
          go_ret2
          rw [Hgg.out]
          exact ⟨rfl, HE2.out, HF2.out⟩
        | false =>
          have Hgg := Lib.hid hgg
          clear hE2 hF2 hgg HB1 HF Hg
          go_wp2_with fail
          go_ret2
          rw [Hgg.out]
          exact ⟨rfl, HE2.out, HF2.out⟩

theorem bGetO_bad (t n : Int) (a c : Option Addr) (w : World) (h : a = none ∨ c = none ∨ ¬ (0 ≤ t ∧ t ≤ 15) ∨ ¬ (1 ≤ n ∧ n ≤ 16)) :
    Calls Try.prog 32 #[.pointer a, .pointer c, .int .i64 t, .int .i64 n] w fun r w' => r = .returned (.tuple #[.int .i64 0, .int .i64 1]) ∧ w' = w := by
  have HT := Lib.hid (btopic_any t w)
  have HC := Lib.hid (bchoice_any n w)
  cases a with
  | none =>
    clear h
    go_enter Try.func32, Try.ntmps32
    go_wp2_with fail
    go_ret2
    exact ⟨rfl, rfl⟩
  | some a =>
  cases c with
  | none =>
    clear h
    go_enter Try.func32, Try.ntmps32
    go_wp2_with fail
    go_ret2
    exact ⟨rfl, rfl⟩
  | some c =>
  have h : ¬ (0 ≤ t ∧ t ≤ 15) ∨ ¬ (1 ≤ n ∧ n ≤ 16) := by simpa using h
  by_cases h1 : 0 ≤ t ∧ t ≤ 15
  · rw [decide_eq_true h1] at HT
    have h3 : ¬ (1 ≤ n ∧ n ≤ 16) := by omega
    rw [decide_eq_false h3] at HC
    clear h1 h3 h
    go_enter Try.func32, Try.ntmps32
    go_wp2_with fail
    refine HT.out.mono ?_
    rintro r w1 ⟨rfl, rfl⟩
    go_wp2_with fail
    refine HC.out.mono ?_
    rintro r w1 ⟨rfl, rfl⟩
    go_wp2_with fail
    go_ret2
    exact ⟨rfl, rfl⟩
  · rw [decide_eq_false h1] at HT
    clear h1 h
    go_enter Try.func32, Try.ntmps32
    go_wp2_with fail
    refine HT.out.mono ?_
    rintro r w1 ⟨rfl, rfl⟩
    go_wp2_with fail
    go_ret2
    exact ⟨rfl, rfl⟩

set_option maxRecDepth 20000 in
theorem bGetO_any (N : NextSpec) (Y : DecSpec) (w : World) (b y t m : Nat) (K : List Nat) (bs : List UInt8) (d : Dec) (B : Chs) (h : Look Y w b B y K bs d) (hn : bs.length ≤ 100000) (ht : t < 16) (hm1 : 1 ≤ m) (hm2 : m ≤ 16) :
    Calls Try.prog 32 #[pt b, pt y, .int .i64 (t : Int), .int .i64 (m : Int)] w (NumPost Y b y K bs w (getOne bs t m B d)) := by
  have HT := btopic_any (t : Int) w
  rw [decide_eq_true (by omega : 0 ≤ (t : Int) ∧ (t : Int) ≤ 15)] at HT
  have HT := Lib.hid HT
  have HC := bchoice_any (m : Int) w
  rw [decide_eq_true (by omega : 1 ≤ (m : Int) ∧ (m : Int) ≤ 16)] at HC
  have HC := Lib.hid HC
  have hL := mlen_any (m - 1) w (by omega)
  rw [show ((m - 1 : Nat) : Int) = (m : Int) - 1 by omega] at hL
  have eU : IntKind.u64.wrap ((m : Int) - 1) = (m : Int) - 1 := IntWalk.u64_in _ (by omega)
  obtain ⟨g, hg⟩ : ∃ g, g = getOne bs t m B d := ⟨_, rfl⟩
  rw [← hg]
  unfold getOne at hg
  obtain ⟨k, hk⟩ : ∃ k, k = bitLen (m - 1) := ⟨_, rfl⟩
  have hk4 : k ≤ 4 := by rw [hk]; exact bitLen_le hm2
  rw [← hk] at hL hg
  obtain ⟨u, hu⟩ : ∃ u, u = getBits bs t k 0 0 B d := ⟨_, rfl⟩
  have hult := fun a B2 d2 (e : u = some (a, B2, d2)) => getBits_lt k 0 0 (hu ▸ e) (by decide)
  have hP := bglowest_any N Y w b y t k K bs d B h hn ht (by omega)
  rw [← hu] at hP hg
  have hp16 : 2 ^ k ≤ 16 := Nat.pow_le_pow_right (n := 2) (i := k) (j := 4) (by omega) (by omega)
  have eP : wrap64 ((2 : Int) ^ k) = ((2 ^ k : Nat) : Int) := by
    have h1 : ((2 ^ k : Nat) : Int) = (2 : Int) ^ k := by simp
    have h0 := Nat.two_pow_pos k
    rw [h1]
    exact IntWalk.wrap64_in _ (by omega)
  obtain ⟨P, hPP⟩ : ∃ P, P = 2 ^ k := ⟨_, rfl⟩
  rw [← hPP] at hP eP hp16
  have HL := Lib.hid hL; have HP := Lib.hid hP; have Hg := Lib.hid hg; have Hult := Lib.hid hult; have HPP := Lib.hid hPP
  clear hL hP hg hult hu hk h hPP
  go_enter Try.func32, Try.ntmps32
  go_wp2_with fail
  refine HT.out.mono ?_
  rintro r w1 ⟨rfl, rfl⟩
  go_wp2_with fail
  refine HC.out.mono ?_
  rintro r w1 ⟨rfl, rfl⟩
  go_wp2_with fail
  refine HL.out.mono ?_
  rintro r w1 ⟨rfl, rfl⟩
  clear HL HT HC
  go_wp2_with fail
  refine HP.out.mono ?_
  intro r w2 hQ
  rcases u with _ | ⟨a, B2, d2⟩
  · obtain ⟨rfl, hF⟩ := hQ
    have hgg : g = .bad 41 := Hg.out
    have Hgg := Lib.hid hgg
    have HF := Lib.hid hF
    clear hF hgg Hg Hult HP
    go_wp2_with fail
    go_ret2
    rw [Hgg.out]
    exact ⟨rfl, HF.out⟩
  · obtain ⟨hr, hE, hF⟩ := hQ
    have hr : r = .returned (.tuple #[.int .i64 ((P + a : Nat) : Int), .int .i64 0]) := hr
    subst hr
    have ha : a < 16 := by
      have h1 := Hult.out a B2 d2 rfl
      rw [Nat.zero_add, ← HPP.out] at h1
      omega
    have hgg : g = if m ≤ a then .bad 51 else .ok (a : Int) B2 d2 := Hg.out
    have HF := Lib.hid hF; have HE := Lib.hid hE
    clear hF hE Hg Hult HP
    have eS : (P : Int) + (a : Int) - (P : Int) = (a : Int) := by omega
    by_cases hb : m ≤ a
    · have e4 : decide (m ≤ a) = true := by simpa using hb
      rw [if_pos hb] at hgg
      have Hgg := Lib.hid hgg
      clear hgg hb
      go_wp2_with fail
      go_ret2
      rw [Hgg.out]
      exact ⟨rfl, HF.out⟩
    · have e4 : decide (m ≤ a) = false := by simpa using hb
      rw [if_neg hb] at hgg
      have Hgg := Lib.hid hgg
      clear hgg hb
      go_wp2_with fail
      go_ret2
      rw [Hgg.out]
      exact ⟨rfl, HE.out, HF.out⟩
end Go.Proofs.Ytfjlepnodmeaaaa

/-
  The landed book keeps the contracts that the laws ask of it. No condition.
-/
namespace Go.Proofs.Ytfjlepnodmeaaaa
open Go.RowKit

theorem NibAt.post {X : EncSpec} {w : World} {b p : Nat} {D : List Nat} {t : Nat} {B : Chs} {e : Enc} {l : List Ev} {k n v : Int} {r : Ending} {w' : World} (ha : actEvs k (t : Int) n v = some l) (hr : r = .returned (.int .i64 0)) (h : NibAt X w b p D t B e w' l) : PutPost Bk X.En w b B p D e k (t : Int) n v r w' := by
  unfold PutPost
  rw [ha]
  obtain ⟨D', h1, h2, h3, h4⟩ := h.done
  exact ⟨hr, D', h1, h2, h3, h4⟩
theorem put_bad {X : EncSpec} {w : World} {b p : Nat} {D : List Nat} {B : Chs} {e : Enc} {k t n v : Int} {r : Ending} {w' : World} (ha : actEvs k t n v = none) (h : r = .returned (.int .i64 1) ∧ w' = w) : PutPost Bk X.En w b B p D e k t n v r w' := by
  unfold PutPost
  rw [ha]
  obtain ⟨rfl, rfl⟩ := h
  exact ⟨rfl, Fr.refl _ _⟩
theorem num_post {Y : DecSpec} {b y : Nat} {K : List Nat} {bs : List UInt8} {w : World} {g : Got} {r : Ending} {w' : World} (hg : ∀ e, g = .bad e → e ≠ 1) (h : NumPost Y b y K bs w g r w') : GetPost Bk Y.De w b y K bs g r w' := by
  cases g with
  | bad e =>
    obtain ⟨rfl, hF⟩ := h
    exact ⟨rfl, hF, fun he => absurd he (hg e rfl)⟩
  | ok v B d =>
    obtain ⟨rfl, hE, hF⟩ := h
    exact ⟨rfl, hE.bk, hE.de, hF⟩
theorem get_bad {Y : DecSpec} {b y : Nat} {K : List Nat} {bs : List UInt8} {w : World} {g : Got} {r : Ending} {w' : World} (hg : g = .bad 1) (h : r = .returned (.tuple #[.int .i64 0, .int .i64 1]) ∧ w' = w) : GetPost Bk Y.De w b y K bs g r w' := by
  subst hg
  obtain ⟨rfl, rfl⟩ := h
  exact ⟨rfl, Fr.refl _ _, fun _ => Fr.refl _ _⟩
theorem getNum_bad {bs : List UInt8} {t : Nat} {B : Chs} {d : Dec} {e : Int} (h : getNum bs t B d = .bad e) : e ≠ 1 := by
  unfold getNum at h
  split at h
  · injection h with h; omega
  · split at h
    · injection h with h; omega
    · split at h
      · injection h with h; omega
      · cases h
theorem getSgn_bad {bs : List UInt8} {t : Nat} {B : Chs} {d : Dec} {e : Int} (h : getSgn bs t B d = .bad e) : e ≠ 1 := by
  unfold getSgn at h
  split at h
  · rename_i e' he
    injection h with h
    subst h
    exact getNum_bad he
  · unfold getSign at h
    split at h
    · cases h
    · split at h
      · injection h with h; omega
      · cases h
theorem getOne_bad {bs : List UInt8} {t n : Nat} {B : Chs} {d : Dec} {e : Int} (h : getOne bs t n B d = .bad e) : e ≠ 1 := by
  unfold getOne at h
  split at h
  · injection h with h; omega
  · split at h
    · injection h with h; omega
    · cases h

def bookI : BookSpec encI decI where
  Bo := Bk
  lt := fun h => h.lt
  fr := fun h hf hs => h.fr hf hs
  new := bnew_any
  put := by
    intro w b B p D e t v hb hE hs hB he hn ht hv
    by_cases h1 : t < 0 ∨ 15 < t
    · have ha : actEvs 1 t 0 v = none := by unfold actEvs; rw [if_pos h1]
      exact (bPut_bad t v _ _ w (by omega)).mono fun r w' h => put_bad ha h
    · obtain ⟨T, rfl⟩ : ∃ T : Nat, t = (T : Int) := ⟨t.toNat, by omega⟩
      by_cases h2 : 0 ≤ v ∧ v ≤ 1048576
      · obtain ⟨V, rfl⟩ : ∃ V : Nat, v = (V : Int) := ⟨v.toNat, by omega⟩
        have ha : actEvs 1 (T : Int) 0 (V : Int) = some (numEvs V) := by
          unfold actEvs
          rw [if_neg h1, if_pos rfl, if_pos h2]
          rfl
        exact (bPut_ok nextI encI w b p T V D B e hb hE hs hB he (by omega) (by omega) (by omega)).mono fun r w' h => h.2.post ha h.1
      · have ha : actEvs 1 (T : Int) 0 v = none := by
          unfold actEvs
          rw [if_neg h1, if_pos rfl, if_neg h2]
        exact (bPut_bad T v _ _ w (by omega)).mono fun r w' h => put_bad ha h
  putS := by
    intro w b B p D e t v hb hE hs hB he hn ht hv
    by_cases h1 : t < 0 ∨ 15 < t
    · have ha : actEvs 2 t 0 v = none := by unfold actEvs; rw [if_pos h1]
      exact (bPutS_bad t v _ _ w hv (by omega)).mono fun r w' h => put_bad ha h
    · obtain ⟨T, rfl⟩ : ∃ T : Nat, t = (T : Int) := ⟨t.toNat, by omega⟩
      by_cases h2 : -1048576 ≤ v ∧ v ≤ 1048576
      · have ha : actEvs 2 (T : Int) 0 v = some (sgnEvs v) := by
          unfold actEvs
          rw [if_neg h1, if_neg (by decide), if_pos rfl, if_pos h2]
        exact (bPutS_ok nextI encI w b p T v D B e hb hE hs hB he (by omega) (by omega) h2).mono fun r w' h => h.2.post ha h.1
      · have ha : actEvs 2 (T : Int) 0 v = none := by
          unfold actEvs
          rw [if_neg h1, if_neg (by decide), if_pos rfl, if_neg h2]
        exact (bPutS_bad T v _ _ w hv (by omega)).mono fun r w' h => put_bad ha h
  putO := by
    intro w b B p D e t n v hb hE hs hB he hn ht hnn hv
    by_cases h1 : t < 0 ∨ 15 < t
    · have ha : actEvs 3 t n v = none := by unfold actEvs; rw [if_pos h1]
      exact (bPutO_bad t n v _ _ w (by omega)).mono fun r w' h => put_bad ha h
    · obtain ⟨T, rfl⟩ : ∃ T : Nat, t = (T : Int) := ⟨t.toNat, by omega⟩
      by_cases h2 : 1 ≤ n ∧ n ≤ 16 ∧ 0 ≤ v ∧ v < n
      · obtain ⟨V, rfl⟩ : ∃ V : Nat, v = (V : Int) := ⟨v.toNat, by omega⟩
        obtain ⟨M, rfl⟩ : ∃ M : Nat, n = (M : Int) := ⟨n.toNat, by omega⟩
        have ha : actEvs 3 (T : Int) (M : Int) (V : Int) = some (oneEvs M V) := by
          unfold actEvs
          rw [if_neg h1, if_neg (by decide), if_neg (by decide), if_pos h2]
          rfl
        exact (bPutO_ok nextI encI w b p T M V D B e hb hE hs hB he (by omega) (by omega) (by omega) (by omega) (by omega)).mono fun r w' h => h.2.post ha h.1
      · have ha : actEvs 3 (T : Int) n v = none := by
          unfold actEvs
          rw [if_neg h1, if_neg (by decide), if_neg (by decide), if_neg h2]
        exact (bPutO_bad T n v _ _ w (by omega)).mono fun r w' h => put_bad ha h
  get := by
    intro w b B y K bs d t hb hD hs hB h1 h2 h3 h4 hn ht
    by_cases h0 : t < 0 ∨ 15 < t
    · exact (bGet_bad t _ _ w (by omega)).mono fun r w' h => get_bad (by unfold getAct; rw [if_pos h0]) h
    · obtain ⟨T, rfl⟩ : ∃ T : Nat, t = (T : Int) := ⟨t.toNat, by omega⟩
      have ha : getAct bs 1 (T : Int) 0 B d = getNum bs T B d := by unfold getAct; rw [if_neg h0, if_pos rfl]; rfl
      rw [ha]
      exact (bGet_any nextI decI w b y T K bs d B ⟨hb, hD, hs, hB, h2, h3, h4, h1⟩ hn (by omega)).mono fun r w' h => num_post (fun e he => getNum_bad he) h
  getS := by
    intro w b B y K bs d t hb hD hs hB h1 h2 h3 h4 hn ht
    by_cases h0 : t < 0 ∨ 15 < t
    · exact (bGetS_bad t _ _ w (by omega)).mono fun r w' h => get_bad (by unfold getAct; rw [if_pos h0]) h
    · obtain ⟨T, rfl⟩ : ∃ T : Nat, t = (T : Int) := ⟨t.toNat, by omega⟩
      have ha : getAct bs 2 (T : Int) 0 B d = getSgn bs T B d := by unfold getAct; rw [if_neg h0, if_neg (by decide), if_pos rfl]; rfl
      rw [ha]
      exact (bGetS_any nextI decI w b y T K bs d B ⟨hb, hD, hs, hB, h2, h3, h4, h1⟩ hn (by omega)).mono fun r w' h => num_post (fun e he => getSgn_bad he) h
  getO := by
    intro w b B y K bs d t n hb hD hs hB h1 h2 h3 h4 hn ht hnn
    by_cases h0 : t < 0 ∨ 15 < t
    · exact (bGetO_bad t n _ _ w (by omega)).mono fun r w' h => get_bad (by unfold getAct; rw [if_pos h0]) h
    · obtain ⟨T, rfl⟩ : ∃ T : Nat, t = (T : Int) := ⟨t.toNat, by omega⟩
      by_cases h5 : n < 1 ∨ 16 < n
      · exact (bGetO_bad T n _ _ w (by omega)).mono fun r w' h => get_bad (by unfold getAct; rw [if_neg h0, if_neg (by decide), if_neg (by decide), if_pos h5]) h
      · obtain ⟨M, rfl⟩ : ∃ M : Nat, n = (M : Int) := ⟨n.toNat, by omega⟩
        have ha : getAct bs 3 (T : Int) (M : Int) B d = getOne bs T M B d := by unfold getAct; rw [if_neg h0, if_neg (by decide), if_neg (by decide), if_neg h5]; rfl
        rw [ha]
        exact (bGetO_any nextI decI w b y T M K bs d B ⟨hb, hD, hs, hB, h2, h3, h4, h1⟩ hn (by omega) (by omega) (by omega)).mono fun r w' h => num_post (fun e he => getOne_bad he) h
  same := bsame_any
  copy := bcopy_any
  putNilB := fun w p D e t v _ _ _ => (bPut_bad t v none _ w (.inl rfl)).mono fun r w' h => ⟨h.1, by rw [h.2]; exact Fr.refl _ _⟩
  putNilX := fun w b B t v _ _ _ => (bPut_bad t v _ none w (.inr (.inl rfl))).mono fun r w' h => ⟨h.1, by rw [h.2]; exact Fr.refl _ _⟩
  putSNilB := fun w p D e t v _ _ hv => (bPutS_bad t v none _ w hv (.inl rfl)).mono fun r w' h => ⟨h.1, by rw [h.2]; exact Fr.refl _ _⟩
  putSNilX := fun w b B t v _ _ hv => (bPutS_bad t v _ none w hv (.inr (.inl rfl))).mono fun r w' h => ⟨h.1, by rw [h.2]; exact Fr.refl _ _⟩
  putONilB := fun w p D e t n v _ _ _ _ => (bPutO_bad t n v none _ w (.inl rfl)).mono fun r w' h => ⟨h.1, by rw [h.2]; exact Fr.refl _ _⟩
  putONilX := fun w b B t n v _ _ _ _ => (bPutO_bad t n v _ none w (.inr (.inl rfl))).mono fun r w' h => ⟨h.1, by rw [h.2]; exact Fr.refl _ _⟩
  getNilB := fun w t _ => (bGet_bad t none none w (.inl rfl)).mono fun r w' h => ⟨h.1, by rw [h.2]; exact Fr.refl _ _⟩
  getNilX := fun w b B t _ _ => (bGet_bad t _ none w (.inr (.inl rfl))).mono fun r w' h => ⟨h.1, by rw [h.2]; exact Fr.refl _ _⟩
  getSNilB := fun w t _ => (bGetS_bad t none none w (.inl rfl)).mono fun r w' h => ⟨h.1, by rw [h.2]; exact Fr.refl _ _⟩
  getSNilX := fun w b B t _ _ => (bGetS_bad t _ none w (.inr (.inl rfl))).mono fun r w' h => ⟨h.1, by rw [h.2]; exact Fr.refl _ _⟩
  getONilB := fun w t n _ _ => (bGetO_bad t n none none w (.inl rfl)).mono fun r w' h => ⟨h.1, by rw [h.2]; exact Fr.refl _ _⟩
  getONilX := fun w b B t n _ _ _ => (bGetO_bad t n _ none w (.inr (.inl rfl))).mono fun r w' h => ⟨h.1, by rw [h.2]; exact Fr.refl _ _⟩
  sameNN := bsameNN_any
  sameNB := fun w b _ _ => bsameNB_any w b
  copyNil := bcopyNil_any
end Go.Proofs.Ytfjlepnodmeaaaa
