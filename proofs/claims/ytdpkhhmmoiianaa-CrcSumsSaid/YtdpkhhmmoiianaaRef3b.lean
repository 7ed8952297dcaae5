/-
  Contracts of the document's number, powers and Divide of layer 3; condition: the factors are at most as many as named.
-/
import Derived.Test.YtdpkhhmmoiianaaRef3a
namespace Go.Proofs.Ytdpkhhmmoiianaa
open Go.RowKit

/-- 32 cells of factors. -/
def arrB (f : Nat → Bool) : Array Value := ((List.range 32).map fun k => Value.int .u8 ((f k).toNat : Int)).toArray
theorem arrB_size (f : Nat → Bool) : (arrB f).size = 32 := by simp [arrB]
theorem arrB_get (f : Nat → Bool) {i : Nat} (h : i < 32) : (arrB f)[i]? = some (.int .u8 ((f i).toNat : Int)) := by simp [arrB, h]
theorem arrB_congr {f g : Nat → Bool} (h : ∀ i, i < 32 → f i = g i) : arrB f = arrB g := by
  unfold arrB
  congr 1
  apply List.map_congr_left
  intro i hi
  rw [h i (by simpa using hi)]
theorem arrB_set (f : Nat → Bool) (i : Nat) (v : Bool) : (arrB f).setIfInBounds i (.int .u8 (v.toNat : Int)) = arrB (fun j => if j = i then v else f j) := by
  apply Array.ext_getElem?
  intro j
  rw [Array.getElem?_setIfInBounds, arrB_size]
  by_cases h : j < 32
  · rw [arrB_get _ h, arrB_get _ h]
    by_cases hj : i = j
    · subst hj; simp [h]
    · rw [if_neg hj, if_neg (fun e => hj e.symm)]
  · have : ∀ f, (arrB f)[j]? = none := fun f => by rw [Array.getElem?_eq_none]; rw [arrB_size]; omega
    rw [this, this]
    split <;> simp_all
theorem arrB_zero : Array.replicate 32 (Value.int .u8 0) = arrB fun k => (0#32 : W32).getLsbD k := by
  apply Array.ext_getElem?
  intro i
  by_cases h : i < 32
  · rw [arrB_get _ h]; simp [h]
  · rw [Array.getElem?_eq_none (by simpa using h), Array.getElem?_eq_none (by rw [arrB_size]; omega)]
theorem arrB_one (f : Nat → Bool) : (arrB f).all (·.oneCell') = true := by
  apply Array.all_eq_true_iff_forall_mem.2
  intro v hv
  simp only [arrB, List.mem_toArray, List.mem_map] at hv
  obtain ⟨i, -, rfl⟩ := hv
  rfl

theorem zeroB : (Try.prog.info? 42).map (fun i => (i.zero, i.size)) = some (some (.agg (Array.replicate 32 (.int .u8 0))), 32) := by kernel_rfl
theorem undB : Try.prog.underlying 42 = some (.array 32 5) := by kernel_rfl

theorem shr_bit (X : W32) (j : Nat) : (X >>> j).toNat = 2 * (X >>> (j + 1)).toNat + (X.getLsbD j).toNat := by
  rw [toNat_shr, toNat_shr, BitVec.getLsbD, Nat.testBit_eq_decide_div_mod_eq, Nat.pow_succ, ← Nat.div_div_eq_div_mul]
  generalize X.toNat / 2 ^ j = y
  rcases Nat.mod_two_eq_zero_or_one y with h | h
  · rw [h]; simp; omega
  · rw [h]; simp; omega
theorem inv_bit (r : W32) (j : Nat) (h : j < 32) : (inv r).getLsbD j = !r.getLsbD j := by simp [inv, h]
theorem shr_none (X : W32) : (X >>> 32).toNat = 0 := by rw [toNat_shr]; have := X.isLt; omega

set_option maxRecDepth 20000 in
theorem number3_any (r : W32) (t : Bool) (w : World) :
    Calls Try.prog 19 #[.agg (arrB fun k => r.getLsbD k), .bool t] w fun e w' => e = .returned (V32 (if t then inv r else r)) ∧ Fr [] w w' := by
  have hm : (arrB fun k => r.getLsbD k).size = 32 := arrB_size _
  obtain ⟨cs, hcs⟩ : ∃ cs, cs = arrB fun k => r.getLsbD k := ⟨_, rfl⟩
  rw [← hcs] at hm ⊢
  have Hc := Lib.hid hcs; clear hcs
  obtain ⟨X, hX⟩ : ∃ X, X = if t then inv r else r := ⟨_, rfl⟩
  rw [← hX]
  have HX := Lib.hid hX; clear hX
  go_enter Try.func19, Try.ntmps19
  go_wp2_with fail
  generalize hw : w.alloc (.cells cs 42) = w2
  have hB : Blk w2 w.heap.size 42 cs := by rw [← hw]; exact Blk.new _ _ _
  have hF : Fr [] w w2 := by rw [← hw]; exact (Fr.refl _ _).alloc _
  have HB := Lib.hid hB; clear hB
  have HF := Lib.hid hF; clear hF hw
  generalize hp : w.heap.size = p at HB ⊢
  clear hp
  go_loop [5, 6] (fun s5 s6 => ∃ j : Nat, j ≤ 32 ∧ s6 = .int .i64 ((j : Int) - 1) ∧ s5 = .int .u32 ((X >>> j).toNat : Int)) (fun _ s6 => (intOf s6 + 1).toNat)
  case atStart => exact ⟨32, Nat.le_refl _, rfl, by rw [shr_none]; rfl⟩
  case round =>
    obtain ⟨j, hj, rfl, rfl⟩ := hrel
    by_cases hpos : 0 < j
    · obtain ⟨k, rfl⟩ : ∃ k, j = k + 1 := ⟨j - 1, by omega⟩
      have c1 := HB.out.cell k
      rw [Hc.out, arrB_get _ (show k < 32 by omega)] at c1
      have hsb := shr_bit X k
      have hsl := (X >>> k).isLt
      obtain ⟨Y, hY⟩ : ∃ Y, Y = (X >>> (k + 1)).toNat := ⟨_, rfl⟩
      obtain ⟨Z, hZ⟩ : ∃ Z, Z = (X >>> k).toNat := ⟨_, rfl⟩
      rw [← hY] at hsb ⊢
      rw [← hZ] at hsb hsl
      have hYl : 2 * Y < 4294967296 := by omega
      have ew1 : IntKind.wrap .u32 (2 * (Y : Int)) = 2 * (Y : Int) := IntWalk.u32_in _ (by omega)
      have hbit : X.getLsbD k = (if t then !r.getLsbD k else r.getLsbD k) := by
        rw [HX.out]
        cases t
        · rfl
        · exact inv_bit r k (by omega)
      have HZ := Lib.hid hZ; clear hZ
      have HY := Lib.hid hY; clear hY
      cases t
      · obtain ⟨b, hb⟩ : ∃ b, b = r.getLsbD k := ⟨_, rfl⟩
        rw [← hb] at c1 hbit
        simp only [Bool.false_eq_true, if_false] at hbit
        rw [hbit] at hsb
        have hbl : b.toNat ≤ 1 := by cases b <;> simp
        have ew2 : IntKind.wrap .u32 (b.toNat : Int) = (b.toNat : Int) := IntWalk.u32_in _ (by omega)
        have ew3 : IntKind.wrap .u32 (2 * (Y : Int) + (b.toNat : Int)) = 2 * (Y : Int) + (b.toNat : Int) := IntWalk.u32_in _ (by omega)
        have Hb := Lib.hid hb; clear hb
        have Hs := Lib.hid hsb; clear hsb hbit
        go_wp2_with fail
        go_round
        case rel => exact ⟨k, by omega, by go_num, by rw [← HZ.out, Hs.out]; go_num⟩
        case measure => (simp [intOf] <;> omega)
      · obtain ⟨b, hb⟩ : ∃ b, b = r.getLsbD k := ⟨_, rfl⟩
        rw [← hb] at c1 hbit
        simp only [if_true] at hbit
        rw [hbit] at hsb
        have e1 : (1 : Int) - (b.toNat : Int) = ((!b).toNat : Int) := by cases b <;> rfl
        obtain ⟨b', hb'⟩ : ∃ b', b' = !b := ⟨_, rfl⟩
        rw [← hb'] at hsb e1
        have hbl : b'.toNat ≤ 1 := by cases b' <;> simp
        have ew0 : IntKind.wrap .u8 (b'.toNat : Int) = (b'.toNat : Int) := IntWalk.u8_in _ (by omega)
        have ew2 : IntKind.wrap .u32 (b'.toNat : Int) = (b'.toNat : Int) := IntWalk.u32_in _ (by omega)
        have ew3 : IntKind.wrap .u32 (2 * (Y : Int) + (b'.toNat : Int)) = 2 * (Y : Int) + (b'.toNat : Int) := IntWalk.u32_in _ (by omega)
        have Hb := Lib.hid hb; clear hb
        have Hb' := Lib.hid hb'; clear hb'
        have Hs := Lib.hid hsb; clear hsb hbit
        go_wp2_with fail
        go_round
        case rel => exact ⟨k, by omega, by go_num, by rw [← HZ.out, Hs.out]; go_num⟩
        case measure => (simp [intOf] <;> omega)
    · obtain rfl : j = 0 := by omega
      go_wp2_with fail
      go_ret
      exact ⟨by simp, HF.out⟩

/-- The powers that G has. -/
def pw : List Nat := [26, 23, 22, 16, 12, 11, 10, 8, 7, 5, 4, 2, 1, 0]
def pwCells : Array Value := (pw.map fun m : Nat => Value.int .i64 (m : Int)).toArray

theorem powers_any (w : World) :
    Calls Try.prog 25 #[] w fun e w' => e = .returned (.slice (some ⟨w.heap.size, 0, none⟩) 14 14) ∧ w' = w.alloc (.cells pwCells 3) := by
  go_enter Try.func25, Try.ntmps25
  go_wp2_with fail
  go_ret
  exact ⟨rfl, rfl⟩

/-- The remainder's factors moved on, and the next one behind. -/
def moved (r : W32) (d : Bool) (j : Nat) : Bool := if j = 31 then d else r.getLsbD (j + 1)
def shf (r : W32) (k j : Nat) : Bool := if j < k then r.getLsbD (j + 1) else r.getLsbD j
/-- .. with G's first k powers taken off. -/
def flp (r : W32) (d : Bool) (k j : Nat) : Bool := moved r d j ^^ (pw.take k).any fun m => 31 - m == j

theorem poly_bits : ∀ j, j < 32 → poly.getLsbD j = pw.any fun m => 31 - m == j := by decide +kernel
theorem pw_apart : ∀ k, k < 14 → ((pw.take k).any fun m => 31 - m == 31 - pw.getD k 0) = false := by decide +kernel
theorem pw_le : ∀ k, k < 14 → pw.getD k 0 ≤ 26 := by decide +kernel
theorem pw_at (k : Nat) (h : k < 14) : pw[k]? = some (pw.getD k 0) := by
  have hl : k < pw.length := h
  rw [List.getElem?_eq_getElem hl, List.getD_eq_getElem?_getD, List.getElem?_eq_getElem hl]; rfl
theorem flp_zero (r : W32) (d : Bool) : arrB (moved r d) = arrB (flp r d 0) := arrB_congr fun j _ => by simp [flp]
theorem flp_step (r : W32) (d : Bool) (k : Nat) (h : k < 14) : (arrB fun j => if j = 31 - pw.getD k 0 then !(flp r d k (31 - pw.getD k 0)) else flp r d k j) = arrB (flp r d (k + 1)) := by
  apply arrB_congr
  intro j hj
  unfold flp
  rw [List.take_add_one, pw_at k h, List.any_append]
  by_cases e : j = 31 - pw.getD k 0
  · subst e
    rw [if_pos rfl, pw_apart k h]
    simp
  · rw [if_neg e]
    have : (31 - pw.getD k 0 == j) = false := by rw [beq_eq_false_iff_ne]; exact fun h => e h.symm
    simp only [Option.toList_some, List.any_cons, List.any_nil, Bool.or_false, this]
theorem dv_bit (r : W32) (d : Bool) (j : Nat) (hj : j < 32) : (dv r d).getLsbD j = (moved r d j ^^ (r.getLsbD 0 && poly.getLsbD j)) := by
  unfold dv st moved
  rw [BitVec.getLsbD_xor, BitVec.getLsbD_xor, BitVec.getLsbD_ushiftRight]
  have e1 : (if d then 1#32 <<< 31 else 0#32).getLsbD j = (d && decide (j = 31)) := by
    cases d
    · simp
    · rw [if_pos rfl, top_bit j hj, Bool.true_and]
  have e2 : (if r.getLsbD 0 then poly else 0#32).getLsbD j = (r.getLsbD 0 && poly.getLsbD j) := by
    cases r.getLsbD 0 <;> simp
  rw [e1, e2, Nat.add_comm 1 j]
  by_cases h : j = 31
  · subst h
    have : r.getLsbD (31 + 1) = false := BitVec.getLsbD_of_ge _ _ (by omega)
    rw [this]
    cases d <;> cases r.getLsbD 0 <;> cases poly.getLsbD 31 <;> rfl
  · rw [if_neg h, decide_eq_false h]
    simp
theorem flp_all (r : W32) (d : Bool) (h : r.getLsbD 0 = true) : arrB (flp r d 14) = arrB fun j => (dv r d).getLsbD j :=
  arrB_congr fun j hj => by
    rw [dv_bit r d j hj, h, poly_bits j hj]
    simp [flp, List.take_of_length_le (show pw.length ≤ 14 by decide)]
theorem flp_none (r : W32) (d : Bool) (h : r.getLsbD 0 = false) : arrB (moved r d) = arrB fun j => (dv r d).getLsbD j :=
  arrB_congr fun j hj => by
    rw [dv_bit r d j hj, h]
    simp
theorem shf_start (r : W32) : (arrB fun j => r.getLsbD j) = arrB (shf r 0) := arrB_congr fun j _ => by simp [shf]
theorem shf_step (r : W32) (k : Nat) : (arrB fun j => if j = k then shf r k (k + 1) else shf r k j) = arrB (shf r (k + 1)) :=
  arrB_congr fun j _ => by
    unfold shf
    by_cases h : j = k
    · subst h
      rw [if_pos rfl, if_neg (by omega), if_pos (by omega)]
    · rw [if_neg h]
      by_cases h2 : j < k
      · rw [if_pos h2, if_pos (by omega)]
      · rw [if_neg h2, if_neg (by omega)]
theorem shf_end (r : W32) (d : Bool) : (arrB fun j => if j = 31 then d else shf r 31 j) = arrB (moved r d) :=
  arrB_congr fun j hj => by
    unfold moved shf
    by_cases h : j = 31
    · rw [if_pos h, if_pos h]
    · rw [if_neg h, if_neg h, if_pos (by omega)]
end Go.Proofs.Ytdpkhhmmoiianaa
