/-
  Contracts of package crc: timesX, Table, More, Sum; conditions: the bytes are at most as many as named.
-/
import Derived.Test.YtdpkhhmmoiianaaBits3
import Derived.Test.YtdpkhhmmoiianaaCrcPlain
import Derived.Laws.BitsAllLaws
import Derived.Deep.WholeRow
namespace Go.Proofs.Ytdpkhhmmoiianaa
open Go.RowKit

/-- A remainder in a cell. -/
abbrev V32 (s : W32) : Value := .int .u32 (s.toNat : Int)

theorem ofInt_w32 (s : W32) : BitVec.ofInt 32 (s.toNat : Int) = s := by simp
theorem wrap_u32_nat (n : Nat) (h : n < 4294967296) : IntKind.wrap .u32 (n : Int) = (n : Int) := by
  have := IntKind.wrap_u32 (n : Int)
  omega
theorem xor_w32 (a b : W32) : bits .xor .u32 (a.toNat : Int) (b.toNat : Int) = ((a ^^^ b).toNat : Int) := by
  show IntKind.wrap .u32 ((BitVec.ofInt 32 (a.toNat : Int) ^^^ BitVec.ofInt 32 (b.toNat : Int)).toNat : Int) = _
  rw [ofInt_w32, ofInt_w32]
  exact wrap_u32_nat _ (a ^^^ b).isLt
theorem and_one_w32 (s : W32) : bits .and .u32 (s.toNat : Int) 1 = ((s.toNat % 2 : Nat) : Int) := by
  show IntKind.wrap .u32 ((BitVec.ofInt 32 (s.toNat : Int) &&& BitVec.ofInt 32 1).toNat : Int) = _
  rw [ofInt_w32, BitVec.toNat_and, show (BitVec.ofInt 32 1).toNat = 1 by decide, Nat.and_one_is_mod]
  exact wrap_u32_nat _ (by omega)

theorem toNat_shr (s : W32) (n : Nat) : (s >>> n).toNat = s.toNat / 2 ^ n := by rw [BitVec.toNat_ushiftRight, Nat.shiftRight_eq_div_pow]
theorem low_w32 (s : W32) : s.getLsbD 0 = decide (s.toNat % 2 = 1) := by
  rw [BitVec.getLsbD, Nat.testBit_zero]

/-- The step as the code counts it. -/
theorem st_code (s : W32) : bits .xor .u32 ((s.toNat : Int) / 2) (3988292384 * bits .and .u32 (s.toNat : Int) 1 % 4294967296) = ((st s).toNat : Int) := by
  rw [and_one_w32]
  have h1 : (s.toNat : Int) / (2 : Int) = ((s >>> 1).toNat : Int) := by rw [toNat_shr]; simp
  rw [h1]
  rcases Nat.mod_two_eq_zero_or_one s.toNat with h | h
  · have h2 : s.getLsbD 0 = false := by rw [low_w32, h]; rfl
    rw [h, show (3988292384 * ((0 : Nat) : Int) % 4294967296) = ((0#32 : W32).toNat : Int) by decide, xor_w32]
    unfold st; rw [h2]; rfl
  · have h2 : s.getLsbD 0 = true := by rw [low_w32, h]; rfl
    rw [h, show (3988292384 * ((1 : Nat) : Int) % 4294967296) = ((poly : W32).toNat : Int) by decide, xor_w32]
    unfold st; rw [h2]; rfl

theorem timesX_any (s : W32) (w : World) :
    Calls Try.prog 21 #[.int .u32 (s.toNat : Int)] w fun e w' => e = .returned (V32 (st s)) ∧ w' = w := by
  have k := st_code s
  go_enter Try.func21, Try.ntmps21
  go_wp2_with fail
  go_ret
  exact ⟨rfl, rfl⟩

theorem zero256 : (Try.prog.info? 28).map (fun i => (i.zero, i.size)) = some (some (.agg (Array.replicate 256 (.int .u32 0))), 256) := by kernel_rfl
theorem und256 : Try.prog.underlying 28 = some (.array 256 23) := by kernel_rfl

/-- n cells of remainders. -/
def arr (n : Nat) (f : Nat → W32) : Array Value := ((List.range n).map fun i => V32 (f i)).toArray
theorem arr_size (n : Nat) (f : Nat → W32) : (arr n f).size = n := by simp [arr]
theorem arr_get {n : Nat} (f : Nat → W32) {i : Nat} (h : i < n) : (arr n f)[i]? = some (V32 (f i)) := by simp [arr, h]
theorem arr_congr {n : Nat} {f g : Nat → W32} (h : ∀ i, i < n → f i = g i) : arr n f = arr n g := by
  unfold arr
  congr 1
  apply List.map_congr_left
  intro i hi
  rw [h i (by simpa using hi)]
theorem arr_set (n : Nat) (f : Nat → W32) (i : Nat) (v : W32) : (arr n f).setIfInBounds i (V32 v) = arr n (fun j => if j = i then v else f j) := by
  apply Array.ext_getElem?
  intro j
  rw [Array.getElem?_setIfInBounds, arr_size]
  by_cases h : j < n
  · rw [arr_get _ h, arr_get _ h]
    by_cases hj : i = j
    · subst hj; simp [h]
    · rw [if_neg hj, if_neg (fun e => hj e.symm)]
  · have : ∀ f, (arr n f)[j]? = none := fun f => by rw [Array.getElem?_eq_none]; rw [arr_size]; omega
    rw [this, this]
    split <;> simp_all
theorem arr_zero (n : Nat) : Array.replicate n (Value.int .u32 0) = arr n fun _ => 0#32 := by
  apply Array.ext_getElem?
  intro i
  by_cases h : i < n
  · rw [arr_get _ h]; simp [h, V32]
  · rw [Array.getElem?_eq_none (by simpa using h), Array.getElem?_eq_none (by rw [arr_size]; omega)]

theorem arr_one (n : Nat) (f : Nat → W32) : (arr n f).all (·.oneCell') = true := by
  apply Array.all_eq_true_iff_forall_mem.2
  intro v hv
  simp only [arr, List.mem_toArray, List.mem_map] at hv
  obtain ⟨i, -, rfl⟩ := hv
  rfl
theorem Fr.setRow (w : World) (g : Nat) (cs : Array Value) : Fr [g] w (w.setRow g cs) :=
  ⟨rfl, rfl, rfl, by simp, fun k _ hk => setRow_other w g k _ (by simpa using hk)⟩

/-- The table behind k rounds; and within one. -/
def tabK (b : Nat) (x : Nat) : W32 := if x % b = 0 then tab x else 0#32
def tabI (b i : Nat) (x : Nat) : W32 := if x % (2 * b) = 0 ∨ (x % b = 0 ∧ x < i) then tab x else 0#32

theorem tab_xor_bit : ∀ k, k < 8 → ∀ i, i < 256 → i % (2 * 2 ^ k) = 2 ^ k → 2 ^ k ^^^ (i - 2 ^ k) = i := by decide +kernel
theorem mod_cases {k x i : Nat} (hk : k < 8) (hi : i % (2 * 2 ^ k) = 2 ^ k) :
    (x % (2 * 2 ^ k) = 0 → x % 2 ^ k = 0) ∧ (x % 2 ^ k = 0 → x < 2 ^ k → x = 0) ∧ ((i + 2 * 2 ^ k) % (2 * 2 ^ k) = 2 ^ k) ∧ (2 ^ k ≤ i ∧ (i - 2 ^ k) % (2 * 2 ^ k) = 0) ∧ (x % 2 ^ k = 0 → x < i + 2 * 2 ^ k → x % (2 * 2 ^ k) = 0 ∨ x < i ∨ x = i) ∧ i % 2 ^ k = 0 := by
  have hc : k = 0 ∨ k = 1 ∨ k = 2 ∨ k = 3 ∨ k = 4 ∨ k = 5 ∨ k = 6 ∨ k = 7 := by omega
  rcases hc with rfl | rfl | rfl | rfl | rfl | rfl | rfl | rfl <;> simp only [Nat.reducePow, Nat.reduceMul] at * <;> omega

theorem tab_pow (k : Nat) (h : k < 8) : tab (2 ^ (7 - k)) = stN k poly := by
  have hc : k = 0 ∨ k = 1 ∨ k = 2 ∨ k = 3 ∨ k = 4 ∨ k = 5 ∨ k = 6 ∨ k = 7 := by omega
  rcases hc with rfl | rfl | rfl | rfl | rfl | rfl | rfl | rfl <;> decide +kernel

theorem tabK_start : (arr 256 fun _ => 0#32) = arr 256 (tabK (2 ^ (8 - 0))) := by
  apply arr_congr
  intro i hi
  unfold tabK
  by_cases h : i % 2 ^ (8 - 0) = 0
  · obtain rfl : i = 0 := by simp at h; omega
    decide
  · rw [if_neg h]
theorem tabI_start {k b : Nat} (hk : k < 8) (hb : b = 2 ^ k) : arr 256 (tabK (2 ^ (k + 1))) = arr 256 (tabI b b) := by
  apply arr_congr
  intro x hx
  have hm := mod_cases (x := x) (i := b) hk (by rw [hb]; exact Nat.mod_eq_of_lt (by have := Nat.two_pow_pos k; omega))
  unfold tabK tabI
  have e : 2 ^ (k + 1) = 2 * b := by rw [hb]; omega
  rw [e]
  subst hb
  by_cases h1 : x % (2 * 2 ^ k) = 0
  · rw [if_pos h1, if_pos (.inl h1)]
  · rw [if_neg h1, if_neg]
    rintro (h | ⟨h2, h3⟩)
    · exact h1 h
    · have := hm.2.1 h2 h3; subst this; simp at h1
theorem tabI_end {k b i : Nat} (hk : k < 8) (hb : b = 2 ^ k) (hi : i % (2 * b) = b) (h : 256 ≤ i) : arr 256 (tabI b i) = arr 256 (tabK b) := by
  apply arr_congr
  intro x hx
  subst hb
  have hm := mod_cases (x := x) (i := i) hk hi
  unfold tabK tabI
  by_cases h1 : x % 2 ^ k = 0
  · rw [if_pos h1, if_pos (.inr ⟨h1, by omega⟩)]
  · rw [if_neg h1, if_neg]
    rintro (h2 | ⟨h2, h3⟩)
    · exact h1 (hm.1 h2)
    · exact h1 h2
theorem tabI_step {k b i : Nat} {X : W32} (hk : k < 8) (hb : b = 2 ^ k) (hi : i % (2 * b) = b) (h : i < 256) (hX : X = tab b ^^^ tabI b i (i - b)) :
    (arr 256 fun j => if j = i then X else tabI b i j) = arr 256 (tabI b (i + 2 * b)) := by
  apply arr_congr
  intro x hx
  subst hb
  have hm := mod_cases (x := x) (i := i) hk hi
  by_cases hxi : x = i
  · subst hxi
    rw [if_pos rfl, hX]
    have h1 : tabI (2 ^ k) x (x - 2 ^ k) = tab (x - 2 ^ k) := by unfold tabI; rw [if_pos (.inl hm.2.2.2.1.2)]
    rw [h1, ← tab_xor, tab_xor_bit k hk x h hi]
    unfold tabI
    rw [if_pos (.inr ⟨hm.2.2.2.2.2, by have := Nat.two_pow_pos k; omega⟩)]
  · rw [if_neg hxi]
    unfold tabI
    by_cases h1 : x % (2 * 2 ^ k) = 0
    · rw [if_pos (.inl h1), if_pos (.inl h1)]
    · by_cases h2 : x % 2 ^ k = 0
      · by_cases h3 : x < i
        · rw [if_pos (.inr ⟨h2, h3⟩), if_pos (.inr ⟨h2, by omega⟩)]
        · rw [if_neg, if_neg]
          · rintro (h4 | ⟨h4, h5⟩)
            · exact h1 h4
            · rcases hm.2.2.2.2.1 h4 h5 with h6 | h6 | h6
              · exact h1 h6
              · exact h3 h6
              · exact hxi h6
          · rintro (h4 | ⟨h4, h5⟩)
            · exact h1 h4
            · exact h3 h5
      · rw [if_neg, if_neg]
        · rintro (h4 | ⟨h4, h5⟩)
          · exact h1 h4
          · exact h2 h4
        · rintro (h4 | ⟨h4, h5⟩)
          · exact h1 h4
          · exact h2 h4

theorem wrap_pow7 : ∀ k, k < 8 → wrap64 (2 ^ (7 - k)) = ((2 ^ (7 - k) : Nat) : Int) := by
  intro k hk
  have hc : k = 0 ∨ k = 1 ∨ k = 2 ∨ k = 3 ∨ k = 4 ∨ k = 5 ∨ k = 6 ∨ k = 7 := by omega
  rcases hc with rfl | rfl | rfl | rfl | rfl | rfl | rfl | rfl <;> decide +kernel

set_option maxRecDepth 20000 in
theorem table_any (w : World) :
    Calls Try.prog 14 #[] w fun e w' => e = .returned (.agg (arr 256 tab)) ∧ Fr [] w w' := by
  have z := (zero_of_info zero256).1
  go_enter Try.func14, Try.ntmps14
  go_wp2_with fail
  have hF : Fr [] w ((w.alloc (Obj.cells (Array.replicate 256 (Value.int IntKind.u32 0)) 28)).alloc (Obj.cells (Array.replicate 256 (Value.int IntKind.u32 0)) 28)) := ((Fr.refl _ _).alloc _).alloc _
  have hA := (Blk.new w 28 (Array.replicate 256 (Value.int IntKind.u32 0))).alloc (Obj.cells (Array.replicate 256 (Value.int IntKind.u32 0)) 28)
  have hB := Blk.new (w.alloc (Obj.cells (Array.replicate 256 (Value.int IntKind.u32 0)) 28)) 28 (Array.replicate 256 (Value.int IntKind.u32 0))
  rw [World.size_alloc] at hB
  generalize hw2 : ((w.alloc (Obj.cells (Array.replicate 256 (Value.int IntKind.u32 0)) 28)).alloc (Obj.cells (Array.replicate 256 (Value.int IntKind.u32 0)) 28)) = w2 at hF hA hB ⊢
  clear hw2
  rw [arr_zero] at hA hB
  generalize hp : w.heap.size + 1 = p at hB ⊢
  generalize hq : w.heap.size = q at hA ⊢
  have Hp := Lib.hid hp; clear hp
  have Hq := Lib.hid hq; clear hq
  have HF := Lib.hid hF; clear hF
  have HA := Lib.hid hA; clear hA
  have HB := Lib.hid hB; clear hB
  go_loopw [2, 6] (fun s2 s6 wr => ∃ k : Nat, k ≤ 8 ∧ s6 = .int .i64 (k : Int) ∧ s2 = V32 (stN k poly) ∧ Fr [] w wr ∧ Blk wr p 28 (arr 256 (tabK (2 ^ (8 - k)))) ∧ ∃ cs, Blk wr q 28 cs ∧ cs.size = 256) (fun _ s6 _ => 8 - (intOf s6).toNat)
  case atStart =>
    refine ⟨0, by omega, rfl, rfl, HF.out, ?_, _, HA.out, arr_size _ _⟩
    have h := HB.out
    rw [tabK_start] at h
    exact h
  case round =>
    obtain ⟨k, hk, rfl, rfl, hF, hB, cs, hA, hcs⟩ := hrel
    have HF2 := Lib.hid hF; clear hF
    have HB2 := Lib.hid hB; clear hB
    have HA2 := Lib.hid hA; clear hA
    have Hc := Lib.hid hcs; clear hcs
    by_cases hk8 : k < 8
    · have eg : decide ((k : Int) < 8) = true := by simp; omega
      obtain ⟨b, hb⟩ : ∃ b, b = 2 ^ (7 - k) := ⟨_, rfl⟩
      have ew : wrap64 (2 ^ (7 - k)) = (b : Int) := by rw [hb]; exact wrap_pow7 k hk8
      have Hb := Lib.hid hb; clear hb
      go_wp2_with fail
      go_loopw [5] (fun s5 wx => ∃ i : Nat, i % (2 * b) = b ∧ i < 256 + 2 * b ∧ s5 = .int .i64 (i : Int) ∧ Fr [] w wx ∧ Blk wx p 28 (arr 256 (tabI b i)) ∧ Blk wx q 28 cs) (fun s5 _ => 600 - (intOf s5).toNat)
      case atStart =>
        refine ⟨b, ?_, by omega, by rw [ew], HF2.out, ?_, HA2.out⟩
        · have : 0 < b := by rw [Hb.out]; exact Nat.two_pow_pos _
          exact Nat.mod_eq_of_lt (by omega)
        · have h := HB2.out
          rw [show 8 - k = (7 - k) + 1 by omega, tabI_start (k := 7 - k) (by omega) Hb.out] at h
          exact h
      case round =>
        obtain ⟨i, hm, hi, rfl, hF, hB, hA⟩ := hrel
        have hbk : b ≤ 128 := by
          have e := Hb.out
          have : 2 ^ (7 - k) ≤ 2 ^ 7 := Nat.pow_le_pow_right (by omega) (by omega)
          omega
        have hb0 : 0 < b := by rw [Hb.out]; exact Nat.two_pow_pos _
        have hml : b ≤ i := by have := Nat.mod_le i (2 * b); omega
        by_cases hlt : i < 256
        · have eg : decide ((i : Int) < 256) = true := by simp; omega
          have es : (i : Int) - (b : Int) = ((i - b : Nat) : Int) := by omega
          have c1 := hB.cell (i - b)
          have c2 := hB.frozen i
          have c3 := hB.cell i
          rw [arr_get _ (show i - b < 256 by omega)] at c1
          rw [arr_get _ hlt] at c3
          have HF3 := Lib.hid hF; clear hF
          have HB3 := Lib.hid hB; clear hB
          have HA3 := Lib.hid hA; clear hA
          obtain ⟨X, hX⟩ : ∃ X, X = stN k poly ^^^ tabI b i (i - b) := ⟨_, rfl⟩
          have eX := xor_w32 (stN k poly) (tabI b i (i - b))
          rw [← hX] at eX
          have HX := Lib.hid hX; clear hX
          have Hm := Lib.hid hm; clear hm
          go_wp2_with fail
          refine ⟨⟨i + 2 * b, ?_, by omega, by simp, HF3.out.setCell (.inr (by rw [← Hp.out]; simp)) _, ?_, HA3.out.far (by simp; have := Hp.out; have := Hq.out; omega) _⟩, by simp [intOf]; omega⟩
          · rw [Nat.add_mod_right]; exact Hm.out
          · have h := HB3.out.set_ i (V32 X)
            rw [arr_set, tabI_step (k := 7 - k) (by omega) Hb.out Hm.out hlt (by rw [HX.out, Hb.out, tab_pow k hk8])] at h
            exact h
        · have eg : decide ((i : Int) < 256) = false := by simp; omega
          rw [tabI_end (k := 7 - k) (by omega) Hb.out hm (by omega)] at hB
          have HF3 := Lib.hid hF; clear hF
          have HB3 := Lib.hid hB; clear hB
          have HA3 := Lib.hid hA; clear hA
          have Hm := Lib.hid hm; clear hm
          go_wp2_with fail
          refine (timesX_any _ _).mono ?_
          rintro e w' ⟨rfl, rfl⟩
          rw [← stN_succ]
          go_wp2_with fail
          refine ⟨⟨k + 1, by omega, by simp, rfl, HF3.out, ?_, cs, HA3.out, Hc.out⟩, by simp [intOf]; omega⟩
          rw [show 8 - (k + 1) = 7 - k by omega, ← Hb.out]
          exact HB3.out
    · obtain rfl : k = 8 := by omega
      have eg : decide ((8 : Int) < 8) = false := by decide
      have hs : (Try.prog.info? 28).map (·.size) = some (arr 256 (tabK (2 ^ (8 - 8)))).size := by rw [arr_size]; exact (zero_of_info zero256).2
      have e1 : arr 256 (tabK (2 ^ (8 - 8))) = arr 256 tab := arr_congr fun i _ => by unfold tabK; rw [if_pos (by simp [Nat.mod_one])]
      rw [e1] at hs HB2
      go_upto_region 13 with fail
      clear z
      go_wp2_with (first
        | refine wpList_load_row rfl 28 _ rfl p rfl 28 _ _ _ HB2.out.here und256 rfl hs ?_
        | refine wpList_store_row rfl 28 _ _ rfl q _ rfl rfl 28 cs HA2.out.here hs (by rw [Hc.out, arr_size]) (arr_one _ _) ?_)
      refine bodyPost_ret (v := .agg (arr 256 tab)) ?_ rfl ⟨rfl, ?_⟩
      · exact results_cell_row Try.results14 _ _ q 28 _ _ _ rfl (setRow_heap wr q cs _ _ _ HA2.out.here) und256 rfl hs
      · exact HF2.out.trans (S' := [q]) (Fr.setRow wr q _) (by intro x hx; simp at hx; subst hx; exact .inr (by rw [Hq.out]; exact Nat.le_refl _))
end Go.Proofs.Ytdpkhhmmoiianaa
