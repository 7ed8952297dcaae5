/-
  The law CrcLinear answers true whatever its input, and leaves its arguments as they were; no condition.
-/
import Derived.Test.YtdpkhhmmoiianaaCNew
import Derived.Test.YtdpkhhmmoiianaaRow
import Derived.Test.YtdpkhhmmoiianaaActs
namespace Go.Proofs.Ytdpkhhmmoiianaa
open Go.ChangeShapes Go.WideShapes Go.ChangeAt Go.RowKit

theorem inv_xor3 (a b c : W32) : inv (a ^^^ b ^^^ c) = inv a ^^^ inv b ^^^ inv c := by
  unfold inv
  apply BitVec.eq_of_getLsbD_eq
  intro i hi
  simp [hi]
theorem inv_xor_inv (a c : W32) : inv a ^^^ inv (a ^^^ c) = c := by
  unfold inv
  apply BitVec.eq_of_getLsbD_eq
  intro i hi
  simp [hi]

/-- Three lists' bits together. -/
theorem sum_three (ra bs cs : List UInt8) (h1 : ra.length = bs.length) (h2 : ra.length = cs.length) :
    sumOf (List.zipWith (· ^^^ ·) (List.zipWith (· ^^^ ·) ra bs) cs) = sumOf ra ^^^ sumOf bs ^^^ sumOf cs := by
  unfold sumOf
  rw [← inv_xor3, ← run_xor _ _ ra bs h1, ← run_xor _ _ _ cs (by simp; omega)]
  congr 2
theorem sum_two (ra cs : List UInt8) (h : ra.length = cs.length) : sumOf ra ^^^ sumOf (List.zipWith (· ^^^ ·) ra cs) = run 0#32 cs := by
  have h1 := run_xor (inv 0#32) 0#32 ra cs h
  rw [BitVec.xor_zero] at h1
  unfold sumOf
  rw [h1, inv_xor_inv]

/-- The first i bytes made so, the others still 0. -/
def filled (n i : Nat) (f : Nat → UInt8) : List UInt8 := (List.range n).map fun j => if j < i then f j else 0
@[simp] theorem filled_length (n i : Nat) (f : Nat → UInt8) : (filled n i f).length = n := by simp [filled]
theorem filled_zero (n : Nat) (f : Nat → UInt8) : filled n 0 f = List.replicate n 0 := by
  apply List.ext_getElem (by simp)
  intro j h1 h2
  simp [filled]
theorem filled_set (n i : Nat) (f : Nat → UInt8) : (filled n i f).set i (f i) = filled n (i + 1) f := by
  apply List.ext_getElem (by simp)
  intro j h1 h2
  rw [List.getElem_set]
  simp only [filled, List.getElem_map, List.getElem_range]
  by_cases h : i = j
  · subst h; simp
  · rw [if_neg h]
    by_cases h3 : j < i
    · rw [if_pos h3, if_pos (by omega)]
    · rw [if_neg h3, if_neg (by omega)]
theorem filled_all (n : Nat) (f : Nat → UInt8) : filled n n f = (List.range n).map f := by
  apply List.ext_getElem (by simp)
  intro j h1 h2
  simp only [filled, List.getElem_map, List.getElem_range]
  rw [if_pos (by simpa using h2)]
theorem zip_getD (ra bs : List UInt8) (h : ra.length = bs.length) : (List.range ra.length).map (fun j => ra.getD j 0 ^^^ bs.getD j 0) = List.zipWith (· ^^^ ·) ra bs := by
  apply List.ext_getElem (by simp; omega)
  intro j h1 h2
  have h3 : j < ra.length := by simpa using h1
  simp [List.getD_eq_getElem?_getD, h3, show j < bs.length by omega]

/-- Three rows of the call's own, apart from one another, in memory that is new since w. -/
structure L3 (w W : World) (gx gy gz n : Nat) (X Y Z : List UInt8) : Prop where
  x : Own W 5 (.slice (some ⟨gx, 0, none⟩) n n) (X.map B8)
  y : Own W 5 (.slice (some ⟨gy, 0, none⟩) n n) (Y.map B8)
  z : Own W 5 (.slice (some ⟨gz, 0, none⟩) n n) (Z.map B8)
  fr : Fr [] w W
  lt : w.heap.size ≤ gx ∧ gx < gy ∧ gy < gz
section
variable {w W W' : World} {gx gy gz n j : Nat} {X Y Z : List UInt8}
theorem Own.cell8 {g : Nat} (h : Own W 5 (.slice (some ⟨g, 0, none⟩) n n) (X.map B8)) (hj : j < X.length) :
    (∃ x : UInt8, W.cell? ⟨g, j, none⟩ = some (.int .u8 (x.toNat : Int))) ∧ W.frozen? ⟨g, j, none⟩ = false ∧ ∀ u : UInt8, Own (W.setCell ⟨g, j, none⟩ (.int .u8 (u.toNat : Int))) 5 (.slice (some ⟨g, 0, none⟩) n n) ((X.set j u).map B8) := by
  obtain ⟨g', e, h1, h2, -, -⟩ := h.cell (j := j) (by simpa using hj)
  injection e with e
  injection e with e
  subst e
  refine ⟨⟨X[j], ?_⟩, h2, fun u => ?_⟩
  · rw [h1, List.getElem?_map, List.getElem?_eq_getElem hj]; rfl
  · have := h.set j (.int .u8 (u.toNat : Int))
    rw [List.map_set]
    exact this
theorem L3.drew (h : L3 w W gx gy gz n X Y Z) : L3 w W.drew gx gy gz n X Y Z := ⟨h.x.drew, h.y.drew, h.z.drew, h.fr.drew, h.lt⟩
theorem L3.setX (h : L3 w W gx gy gz n X Y Z) (hj : j < X.length) (u : UInt8) : L3 w (W.setCell ⟨gx, j, none⟩ (.int .u8 (u.toNat : Int))) gx gy gz n (X.set j u) Y Z :=
  ⟨(h.x.cell8 hj).2.2 u, h.y.fr ((Fr.refl [gx] _).setCell (.inl (by simp)) _) (by intro k hk; simp [Value.ownBlock] at hk; subst hk; have := h.lt; simp; omega),
   h.z.fr ((Fr.refl [gx] _).setCell (.inl (by simp)) _) (by intro k hk; simp [Value.ownBlock] at hk; subst hk; have := h.lt; simp; omega), h.fr.setCell (.inr (by have := h.lt; simp; omega)) _, h.lt⟩
theorem L3.setY (h : L3 w W gx gy gz n X Y Z) (hj : j < Y.length) (u : UInt8) : L3 w (W.setCell ⟨gy, j, none⟩ (.int .u8 (u.toNat : Int))) gx gy gz n X (Y.set j u) Z :=
  ⟨h.x.fr ((Fr.refl [gy] _).setCell (.inl (by simp)) _) (by intro k hk; simp [Value.ownBlock] at hk; subst hk; have := h.lt; simp; omega), (h.y.cell8 hj).2.2 u,
   h.z.fr ((Fr.refl [gy] _).setCell (.inl (by simp)) _) (by intro k hk; simp [Value.ownBlock] at hk; subst hk; have := h.lt; simp; omega), h.fr.setCell (.inr (by have := h.lt; simp; omega)) _, h.lt⟩
theorem L3.setZ (h : L3 w W gx gy gz n X Y Z) (hj : j < Z.length) (u : UInt8) : L3 w (W.setCell ⟨gz, j, none⟩ (.int .u8 (u.toNat : Int))) gx gy gz n X Y (Z.set j u) :=
  ⟨h.x.fr ((Fr.refl [gz] _).setCell (.inl (by simp)) _) (by intro k hk; simp [Value.ownBlock] at hk; subst hk; have := h.lt; simp; omega),
   h.y.fr ((Fr.refl [gz] _).setCell (.inl (by simp)) _) (by intro k hk; simp [Value.ownBlock] at hk; subst hk; have := h.lt; simp; omega), (h.z.cell8 hj).2.2 u, h.fr.setCell (.inr (by have := h.lt; simp; omega)) _, h.lt⟩
end
theorem xor_b8 (a b : UInt8) : bits .xor .u8 (a.toNat : Int) (b.toNat : Int) = ((a ^^^ b).toNat : Int) := by
  rw [u8_xor_nat _ _ a.toNat_lt b.toNat_lt, UInt8.toNat_xor]

set_option maxRecDepth 20000 in
theorem linear_out (A : Option Addr) (na ca : Nat) (B : Option Addr) (nb cb : Nat) (C : Option Addr) (nc cc : Nat) (w : World) (h1 : na ≤ 9223372036854775807) (h2 : nb ≤ 9223372036854775807) (h3 : nc ≤ 9223372036854775807) (h : ¬ (na ≤ 300 ∧ nb = na ∧ nc = na)) :
    Calls Try.prog 8 #[.slice A na ca, .slice B nb cb, .slice C nc cc] w fun e w' => e = .returned (.bool true) ∧ Fr [] w w' := by
  by_cases h1 : 300 < na
  · have e1 : decide ((300 : Int) < (na : Int)) = true := by simp; omega
    go_enter Try.func8, Try.ntmps8
    go_wp2_with fail
    refine (alive3_any _).mono ?_
    rintro e w3 ⟨rfl, hF3⟩
    go_wp2_with fail
    go_ret
    exact ⟨rfl, hF3⟩
  have e1 : decide ((300 : Int) < (na : Int)) = false := by simp; omega
  by_cases h2 : nb ≠ na
  · have e2 : ((nb : Int) != (na : Int)) = true := by simp; omega
    go_enter Try.func8, Try.ntmps8
    go_wp2_with fail
    refine (alive3_any _).mono ?_
    rintro e w3 ⟨rfl, hF3⟩
    go_wp2_with fail
    go_ret
    exact ⟨rfl, hF3⟩
  obtain rfl : nb = na := by omega
  have e3 : ((nc : Int) != (nb : Int)) = true := by simp; omega
  go_enter Try.func8, Try.ntmps8
  go_wp2_with fail
  refine (alive3_any _).mono ?_
  rintro e w3 ⟨rfl, hF3⟩
  go_wp2_with fail
  go_ret
  exact ⟨rfl, hF3⟩

set_option maxRecDepth 20000 in
set_option maxHeartbeats 4000000 in
theorem linear_any (A : Option Addr) (n ca : Nat) (B : Option Addr) (cb : Nat) (C : Option Addr) (cc : Nat) (ra bs cs : List UInt8) (w : World) (ha : Src w (.slice A n ca) (ra.map B8)) (hal : ra.length = n) (hb : Src w (.slice B n cb) (bs.map B8)) (hbl : bs.length = n)
    (hc : Src w (.slice C n cc) (cs.map B8)) (hcl : cs.length = n) (h300 : n ≤ 300) :
    Calls Try.prog 8 #[.slice A n ca, .slice B n cb, .slice C n cc] w fun e w' => e = .returned (.bool true) ∧ Fr [] w w' := by
  have Hal := Lib.hid hal; clear hal
  have Hbl := Lib.hid hbl; clear hbl
  have Hcl := Lib.hid hcl; clear hcl
  have HSa := Lib.hid ha; clear ha
  have HSb := Lib.hid hb; clear hb
  have HSc := Lib.hid hc; clear hc
  have e1 : decide ((300 : Int) < (n : Int)) = false := by simp; omega
  obtain ⟨i8, hi, hz, h1, h2⟩ := info_parts info_u8
  have HI := Lib.hid hi; clear hi
  have HZ := Lib.hid hz; clear hz
  have HI1 := Lib.hid h1; clear h1
  have HI2 := Lib.hid h2; clear h2
  go_enter Try.func8, Try.ntmps8
  go_wp2_with (at_make; refine wpList_make_mine _ _ 22 5 i8 _ 1 _ _ n rfl rfl Try.underlying22 HI.out HZ.out HI1.out HI2.out rfl rfl rfl (by omega) (by simp only [maxLen]; omega) ?_)
  intro w1 hO1 hF1 hl1
  obtain ⟨gx, hgx⟩ : ∃ g, g = w.heap.size := ⟨_, rfl⟩
  rw [← hgx] at hO1 hl1 ⊢
  have Hgx := Lib.hid hgx; clear hgx
  have HO1 := Lib.hid hO1; clear hO1
  have HF1 := Lib.hid hF1; clear hF1
  have Hl1 := Lib.hid hl1; clear hl1
  go_wp2_with (at_make; refine wpList_make_mine _ _ 22 5 i8 _ 1 _ _ n rfl rfl Try.underlying22 HI.out HZ.out HI1.out HI2.out rfl rfl rfl (by omega) (by simp only [maxLen]; omega) ?_)
  intro w2 hO2 hF2 hl2
  obtain ⟨gy, hgy⟩ : ∃ g, g = w1.heap.size := ⟨_, rfl⟩
  rw [← hgy] at hO2 hl2 ⊢
  have Hgy := Lib.hid hgy; clear hgy
  have HO2 := Lib.hid hO2; clear hO2
  have HF2 := Lib.hid hF2; clear hF2
  have Hl2 := Lib.hid hl2; clear hl2
  go_wp2_with (at_make; refine wpList_make_mine _ _ 22 5 i8 _ 1 _ _ n rfl rfl Try.underlying22 HI.out HZ.out HI1.out HI2.out rfl rfl rfl (by omega) (by simp only [maxLen]; omega) ?_)
  intro w3 hO3 hF3 hl3
  obtain ⟨gz, hgz⟩ : ∃ g, g = w2.heap.size := ⟨_, rfl⟩
  rw [← hgz] at hO3 hl3 ⊢
  have hz0 : ∀ f, (filled n 0 f).map B8 = List.replicate n (Value.int .u8 0) := fun f => by rw [filled_zero, List.map_replicate]; rfl
  obtain ⟨fx, hfx⟩ : ∃ f : Nat → UInt8, f = fun j => (ra.getD j 0 ^^^ bs.getD j 0) ^^^ cs.getD j 0 := ⟨_, rfl⟩
  obtain ⟨fy, hfy⟩ : ∃ f : Nat → UInt8, f = fun j => ra.getD j 0 ^^^ cs.getD j 0 := ⟨_, rfl⟩
  obtain ⟨fz, hfz⟩ : ∃ f : Nat → UInt8, f = fun j => bs.getD j 0 ^^^ cs.getD j 0 := ⟨_, rfl⟩
  have hL : L3 w w3 gx gy gz n (filled n 0 fx) (filled n 0 fy) (filled n 0 fz) := by
    refine ⟨?_, ?_, ?_, (HF1.out.trans HF2.out (by simp)).trans hF3 (by simp), ?_⟩
    · rw [hz0]; exact (HO1.out.fr HF2.out (by simp)).fr hF3 (by simp)
    · rw [hz0]; exact HO2.out.fr hF3 (by simp)
    · rw [hz0]; exact hO3
    · have := Hgx.out; have := Hl1.out; have := Hgy.out; have := Hl2.out; omega
  have HL := Lib.hid hL
  have Hfx := Lib.hid hfx
  have Hfy := Lib.hid hfy
  have Hfz := Lib.hid hfz
  clear hL hfx hfy hfz hz0 hO3 hF3 hl3 hgz Hgx HO1 HF1 Hl1 Hgy HO2 HF2 Hl2 HI HZ HI1 HI2
  go_wp2_with fail
  go_loopw [10] (fun s10 wr => ∃ i : Nat, i ≤ n ∧ s10 = .int .i64 (i : Int) ∧ L3 w wr gx gy gz n (filled n i fx) (filled n i fy) (filled n i fz)) (fun s10 _ => n - (intOf s10).toNat)
  case atStart => exact ⟨0, Nat.zero_le _, rfl, HL.out⟩
  case round =>
    obtain ⟨i, hi, rfl, hL⟩ := hrel
    by_cases hlt : i < n
    · have eg : decide (i < n) = true := by simp [hlt]
      obtain ⟨ua, hua⟩ : ∃ x, ra[i]? = some x := ⟨_, List.getElem?_eq_getElem (by have := Hal.out; omega)⟩
      obtain ⟨ub, hub⟩ : ∃ x, bs[i]? = some x := ⟨_, List.getElem?_eq_getElem (by have := Hbl.out; omega)⟩
      obtain ⟨uc, huc⟩ : ∃ x, cs[i]? = some x := ⟨_, List.getElem?_eq_getElem (by have := Hcl.out; omega)⟩
      have hcell : ∀ W, Fr [] w W → ∃ ada adb adc, A = some ada ∧ B = some adb ∧ C = some adc ∧ W.cell? (ada.add i) = some (.int .u8 (ua.toNat : Int)) ∧ W.cell? (adb.add i) = some (.int .u8 (ub.toNat : Int)) ∧ W.cell? (adc.add i) = some (.int .u8 (uc.toNat : Int)) := by
        intro W hF
        obtain ⟨ada, r1, c1⟩ := (HSa.out.fr0 hF).cellAt hua
        obtain ⟨adb, r2, c2⟩ := (HSb.out.fr0 hF).cellAt hub
        obtain ⟨adc, r3, c3⟩ := (HSc.out.fr0 hF).cellAt huc
        exact ⟨ada, adb, adc, r1, r2, r3, c1, c2, c3⟩
      obtain ⟨ada, adb, adc, rfl, rfl, rfl, -, -, -⟩ := hcell wr hL.fr
      have hcells : ∀ W, Fr [] w W → W.cell? (ada.add i) = some (.int .u8 (ua.toNat : Int)) ∧ W.cell? (adb.add i) = some (.int .u8 (ub.toNat : Int)) ∧ W.cell? (adc.add i) = some (.int .u8 (uc.toNat : Int)) := by
        intro W hF
        obtain ⟨a1, a2, a3, r1, r2, r3, c1, c2, c3⟩ := hcell W hF
        injection r1 with r1; injection r2 with r2; injection r3 with r3
        subst r1 r2 r3
        exact ⟨c1, c2, c3⟩
      have Hcs := Lib.hid hcells; clear hcells hcell
      obtain ⟨V, hV⟩ : ∃ V, V = ua ^^^ ub := ⟨_, rfl⟩
      have x1 := xor_b8 ua ub
      rw [← hV] at x1
      obtain ⟨Ux, hUx⟩ : ∃ V', V' = V ^^^ uc := ⟨_, rfl⟩
      have x2 := xor_b8 V uc
      rw [← hUx] at x2
      obtain ⟨Uy, hUy⟩ : ∃ V', V' = ua ^^^ uc := ⟨_, rfl⟩
      have x3 := xor_b8 ua uc
      rw [← hUy] at x3
      obtain ⟨Uz, hUz⟩ : ∃ V', V' = ub ^^^ uc := ⟨_, rfl⟩
      have x4 := xor_b8 ub uc
      rw [← hUz] at x4
      have fX : fx i = Ux := by rw [Hfx.out, hUx, hV]; simp [List.getD_eq_getElem?_getD, hua, hub, huc]
      have fY : fy i = Uy := by rw [Hfy.out, hUy]; simp [List.getD_eq_getElem?_getD, hua, huc]
      have fZ : fz i = Uz := by rw [Hfz.out, hUz]; simp [List.getD_eq_getElem?_getD, hub, huc]
      have FX := Lib.hid fX; have FY := Lib.hid fY; have FZ := Lib.hid fZ
      clear fX fY fZ hV hUx hUy hUz hua hub huc
      have h0 := (hL.drew).setX (j := i) (by simp; exact hlt) Ux
      have k0 := Hcs.out _ (hL.drew).fr
      have k1 := Hcs.out _ h0.fr
      obtain ⟨⟨o0, d0⟩, d1, -⟩ := (hL.drew).x.cell8 (j := i) (by simp; exact hlt)
      have H0 := Lib.hid h0; clear h0
      obtain ⟨ka, kb, kc⟩ := k0
      obtain ⟨la, lb, lc⟩ := k1
      go_upto_region 9 with fail
      refine wp_region_held_drew (S := fun W => W.cell? (ada.add i) = some (.int .u8 (ua.toNat : Int)) ∧ W.cell? (adb.add i) = some (.int .u8 (ub.toNat : Int)) ∧ W.cell? (adc.add i) = some (.int .u8 (uc.toNat : Int))) (by kernel_rfl) ?_ (fun hHeld => ?_)
      · (repeat' (first | trivial | assumption | refine ⟨?_, ?_⟩))
      refine wpAnyH_pick 0 (v := ?_) rfl (by kernel_rfl) (by kernel_rfl) (by kernel_rfl) (fun _ _ _ h => h) (by assumption) (by rfl) ?_ ?_
      rotate_left
      · (intro w hSw; (try dsimp only at hSw); go_simp) <;> (with_reducible rfl)
      (try simp only [Act.put, List.setIfInBounds_toArray, List.set_cons_zero, List.set_cons_succ])
      refine wpAnyH_pick 1 (v := ?_) rfl (by kernel_rfl) (by kernel_rfl) (by kernel_rfl) (fun _ _ _ h => h) (by assumption) (by rfl) ?_ ?_
      rotate_left
      · (intro w hSw; (try dsimp only at hSw); go_simp) <;> (with_reducible rfl)
      (try simp only [Act.put, List.setIfInBounds_toArray, List.set_cons_zero, List.set_cons_succ])
      refine wpAnyH_pick 2 (v := ?_) rfl (by kernel_rfl) (by kernel_rfl) (by kernel_rfl) (fun _ _ _ h => h) (by assumption) (by rfl) ?_ ?_
      rotate_left
      · (intro w hSw; (try dsimp only at hSw); go_simp) <;> (with_reducible rfl)
      (try simp only [Act.put, List.setIfInBounds_toArray, List.set_cons_zero, List.set_cons_succ])
      refine wpAnyH_pick 3 (v := ?_) rfl (by kernel_rfl) (by kernel_rfl) (by kernel_rfl) (fun _ _ _ h => h) (by assumption) (by rfl) ?_ ?_
      rotate_left
      · (intro w hSw; (try dsimp only at hSw); go_simp) <;> (with_reducible rfl)
      (try simp only [Act.put, List.setIfInBounds_toArray, List.set_cons_zero, List.set_cons_succ])
      refine wpAnyH_pick 4 (v := ?_) rfl (by kernel_rfl) (by kernel_rfl) (by kernel_rfl) (fun _ _ _ h => h) (by assumption) (by rfl) ?_ ?_
      rotate_left
      · (intro w hSw; (try dsimp only at hSw); go_simp) <;> (with_reducible rfl)
      (try simp only [Act.put, List.setIfInBounds_toArray, List.set_cons_zero, List.set_cons_succ])
      refine wpAnyH_pick 5 (v := ?_) rfl (by kernel_rfl) (by kernel_rfl) (by kernel_rfl) (fun _ _ _ h => h) (by assumption) (by rfl) ?_ ?_
      rotate_left
      · (intro w hSw; (try dsimp only at hSw); go_simp) <;> (with_reducible rfl)
      (try simp only [Act.put, List.setIfInBounds_toArray, List.set_cons_zero, List.set_cons_succ])
      refine wpAnyH_pick 6 (v := ?_) rfl (by kernel_rfl) (by kernel_rfl) (by kernel_rfl) (fun _ _ _ h => h) (by assumption) (by rfl) ?_ ?_
      rotate_left
      · (intro w hSw; (try dsimp only at hSw); go_simp) <;> (with_reducible rfl)
      (try simp only [Act.put, List.setIfInBounds_toArray, List.set_cons_zero, List.set_cons_succ])
      refine wpAnyH_pick 7 (v := ?_) rfl (by kernel_rfl) (by kernel_rfl) (by kernel_rfl) (fun _ _ _ h => h) (by assumption) (by rfl) ?_ ?_
      rotate_left
      · (intro w hSw; (try dsimp only at hSw); go_simp) <;> (with_reducible rfl)
      (try simp only [Act.put, List.setIfInBounds_toArray, List.set_cons_zero, List.set_cons_succ])
      refine wpAnyH_pick 8 (v := ?_) rfl (by kernel_rfl) (by kernel_rfl) (by kernel_rfl) (fun _ _ _ h => h) (by assumption) (by rfl) ?_ ?_
      rotate_left
      · (intro w hSw; (try dsimp only at hSw); go_simp) <;> (with_reducible rfl)
      (try simp only [Act.put, List.setIfInBounds_toArray, List.set_cons_zero, List.set_cons_succ])
      refine wpAnyH_pick 9 (v := ?_) rfl (by kernel_rfl) (by kernel_rfl) (by kernel_rfl) (fun _ _ _ h => h) (by assumption) (by rfl) ?_ ?_
      rotate_left
      · (intro w hSw; (try dsimp only at hSw); go_simp) <;> (with_reducible rfl)
      (try simp only [Act.put, List.setIfInBounds_toArray, List.set_cons_zero, List.set_cons_succ])
      refine wpAnyH_pick 10 (v := ?_) rfl (by kernel_rfl) (by kernel_rfl) (by kernel_rfl) (fun _ _ _ h => h) (by assumption) (by rfl) ?_ ?_
      rotate_left
      · (intro w hSw; (try dsimp only at hSw); go_simp) <;> (with_reducible rfl)
      (try simp only [Act.put, List.setIfInBounds_toArray, List.set_cons_zero, List.set_cons_succ])
      refine wpAnyH_pick 11 (v := ?_) rfl (by kernel_rfl) (by kernel_rfl) (by kernel_rfl) (fun _ _ _ h => h) (by assumption) (by rfl) ?_ ?_
      rotate_left
      · (intro w hSw; (try dsimp only at hSw); go_simp) <;> (with_reducible rfl)
      (try simp only [Act.put, List.setIfInBounds_toArray, List.set_cons_zero, List.set_cons_succ])
      refine wpAnyH_pick 12 (v := ?_) rfl (by kernel_rfl) (by kernel_rfl) (by kernel_rfl) (fun _ _ _ h => h) (by assumption) (by rfl) ?_ ?_
      rotate_left
      · (intro w hSw; (try dsimp only at hSw); go_simp) <;> (with_reducible rfl)
      (try simp only [Act.put, List.setIfInBounds_toArray, List.set_cons_zero, List.set_cons_succ])
      refine wpAnyH_pick 13 (v := ?_) rfl (by kernel_rfl) (by kernel_rfl) (by kernel_rfl) (fun _ _ _ h => h) (by assumption) (by rfl) ?_ ?_
      rotate_left
      · (intro w hSw; (try dsimp only at hSw); go_simp) <;> (with_reducible rfl)
      (try simp only [Act.put, List.setIfInBounds_toArray, List.set_cons_zero, List.set_cons_succ])
      refine wpAnyH_pick 14 (v := ?_) rfl (by kernel_rfl) (by kernel_rfl) (by kernel_rfl) (fun _ _ _ h => h) (by assumption) (by rfl) ?_ ?_
      rotate_left
      · (intro w hSw; (try dsimp only at hSw); go_simp) <;> (with_reducible rfl)
      (try simp only [Act.put, List.setIfInBounds_toArray, List.set_cons_zero, List.set_cons_succ])
      refine wpAnyH_pick 15 (v := ?_) rfl (by kernel_rfl) (by kernel_rfl) (by kernel_rfl) (fun _ _ _ h => h) (by assumption) (by rfl) ?_ ?_
      rotate_left
      · (intro w hSw; (try dsimp only at hSw); go_simp) <;> (with_reducible rfl)
      (try simp only [Act.put, List.setIfInBounds_toArray, List.set_cons_zero, List.set_cons_succ])
      refine wpAnyH_pick 16 (v := ?_) rfl (by kernel_rfl) (by kernel_rfl) (by kernel_rfl) (fun _ _ _ h => h) (by assumption) (by rfl) ?_ ?_
      rotate_left
      · (intro w hSw; (try dsimp only at hSw); go_simp) <;> (with_reducible rfl)
      (try simp only [Act.put, List.setIfInBounds_toArray, List.set_cons_zero, List.set_cons_succ])
      refine wpAnyH_ready (rs := [17]) (by kernel_rfl) (by simp) ?_
      refine AllReadyH_pick rfl (fun K hK => ?_) (AllReadyH.nil)
      skip
      go_simp
      refine hK.out _ _ ?_ (fun hHeld => ?_)
      · (repeat' (first | trivial | assumption | refine ⟨?_, ?_⟩))
      clear hK K
      (try simp only [Act.put, List.setIfInBounds_toArray, List.set_cons_zero, List.set_cons_succ])
      refine wpAnyH_done (by kernel_rfl) ?_ _
      skip
      have h_w5 : L3 w (wr.setCell ⟨gx, i, none⟩ (.int .u8 (Ux.toNat : Int))).drew gx gy gz n ((filled n i fx).set i Ux) (filled n i fy) (filled n i fz) := H0.out
      generalize (wr.setCell ⟨gx, i, none⟩ (.int .u8 (Ux.toNat : Int))).drew = w5 at h_w5 ⊢
      clear hHeld ka kb kc la lb lc d0 d1 H0
      have h0 := (h_w5.drew).setY (j := i) (by simp; exact hlt) Uy
      have k0 := Hcs.out _ (h_w5.drew).fr
      have k1 := Hcs.out _ h0.fr
      obtain ⟨⟨o0, d0⟩, d1, -⟩ := (h_w5.drew).y.cell8 (j := i) (by simp; exact hlt)
      have H0 := Lib.hid h0; clear h0
      obtain ⟨ka, kb, kc⟩ := k0
      obtain ⟨la, lb, lc⟩ := k1
      go_upto_region 10 with fail
      refine wp_region_held_drew (S := fun W => W.cell? (ada.add i) = some (.int .u8 (ua.toNat : Int)) ∧ W.cell? (adb.add i) = some (.int .u8 (ub.toNat : Int)) ∧ W.cell? (adc.add i) = some (.int .u8 (uc.toNat : Int))) (by kernel_rfl) ?_ (fun hHeld => ?_)
      · (repeat' (first | trivial | assumption | refine ⟨?_, ?_⟩))
      refine wpAnyH_pick 0 (v := ?_) rfl (by kernel_rfl) (by kernel_rfl) (by kernel_rfl) (fun _ _ _ h => h) (by assumption) (by rfl) ?_ ?_
      rotate_left
      · (intro w hSw; (try dsimp only at hSw); go_simp) <;> (with_reducible rfl)
      (try simp only [Act.put, List.setIfInBounds_toArray, List.set_cons_zero, List.set_cons_succ])
      refine wpAnyH_pick 1 (v := ?_) rfl (by kernel_rfl) (by kernel_rfl) (by kernel_rfl) (fun _ _ _ h => h) (by assumption) (by rfl) ?_ ?_
      rotate_left
      · (intro w hSw; (try dsimp only at hSw); go_simp) <;> (with_reducible rfl)
      (try simp only [Act.put, List.setIfInBounds_toArray, List.set_cons_zero, List.set_cons_succ])
      refine wpAnyH_pick 2 (v := ?_) rfl (by kernel_rfl) (by kernel_rfl) (by kernel_rfl) (fun _ _ _ h => h) (by assumption) (by rfl) ?_ ?_
      rotate_left
      · (intro w hSw; (try dsimp only at hSw); go_simp) <;> (with_reducible rfl)
      (try simp only [Act.put, List.setIfInBounds_toArray, List.set_cons_zero, List.set_cons_succ])
      refine wpAnyH_pick 3 (v := ?_) rfl (by kernel_rfl) (by kernel_rfl) (by kernel_rfl) (fun _ _ _ h => h) (by assumption) (by rfl) ?_ ?_
      rotate_left
      · (intro w hSw; (try dsimp only at hSw); go_simp) <;> (with_reducible rfl)
      (try simp only [Act.put, List.setIfInBounds_toArray, List.set_cons_zero, List.set_cons_succ])
      refine wpAnyH_pick 4 (v := ?_) rfl (by kernel_rfl) (by kernel_rfl) (by kernel_rfl) (fun _ _ _ h => h) (by assumption) (by rfl) ?_ ?_
      rotate_left
      · (intro w hSw; (try dsimp only at hSw); go_simp) <;> (with_reducible rfl)
      (try simp only [Act.put, List.setIfInBounds_toArray, List.set_cons_zero, List.set_cons_succ])
      refine wpAnyH_pick 5 (v := ?_) rfl (by kernel_rfl) (by kernel_rfl) (by kernel_rfl) (fun _ _ _ h => h) (by assumption) (by rfl) ?_ ?_
      rotate_left
      · (intro w hSw; (try dsimp only at hSw); go_simp) <;> (with_reducible rfl)
      (try simp only [Act.put, List.setIfInBounds_toArray, List.set_cons_zero, List.set_cons_succ])
      refine wpAnyH_pick 6 (v := ?_) rfl (by kernel_rfl) (by kernel_rfl) (by kernel_rfl) (fun _ _ _ h => h) (by assumption) (by rfl) ?_ ?_
      rotate_left
      · (intro w hSw; (try dsimp only at hSw); go_simp) <;> (with_reducible rfl)
      (try simp only [Act.put, List.setIfInBounds_toArray, List.set_cons_zero, List.set_cons_succ])
      refine wpAnyH_pick 7 (v := ?_) rfl (by kernel_rfl) (by kernel_rfl) (by kernel_rfl) (fun _ _ _ h => h) (by assumption) (by rfl) ?_ ?_
      rotate_left
      · (intro w hSw; (try dsimp only at hSw); go_simp) <;> (with_reducible rfl)
      (try simp only [Act.put, List.setIfInBounds_toArray, List.set_cons_zero, List.set_cons_succ])
      refine wpAnyH_pick 8 (v := ?_) rfl (by kernel_rfl) (by kernel_rfl) (by kernel_rfl) (fun _ _ _ h => h) (by assumption) (by rfl) ?_ ?_
      rotate_left
      · (intro w hSw; (try dsimp only at hSw); go_simp) <;> (with_reducible rfl)
      (try simp only [Act.put, List.setIfInBounds_toArray, List.set_cons_zero, List.set_cons_succ])
      refine wpAnyH_pick 9 (v := ?_) rfl (by kernel_rfl) (by kernel_rfl) (by kernel_rfl) (fun _ _ _ h => h) (by assumption) (by rfl) ?_ ?_
      rotate_left
      · (intro w hSw; (try dsimp only at hSw); go_simp) <;> (with_reducible rfl)
      (try simp only [Act.put, List.setIfInBounds_toArray, List.set_cons_zero, List.set_cons_succ])
      refine wpAnyH_pick 10 (v := ?_) rfl (by kernel_rfl) (by kernel_rfl) (by kernel_rfl) (fun _ _ _ h => h) (by assumption) (by rfl) ?_ ?_
      rotate_left
      · (intro w hSw; (try dsimp only at hSw); go_simp) <;> (with_reducible rfl)
      (try simp only [Act.put, List.setIfInBounds_toArray, List.set_cons_zero, List.set_cons_succ])
      refine wpAnyH_pick 11 (v := ?_) rfl (by kernel_rfl) (by kernel_rfl) (by kernel_rfl) (fun _ _ _ h => h) (by assumption) (by rfl) ?_ ?_
      rotate_left
      · (intro w hSw; (try dsimp only at hSw); go_simp) <;> (with_reducible rfl)
      (try simp only [Act.put, List.setIfInBounds_toArray, List.set_cons_zero, List.set_cons_succ])
      refine wpAnyH_ready (rs := [12]) (by kernel_rfl) (by simp) ?_
      refine AllReadyH_pick rfl (fun K hK => ?_) (AllReadyH.nil)
      skip
      go_simp
      refine hK.out _ _ ?_ (fun hHeld => ?_)
      · (repeat' (first | trivial | assumption | refine ⟨?_, ?_⟩))
      clear hK K
      (try simp only [Act.put, List.setIfInBounds_toArray, List.set_cons_zero, List.set_cons_succ])
      refine wpAnyH_done (by kernel_rfl) ?_ _
      skip
      have h_w6 : L3 w (w5.setCell ⟨gy, i, none⟩ (.int .u8 (Uy.toNat : Int))).drew gx gy gz n ((filled n i fx).set i Ux) ((filled n i fy).set i Uy) (filled n i fz) := H0.out
      generalize (w5.setCell ⟨gy, i, none⟩ (.int .u8 (Uy.toNat : Int))).drew = w6 at h_w6 ⊢
      clear hHeld ka kb kc la lb lc d0 d1 H0
      have h0 := (h_w6.drew).setZ (j := i) (by simp; exact hlt) Uz
      have k0 := Hcs.out _ (h_w6.drew).fr
      have k1 := Hcs.out _ h0.fr
      obtain ⟨⟨o0, d0⟩, d1, -⟩ := (h_w6.drew).z.cell8 (j := i) (by simp; exact hlt)
      have H0 := Lib.hid h0; clear h0
      obtain ⟨ka, kb, kc⟩ := k0
      obtain ⟨la, lb, lc⟩ := k1
      go_upto_region 11 with fail
      refine wp_region_held_drew (S := fun W => W.cell? (ada.add i) = some (.int .u8 (ua.toNat : Int)) ∧ W.cell? (adb.add i) = some (.int .u8 (ub.toNat : Int)) ∧ W.cell? (adc.add i) = some (.int .u8 (uc.toNat : Int))) (by kernel_rfl) ?_ (fun hHeld => ?_)
      · (repeat' (first | trivial | assumption | refine ⟨?_, ?_⟩))
      refine wpAnyH_pick 0 (v := ?_) rfl (by kernel_rfl) (by kernel_rfl) (by kernel_rfl) (fun _ _ _ h => h) (by assumption) (by rfl) ?_ ?_
      rotate_left
      · (intro w hSw; (try dsimp only at hSw); go_simp) <;> (with_reducible rfl)
      (try simp only [Act.put, List.setIfInBounds_toArray, List.set_cons_zero, List.set_cons_succ])
      refine wpAnyH_pick 1 (v := ?_) rfl (by kernel_rfl) (by kernel_rfl) (by kernel_rfl) (fun _ _ _ h => h) (by assumption) (by rfl) ?_ ?_
      rotate_left
      · (intro w hSw; (try dsimp only at hSw); go_simp) <;> (with_reducible rfl)
      (try simp only [Act.put, List.setIfInBounds_toArray, List.set_cons_zero, List.set_cons_succ])
      refine wpAnyH_pick 2 (v := ?_) rfl (by kernel_rfl) (by kernel_rfl) (by kernel_rfl) (fun _ _ _ h => h) (by assumption) (by rfl) ?_ ?_
      rotate_left
      · (intro w hSw; (try dsimp only at hSw); go_simp) <;> (with_reducible rfl)
      (try simp only [Act.put, List.setIfInBounds_toArray, List.set_cons_zero, List.set_cons_succ])
      refine wpAnyH_pick 3 (v := ?_) rfl (by kernel_rfl) (by kernel_rfl) (by kernel_rfl) (fun _ _ _ h => h) (by assumption) (by rfl) ?_ ?_
      rotate_left
      · (intro w hSw; (try dsimp only at hSw); go_simp) <;> (with_reducible rfl)
      (try simp only [Act.put, List.setIfInBounds_toArray, List.set_cons_zero, List.set_cons_succ])
      refine wpAnyH_pick 4 (v := ?_) rfl (by kernel_rfl) (by kernel_rfl) (by kernel_rfl) (fun _ _ _ h => h) (by assumption) (by rfl) ?_ ?_
      rotate_left
      · (intro w hSw; (try dsimp only at hSw); go_simp) <;> (with_reducible rfl)
      (try simp only [Act.put, List.setIfInBounds_toArray, List.set_cons_zero, List.set_cons_succ])
      refine wpAnyH_pick 5 (v := ?_) rfl (by kernel_rfl) (by kernel_rfl) (by kernel_rfl) (fun _ _ _ h => h) (by assumption) (by rfl) ?_ ?_
      rotate_left
      · (intro w hSw; (try dsimp only at hSw); go_simp) <;> (with_reducible rfl)
      (try simp only [Act.put, List.setIfInBounds_toArray, List.set_cons_zero, List.set_cons_succ])
      refine wpAnyH_pick 6 (v := ?_) rfl (by kernel_rfl) (by kernel_rfl) (by kernel_rfl) (fun _ _ _ h => h) (by assumption) (by rfl) ?_ ?_
      rotate_left
      · (intro w hSw; (try dsimp only at hSw); go_simp) <;> (with_reducible rfl)
      (try simp only [Act.put, List.setIfInBounds_toArray, List.set_cons_zero, List.set_cons_succ])
      refine wpAnyH_pick 7 (v := ?_) rfl (by kernel_rfl) (by kernel_rfl) (by kernel_rfl) (fun _ _ _ h => h) (by assumption) (by rfl) ?_ ?_
      rotate_left
      · (intro w hSw; (try dsimp only at hSw); go_simp) <;> (with_reducible rfl)
      (try simp only [Act.put, List.setIfInBounds_toArray, List.set_cons_zero, List.set_cons_succ])
      refine wpAnyH_pick 8 (v := ?_) rfl (by kernel_rfl) (by kernel_rfl) (by kernel_rfl) (fun _ _ _ h => h) (by assumption) (by rfl) ?_ ?_
      rotate_left
      · (intro w hSw; (try dsimp only at hSw); go_simp) <;> (with_reducible rfl)
      (try simp only [Act.put, List.setIfInBounds_toArray, List.set_cons_zero, List.set_cons_succ])
      refine wpAnyH_pick 9 (v := ?_) rfl (by kernel_rfl) (by kernel_rfl) (by kernel_rfl) (fun _ _ _ h => h) (by assumption) (by rfl) ?_ ?_
      rotate_left
      · (intro w hSw; (try dsimp only at hSw); go_simp) <;> (with_reducible rfl)
      (try simp only [Act.put, List.setIfInBounds_toArray, List.set_cons_zero, List.set_cons_succ])
      refine wpAnyH_pick 10 (v := ?_) rfl (by kernel_rfl) (by kernel_rfl) (by kernel_rfl) (fun _ _ _ h => h) (by assumption) (by rfl) ?_ ?_
      rotate_left
      · (intro w hSw; (try dsimp only at hSw); go_simp) <;> (with_reducible rfl)
      (try simp only [Act.put, List.setIfInBounds_toArray, List.set_cons_zero, List.set_cons_succ])
      refine wpAnyH_pick 11 (v := ?_) rfl (by kernel_rfl) (by kernel_rfl) (by kernel_rfl) (fun _ _ _ h => h) (by assumption) (by rfl) ?_ ?_
      rotate_left
      · (intro w hSw; (try dsimp only at hSw); go_simp) <;> (with_reducible rfl)
      (try simp only [Act.put, List.setIfInBounds_toArray, List.set_cons_zero, List.set_cons_succ])
      refine wpAnyH_ready (rs := [12]) (by kernel_rfl) (by simp) ?_
      refine AllReadyH_pick rfl (fun K hK => ?_) (AllReadyH.nil)
      skip
      go_simp
      refine hK.out _ _ ?_ (fun hHeld => ?_)
      · (repeat' (first | trivial | assumption | refine ⟨?_, ?_⟩))
      clear hK K
      (try simp only [Act.put, List.setIfInBounds_toArray, List.set_cons_zero, List.set_cons_succ])
      refine wpAnyH_done (by kernel_rfl) ?_ _
      skip
      have h_w7 : L3 w (w6.setCell ⟨gz, i, none⟩ (.int .u8 (Uz.toNat : Int))).drew gx gy gz n ((filled n i fx).set i Ux) ((filled n i fy).set i Uy) ((filled n i fz).set i Uz) := H0.out
      generalize (w6.setCell ⟨gz, i, none⟩ (.int .u8 (Uz.toNat : Int))).drew = w7 at h_w7 ⊢
      clear hHeld ka kb kc la lb lc d0 d1 H0
      rw [← FX.out, ← FY.out, ← FZ.out, filled_set, filled_set, filled_set] at h_w7
      go_wp2_with fail
      exact ⟨⟨i + 1, by omega, by simp, h_w7⟩, by simp [intOf]; omega⟩
    · obtain rfl : i = n := by omega
      have eg : decide (i < i) = false := by simp
      have HM := Lib.hid hL; clear hL
      have ex : filled i i fx = List.zipWith (· ^^^ ·) (List.zipWith (· ^^^ ·) ra bs) cs := by
        rw [filled_all, Hfx.out, ← zip_getD _ cs (by simp; rw [Hal.out, Hbl.out, Hcl.out]; omega), show (List.zipWith (· ^^^ ·) ra bs).length = i by simp; rw [Hal.out, Hbl.out]; omega]
        apply List.map_congr_left
        intro j hj
        have hj : j < i := by simpa using hj
        have ja : j < ra.length := by rw [Hal.out]; exact hj
        have jb : j < bs.length := by rw [Hbl.out]; exact hj
        simp [List.getD_eq_getElem?_getD, ja, jb, List.getElem?_zipWith]
      have ey : filled i i fy = List.zipWith (· ^^^ ·) ra cs := by
        rw [filled_all, Hfy.out, ← zip_getD ra cs (by rw [Hal.out, Hcl.out]), Hal.out]
      have ez : filled i i fz = List.zipWith (· ^^^ ·) bs cs := by
        rw [filled_all, Hfz.out, ← zip_getD bs cs (by rw [Hbl.out, Hcl.out]), Hbl.out]
      have sx := sum_three ra bs cs (by rw [Hal.out, Hbl.out]) (by rw [Hal.out, Hcl.out])
      have sy := sum_two ra cs (by rw [Hal.out, Hcl.out])
      have sz := sum_two bs cs (by rw [Hbl.out, Hcl.out])
      rw [← ex] at sx
      rw [← ey] at sy
      rw [← ez] at sz
      have HAl := Lib.hid (alive_behind wr)
      have HA := Lib.hid (sum_behind (HSa.out.fr0 HM.out.fr) (by rw [Hal.out]; omega))
      have HB := Lib.hid (sum_behind (HSb.out.fr0 HM.out.fr) (by rw [Hbl.out]; omega))
      have HC := Lib.hid (sum_behind (HSc.out.fr0 HM.out.fr) (by rw [Hcl.out]; omega))
      have HX := Lib.hid (sum_behind HM.out.x.src (by simp; omega))
      have HY := Lib.hid (sum_behind HM.out.y.src (by simp; omega))
      have HZ := Lib.hid (sum_behind HM.out.z.src (by simp; omega))
      have HF := Lib.hid HM.out.fr
      rw [sx] at HX
      clear sx ex ey ez
      generalize sumOf ra = SA at HA HX sy
      generalize sumOf bs = SB at HB HX sz
      generalize sumOf cs = SC at HC HX
      generalize sumOf (filled i i fy) = SY at HY sy
      generalize sumOf (filled i i fz) = SZ at HZ sz
      generalize run 0#32 cs = T at sy sz
      obtain ⟨P1, hP1⟩ : ∃ P1, P1 = SA ^^^ SB := ⟨_, rfl⟩
      obtain ⟨P2, hP2⟩ : ∃ P2, P2 = P1 ^^^ SC := ⟨_, rfl⟩
      have q1 := xor_w32 SA SB
      have q2 := xor_w32 P1 SC
      have q3 := xor_w32 SA SY
      have q4 := xor_w32 SB SZ
      rw [sy] at q3
      rw [sz] at q4
      rw [← hP1] at q1 HX
      rw [← hP2] at q2 HX
      clear sy sz hP1 hP2 HM HSa HSb HSc Hfx Hfy Hfz HL hi hlt
      have F10 := Lib.hid (Fr.refl [] wr)
      go_wp2_with fail
      refine (HAl.out _ F10.out).mono ?_
      rintro e w11 ⟨rfl, f11⟩
      have F11 := Lib.hid f11; clear f11
      go_wp2_with fail
      refine (HX.out _ F11.out).mono ?_
      rintro e w12 ⟨rfl, f12⟩
      have F12 := Lib.hid f12; clear f12
      go_wp2_with fail
      refine (HA.out _ F12.out).mono ?_
      rintro e w13 ⟨rfl, f13⟩
      have F13 := Lib.hid f13; clear f13
      go_wp2_with fail
      refine (HB.out _ F13.out).mono ?_
      rintro e w14 ⟨rfl, f14⟩
      have F14 := Lib.hid f14; clear f14
      go_wp2_with fail
      refine (HC.out _ F14.out).mono ?_
      rintro e w15 ⟨rfl, f15⟩
      have F15 := Lib.hid f15; clear f15
      go_wp2_with fail
      refine (HA.out _ F15.out).mono ?_
      rintro e w16 ⟨rfl, f16⟩
      have F16 := Lib.hid f16; clear f16
      go_wp2_with fail
      refine (HY.out _ F16.out).mono ?_
      rintro e w17 ⟨rfl, f17⟩
      have F17 := Lib.hid f17; clear f17
      go_wp2_with fail
      refine (HB.out _ F17.out).mono ?_
      rintro e w18 ⟨rfl, f18⟩
      have F18 := Lib.hid f18; clear f18
      go_wp2_with fail
      refine (HZ.out _ F18.out).mono ?_
      rintro e w19 ⟨rfl, f19⟩
      have F19 := Lib.hid f19; clear f19
      go_wp2_with fail
      go_ret
      exact ⟨rfl, HF.out.trans F19.out (by simp)⟩

set_option maxRecDepth 100000 in
theorem linear_lifted (os : Os) (started : os.Started) (H : Type) (enc : TypeId × Value → H) :
    ReturnsInHanded {} Try.checked os 8 .any (Rows.crcLinearSpec.pre6 enc Try.prog Try.f8 Rows.crcLinearRow.domain false) (Rows.crcLinearSpec.post enc Try.prog Try.f8 false true false false) := by
  refine law_lift (C := Try.checked) own_knob started (by kernel_rfl) Try.func8
    (ChangeSpec.witness6 (enc := enc) (C := Try.checked) false ⟨#[], #[.slice none 0 0, .slice none 0 0, .slice none 0 0], []⟩ 8 (by kernel_rfl) (by kernel_rfl) (by kernel_rfl) (by kernel_rfl))
    laid_out rfl rfl Try.underlying4 (of_decide_eq_true (by kernel_rfl)) ?_
  intro W base args ds before hval0 hA0 hlt
  have hval : ∀ (j : Nat) t v, Try.f8.params[j]? = some t → args[j]? = some v → Value.okWide Try.prog W .any base t v := hval0
  have hA : DataW.TrodAll enc Try.prog W 0 (fun _ => true) true Try.f8.params.toList args.toList ds before := hA0
  rw [Try.params8] at hA hval
  obtain ⟨v0, v1, v2, d0, d1, d2, p0, p1, p2, rfl, rfl, -, ⟨fuel0, h0⟩, ⟨fuel1, h1⟩, ⟨fuel2, h2⟩⟩ := trodAll_three hA
  obtain ⟨A0, l0, c0, rfl⟩ := okWide_slice Try.underlying22 (hval 0 _ _ rfl rfl)
  obtain ⟨A1, l1, c1, rfl⟩ := okWide_slice Try.underlying22 (hval 1 _ _ rfl rfl)
  obtain ⟨A2, l2, c2, rfl⟩ := okWide_slice Try.underlying22 (hval 2 _ _ rfl rfl)
  obtain ⟨A, na, ca, ra, e, hal, hna, hsa⟩ := open_bytes (v := .slice A0 l0 c0) h0
  obtain ⟨B, nb, cb, bs, e1, hbl, hnb, hsb⟩ := open_bytes (v := .slice A1 l1 c1) h1
  obtain ⟨C, nc, cc, cs, e2, hcl, hnc, hsc⟩ := open_bytes (v := .slice A2 l2 c2) h2
  rw [e, e1, e2]
  simp only [maxLen] at hna hnb hnc
  refine ⟨rfl, ?_⟩
  by_cases h : na ≤ 300 ∧ nb = na ∧ nc = na
  · obtain ⟨h3, rfl, rfl⟩ := h
    exact (linear_any A nc ca B cb C cc ra bs cs W hsa hal hsb hbl hsc hcl h3).mono fun e W' ⟨he, hf⟩ => ⟨he, hf.below (by simp) (Nat.le_refl _)⟩
  · exact (linear_out A na ca B nb cb C nc cc W (by omega) (by omega) (by omega) h).mono fun e W' ⟨he, hf⟩ => ⟨he, hf.below (by simp) (Nat.le_refl _)⟩

theorem linear_holds : Rows.CrcLinearSaid :=
  OpenClaim.holds_of_wide 8 Try.f8 rfl rfl rfl rfl rfl rfl rfl ⟨rfl, rfl, rfl, rfl, rfl⟩ rfl rfl rfl rfl rfl (by kernel_rfl) Try.func8 (by kernel_rfl)
    (of_decide_eq_true (by kernel_rfl)) (by unfold Func.isWrapper; first | (rw [if_pos (by decide +kernel)]; kernel_rfl) | (rw [if_neg (by decide +kernel)]; exact ⟨rfl, rfl⟩))
    (fun os started H enc _ => linear_lifted os started H enc)
#print axioms linear_holds
end Go.Proofs.Ytdpkhhmmoiianaa
