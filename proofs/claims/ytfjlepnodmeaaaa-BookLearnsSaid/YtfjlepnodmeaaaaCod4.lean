/-
  The program's decoder: split, take, Open, End; conditions: the numbers are bounded as named.
-/
import Derived.Test.YtfjlepnodmeaaaaCod2
import Derived.Test.YtfjlepnodmeaaaaRef4d
namespace Go.Proofs.Ytfjlepnodmeaaaa
open Go.RowKit

theorem split_any (q : Nat) (v : Value) (rest r B : Nat) (w : World) (h : Blk w q 81 #[v, .int .u32 (rest : Int), .int .u32 (r : Int)]) (hB : B ≤ r) (hr : r ≤ 4294967295) (hrest : rest < 4294967296) :
    Calls Try.prog 71 #[pt q, .int .u32 (B : Int)] w fun e w' => Fr [q] w w' ∧
      ((rest < B ∧ e = .returned (.int .i64 0) ∧ Blk w' q 81 #[v, .int .u32 (rest : Int), .int .u32 (B : Int)]) ∨
      (B ≤ rest ∧ e = .returned (.int .i64 1) ∧ Blk w' q 81 #[v, .int .u32 ((rest - B : Nat) : Int), .int .u32 ((r - B : Nat) : Int)])) := by
  have c1 := h.cell 1
  have c2 := h.cell 2
  have f1 := h.frozen 1
  have f2 := h.frozen 2
  have hl := h.lt
  simp at c1 c2
  have H := Lib.hid h
  clear h
  by_cases hb : rest < B
  · have eb : decide (rest < B) = true := by simp [hb]
    have hB2 := H.out.set_ 2 (.int .u32 (B : Int))
    have HB2 := Lib.hid hB2
    have Hb := Lib.hid hb
    clear hB2 hb
    go_enter Try.func71, Try.ntmps71
    go_wp2_with fail
    go_ret
    exact ⟨(Fr.refl _ _).setCell (.inl (by simp)) _, .inl ⟨Hb.out, rfl, by simpa using HB2.out⟩⟩
  · have eb : decide (rest < B) = false := by simp; omega
    obtain ⟨R1, hR1⟩ : ∃ R1, R1 = rest - B := ⟨_, rfl⟩
    obtain ⟨K1, hK1⟩ : ∃ K1, K1 = r - B := ⟨_, rfl⟩
    rw [← hR1, ← hK1]
    have eR : (rest : Int) - (B : Int) = (R1 : Int) := by omega
    have eK : (r : Int) - (B : Int) = (K1 : Int) := by omega
    have h3 := H.out.set_ 1 (.int .u32 (R1 : Int))
    have k2 := h3.cell 2
    have kf := h3.frozen 2
    simp at k2
    have h4 := h3.set_ 2 (.int .u32 (K1 : Int))
    have H4 := Lib.hid h4
    have Hb := Lib.hid hb
    have lR : R1 ≤ 4294967295 := by omega
    have lK : K1 ≤ 4294967295 := by omega
    clear h3 h4 hb hR1 hK1
    go_enter Try.func71, Try.ntmps71
    go_wp2_with fail
    go_ret
    exact ⟨((Fr.refl _ _).setCell (.inl (by simp)) _).setCell (.inl (by simp)) _, .inr ⟨by have := Hb.out; omega, rfl, by simpa using H4.out⟩⟩

theorem take_none (q : Nat) (v : Value) (rest r : Nat) (w : World) (h : Blk w q 81 #[v, .int .u32 (rest : Int), .int .u32 (r : Int)]) (hs : Src w v []) :
    Calls Try.prog 72 #[pt q] w fun e w' => e = .returned (.bool false) ∧ w' = w := by
  obtain ⟨A, c, rfl⟩ : ∃ A c, v = .slice A 0 c := by
    rcases hs with ⟨rfl, -⟩ | ⟨ad, c, rfl, -⟩
    · exact ⟨_, _, rfl⟩
    · exact ⟨_, _, rfl⟩
  have c0 := h.cell 0
  have hl := h.lt
  simp at c0
  clear h hs
  go_enter Try.func72, Try.ntmps72
  go_wp2_with fail
  go_ret
  exact ⟨rfl, rfl⟩

theorem or_256 (R : Nat) (x : UInt8) (h : R < 16777216) : bits .or .u32 ((R * 256 : Nat) : Int) (x.toNat : Int) = ((256 * R + x.toNat : Nat) : Int) := by
  have hx := x.toNat_lt
  rw [u32_or_nat _ _ (by omega) (by omega)]
  congr 1
  have := Nat.two_pow_add_eq_or_of_lt (i := 8) (b := x.toNat) (by omega) R
  rw [Nat.mul_comm R 256]
  exact this.symm

set_option maxRecDepth 20000 in
theorem take_one (q : Nat) (v : Value) (rest r : Nat) (x : UInt8) (ys : List UInt8) (w : World) (h : Blk w q 81 #[v, .int .u32 (rest : Int), .int .u32 (r : Int)]) (hs : Src w v ((x :: ys).map B8)) (hn : v.ownBlock ≠ some q) (hr : r < 16777216) (hrest : rest < r) :
    Calls Try.prog 72 #[pt q] w fun e w' => e = .returned (.bool true) ∧ ∃ v', Blk w' q 81 #[v', .int .u32 ((256 * rest + x.toNat : Nat) : Int), .int .u32 ((r * 256 : Nat) : Int)] ∧ Src w' v' (ys.map B8) ∧ v'.ownBlock = v.ownBlock ∧ Fr [q] w w' := by
  obtain ⟨ad, c, rfl, hc, hcell⟩ : ∃ ad c, v = .slice (some ad) (ys.length + 1) c ∧ ys.length + 1 ≤ c ∧ w.cell? ad = some (.int .u8 (x.toNat : Int)) := by
    rcases hs with ⟨rfl, h0⟩ | ⟨ad, c, rfl, hc, hx⟩
    · cases h0
    · refine ⟨ad, c, by simp, by simpa using hc, ?_⟩
      have := hx 0 (B8 x) rfl
      rw [show ad.add 0 = ad by simp [Addr.add]] at this
      exact this
  have hdrop := hs.drop (k := 1) (by omega)
  obtain ⟨n, hnn⟩ : ∃ n, n = ys.length := ⟨_, rfl⟩
  rw [← hnn] at h hc hdrop hs
  have c0 := h.cell 0
  have c1 := h.cell 1
  have c2 := h.cell 2
  have f2 := h.frozen 2
  have hl := h.lt
  simp at c0 c1 c2
  obtain ⟨M, hM⟩ : ∃ M, M = r * 256 := ⟨_, rfl⟩
  have eM : (r : Int) * 256 = (M : Int) := by omega
  have eM2 : (M : Int) % 4294967296 = (M : Int) := by omega
  obtain ⟨T, hT⟩ : ∃ T, T = rest * 256 := ⟨_, rfl⟩
  have eT : (rest : Int) * 256 = (T : Int) := by omega
  have eT2 : (T : Int) % 4294967296 = (T : Int) := by omega
  have eT3 : IntKind.wrap .u32 (T : Int) = (T : Int) := IntWalk.u32_in _ (by omega)
  obtain ⟨U, hU⟩ : ∃ U, U = 256 * rest + x.toNat := ⟨_, rfl⟩
  have eU := or_256 rest x (by omega)
  rw [← hT, ← hU] at eU
  have hxl := x.toNat_lt
  have ex : IntKind.wrap .u32 (x.toNat : Int) = (x.toNat : Int) := IntWalk.u32_in _ (by omega)
  have hlx := World.block_lt_of_cell? w _ hcell
  have e9 : (((n : Int) + 1) == 0) = false := by simp; omega
  have hne : ad.block ≠ q := by simpa [Value.ownBlock] using hn
  have h3 := h.set_ 2 (.int .u32 (M : Int))
  generalize hw3 : w.setCell ⟨q, 2, none⟩ (.int .u32 (M : Int)) = w3 at h3
  have hF3 : Fr [q] w w3 := by rw [← hw3]; exact (Fr.refl _ _).setCell (.inl (by simp)) _
  have hcell3 : w3.cell? ad = some (.int .u8 (x.toNat : Int)) := by rw [hF3.cell hlx (by simpa using hne)]; exact hcell
  have Hw3 := Lib.hid hw3
  have H := Lib.hid h
  have HS := Lib.hid hs
  have HD := Lib.hid hdrop
  have H3 := Lib.hid h3
  have HF3 := Lib.hid hF3
  have HM := Lib.hid hM
  have HU := Lib.hid hU
  have HT := Lib.hid hT
  have Hnn := Lib.hid hnn
  clear h hs hdrop h3 hF3 hM hU hT hnn hw3
  go_enter Try.func72, Try.ntmps72
  go_upto_region 4 with fail
  rw [Hw3.out]
  clear c0 c1 c2 f2 hl hcell Hw3
  have k0 := H3.out.drew.cell 0
  have k1 := H3.out.drew.cell 1
  have g1 := H3.out.drew.frozen 1
  have hl3 := H3.out.drew.lt
  have kx : w3.drew.cell? ad = some (.int .u8 (x.toNat : Int)) := hcell3
  simp at k0 k1
  have h5 := H3.out.drew.set_ 1 (.int .u32 (U : Int))
  have h5' : Blk (w3.drew.setCell ⟨q, 1, none⟩ (.int .u32 (U : Int))) q 81 #[.slice (some ad) (n + 1) c, .int .u32 (U : Int), .int .u32 (M : Int)] := by simpa using h5
  have f5 : Fr [q] w (w3.drew.setCell ⟨q, 1, none⟩ (.int .u32 (U : Int))) := HF3.out.drew.setCell (.inl (by simp)) _
  have p0 := h5'.cell 0
  simp at p0
  have px : (w3.drew.setCell ⟨q, 1, none⟩ (.int .u32 (U : Int))).cell? ad = some (.int .u8 (x.toNat : Int)) := by rw [f5.cell hlx (by simpa using hne)]; rw [← hcell3]; exact (HF3.out.cell hlx (by simpa using hne)).symm
  have H5 := Lib.hid h5'
  have F5 := Lib.hid f5
  clear h5 h5' f5 hcell3
  refine wp_region_held_drew (S := fun W => W.cell? ⟨q, 0, none⟩ = some (.slice (some ad) (n + 1) c) ∧ W.cell? ad = some (.int .u8 (x.toNat : Int))) (by kernel_rfl) ?_ (fun hHeld => ?_)
  · (repeat' (first | trivial | assumption | refine ⟨?_, ?_⟩))
  refine wpAnyH_pick 0 (v := ?_) rfl (by kernel_rfl) (by kernel_rfl) (by kernel_rfl) (fun _ _ _ h => h) (by assumption) (by rfl) ?_ ?_
  rotate_left
  · (intro w hSw; (try dsimp only at hSw); go_simp) <;> (with_reducible rfl)
  (try simp only [Act.put, List.setIfInBounds_toArray, List.set_cons_zero, List.set_cons_succ])
  refine wpAnyH_pick 1 (v := ?_) rfl (by kernel_rfl) (by kernel_rfl) (by kernel_rfl) (fun _ _ _ h => h) (by assumption) (by rfl) ?_ ?_
  rotate_left
  · (intro w hSw; (try dsimp only at hSw); go_simp) <;> (with_reducible rfl)
  (try simp only [Act.put, List.setIfInBounds_toArray, List.set_cons_zero, List.set_cons_succ])
  refine wpAnyH_pick 2 (v := ?_) rfl (by kernel_rfl) (by kernel_rfl) (by kernel_rfl) (fun _ _ _ h => h) (by assumption) (by rfl) ?_ ?_
  rotate_left
  · (intro w hSw; (try dsimp only at hSw); go_simp) <;> (with_reducible rfl)
  (try simp only [Act.put, List.setIfInBounds_toArray, List.set_cons_zero, List.set_cons_succ])
  refine wpAnyH_pick 3 (v := ?_) rfl (by kernel_rfl) (by kernel_rfl) (by kernel_rfl) (fun _ _ _ h => h) (by assumption) (by rfl) ?_ ?_
  rotate_left
  · (intro w hSw; (try dsimp only at hSw); go_simp) <;> (with_reducible rfl)
  (try simp only [Act.put, List.setIfInBounds_toArray, List.set_cons_zero, List.set_cons_succ])
  refine wpAnyH_pick 6 (v := ?_) rfl (by kernel_rfl) (by kernel_rfl) (by kernel_rfl) (fun _ _ _ h => h) (by assumption) (by rfl) ?_ ?_
  rotate_left
  · (intro w hSw; (try dsimp only at hSw); go_simp) <;> (with_reducible rfl)
  (try simp only [Act.put, List.setIfInBounds_toArray, List.set_cons_zero, List.set_cons_succ])
  refine wpAnyH_pick 7 (v := ?_) rfl (by kernel_rfl) (by kernel_rfl) (by kernel_rfl) (fun _ _ _ h => h) (by assumption) (by rfl) ?_ ?_
  rotate_left
  · (intro w hSw; (try dsimp only at hSw); go_simp) <;> (with_reducible rfl)
  (try simp only [Act.put, List.setIfInBounds_toArray, List.set_cons_zero, List.set_cons_succ])
  refine wpAnyH_pick 8 (v := ?_) rfl (by kernel_rfl) (by kernel_rfl) (by kernel_rfl) (fun _ _ _ h => h) (by assumption) (by rfl) ?_ ?_
  rotate_left
  · (intro w hSw; (try dsimp only at hSw); go_simp) <;> (with_reducible rfl)
  (try simp only [Act.put, List.setIfInBounds_toArray, List.set_cons_zero, List.set_cons_succ])
  refine wpAnyH_pick 9 (v := ?_) rfl (by kernel_rfl) (by kernel_rfl) (by kernel_rfl) (fun _ _ _ h => h) (by assumption) (by rfl) ?_ ?_
  rotate_left
  · (intro w hSw; (try dsimp only at hSw); go_simp) <;> (with_reducible rfl)
  (try simp only [Act.put, List.setIfInBounds_toArray, List.set_cons_zero, List.set_cons_succ])
  refine wpAnyH_pick 10 (v := ?_) rfl (by kernel_rfl) (by kernel_rfl) (by kernel_rfl) (fun _ _ _ h => h) (by assumption) (by rfl) ?_ ?_
  rotate_left
  · (intro w hSw; (try dsimp only at hSw); go_simp) <;> (with_reducible rfl)
  (try simp only [Act.put, List.setIfInBounds_toArray, List.set_cons_zero, List.set_cons_succ])
  refine wpAnyH_pick 11 (v := ?_) rfl (by kernel_rfl) (by kernel_rfl) (by kernel_rfl) (fun _ _ _ h => h) (by assumption) (by rfl) ?_ ?_
  rotate_left
  · (intro w hSw; (try dsimp only at hSw); go_simp) <;> (with_reducible rfl)
  (try simp only [Act.put, List.setIfInBounds_toArray, List.set_cons_zero, List.set_cons_succ])
  refine wpAnyH_pick 12 (v := ?_) rfl (by kernel_rfl) (by kernel_rfl) (by kernel_rfl) (fun _ _ _ h => h) (by assumption) (by rfl) ?_ ?_
  rotate_left
  · (intro w hSw; (try dsimp only at hSw); go_simp) <;> (with_reducible rfl)
  (try simp only [Act.put, List.setIfInBounds_toArray, List.set_cons_zero, List.set_cons_succ])
  refine wpAnyH_ready (rs := [4]) (by kernel_rfl) (by simp) ?_
  refine AllReadyH_pick rfl (fun K hK => ?_) (AllReadyH.nil)
  skip
  go_simp
  refine hK.out _ _ ?_ (fun hHeld => ?_)
  · (repeat' (first | trivial | assumption | refine ⟨?_, ?_⟩))
  clear hK K
  (try simp only [Act.put, List.setIfInBounds_toArray, List.set_cons_zero, List.set_cons_succ])
  refine wpAnyH_pick 5 (v := ?_) rfl (by kernel_rfl) (by kernel_rfl) (by kernel_rfl) (fun _ _ _ h => h) (by assumption) (by rfl) ?_ ?_
  rotate_left
  · (intro w hSw; (try dsimp only at hSw); go_simp) <;> (with_reducible rfl)
  (try simp only [Act.put, List.setIfInBounds_toArray, List.set_cons_zero, List.set_cons_succ])
  refine wpAnyH_pick 13 (v := ?_) rfl (by kernel_rfl) (by kernel_rfl) (by kernel_rfl) (fun _ _ _ h => h) (by assumption) (by rfl) ?_ ?_
  rotate_left
  · (intro w hSw; (try dsimp only at hSw); go_simp) <;> (with_reducible rfl)
  (try simp only [Act.put, List.setIfInBounds_toArray, List.set_cons_zero, List.set_cons_succ])
  refine wpAnyH_pick 14 (v := ?_) rfl (by kernel_rfl) (by kernel_rfl) (by kernel_rfl) (fun _ _ _ h => h) (by assumption) (by rfl) ?_ ?_
  rotate_left
  · (intro w hSw; (try dsimp only at hSw); go_simp) <;> (with_reducible rfl)
  (try simp only [Act.put, List.setIfInBounds_toArray, List.set_cons_zero, List.set_cons_succ])
  refine wpAnyH_pick 15 (v := ?_) rfl (by kernel_rfl) (by kernel_rfl) (by kernel_rfl) (fun _ _ _ h => h) (by assumption) (by rfl) ?_ ?_
  rotate_left
  · (intro w hSw; (try dsimp only at hSw); go_simp) <;> (with_reducible rfl)
  (try simp only [Act.put, List.setIfInBounds_toArray, List.set_cons_zero, List.set_cons_succ])
  refine wpAnyH_ready (rs := [16]) (by kernel_rfl) (by simp) ?_
  refine AllReadyH_pick rfl (fun K hK => ?_) (AllReadyH.nil)
  skip
  go_simp
  refine hK.out _ _ ?_ (fun hHeld => ?_)
  · (repeat' (first | trivial | assumption | refine ⟨?_, ?_⟩))
  clear hK K
  (try simp only [Act.put, List.setIfInBounds_toArray, List.set_cons_zero, List.set_cons_succ])
  refine wpAnyH_done (by kernel_rfl) ?_ _
  skip
  have h7 : Blk (w3.setCell ⟨q, 1, none⟩ (.int .u32 (U : Int))).drew q 81 #[.slice (some ad) (n + 1) c, .int .u32 (U : Int), .int .u32 (M : Int)] := H5.out
  have f7 : Fr [q] w (w3.setCell ⟨q, 1, none⟩ (.int .u32 (U : Int))).drew := F5.out
  generalize (w3.setCell ⟨q, 1, none⟩ (.int .u32 (U : Int))).drew = w7 at h7 f7 ⊢
  clear hHeld k0 k1 g1 hl3 kx p0 px H5 F5
  have c0 := h7.cell 0
  have f0 := h7.frozen 0
  have hl7 := h7.lt
  simp at c0
  obtain ⟨A', hA⟩ : ∃ A', A' = (if c = 1 then some ad else Option.map (fun x => x.add 1) (some ad)) := ⟨_, rfl⟩
  have hd : Src w (.slice A' n (c - 1)) (ys.map B8) := by
    have := HD.out
    rw [hA]
    simpa using this
  have hblk : (Value.slice A' n (c - 1)).ownBlock = some ad.block := by
    rw [hA]
    split
    · rfl
    · simp [Value.ownBlock, addr_block]
  have h8 := h7.set_ 0 (.slice A' n (c - 1))
  have H8 := Lib.hid h8
  have F8 := Lib.hid (f7.setCell (p := ⟨q, 0, none⟩) (.inl (by simp)) (.slice A' n (c - 1)))
  have HA := Lib.hid hA
  have Hd := Lib.hid hd
  have Hblk := Lib.hid hblk
  clear h7 f7 h8 hd hblk
  go_upto_region 6 with fail
  rw [show (if c = 1 then some ad else some ⟨ad.block, ad.off + 1, none⟩) = A' by rw [HA.out]; simp [Addr.add]]
  go_wp2_with fail
  go_ret
  refine ⟨rfl, _, ?_, ?_, Hblk.out, F8.out⟩
  · rw [← HU.out, ← HM.out]
    simpa using H8.out
  · refine Hd.out.fr F8.out (fun k hk hm => ?_)
    rw [Hblk.out] at hk
    injection hk with hk
    simp at hm
    omega

/-- The program's decoder: what is behind, the rest, the range. -/
def Pd (w : World) (p : Nat) (v : Value) (bs : List UInt8) (d : Dec) : Prop :=
  Blk w p 81 #[v, .int .u32 (d.rest : Int), .int .u32 (d.r : Int)] ∧ Src w v ((bs.drop d.i).map B8) ∧ v.ownBlock ≠ some p ∧ d.i ≤ bs.length

theorem endNil_any (w : World) : Calls Try.prog 24 #[.pointer none] w fun r w' => r = .returned (.int .i64 1) ∧ Fr [] w w' := by
  go_enter Try.func24, Try.ntmps24
  go_wp2_with fail
  go_ret
  exact ⟨rfl, Fr.refl _ _⟩

theorem getNil_any (w : World) (c : Nat) : Calls Try.prog 61 #[.pointer none, .int .u16 (c : Int)] w fun r w' => r = .returned (.tuple #[.int .i64 0, .int .i64 1]) ∧ Fr [] w w' := by
  go_enter Try.func61, Try.ntmps61
  go_wp2_with fail
  go_ret2
  exact ⟨rfl, Fr.refl _ _⟩

theorem getArg_any (w : World) (p c : Nat) (h : ¬ rightC c) : Calls Try.prog 61 #[pt p, .int .u16 (c : Int)] w fun r w' => r = .returned (.tuple #[.int .i64 0, .int .i64 1]) ∧ Fr [] w w' := by
  have e0 : decide (rightC c) = false := decide_eq_false h
  have HC := Lib.hid (isOne_any c w)
  clear h
  go_enter Try.func61, Try.ntmps61
  go_wp2_with fail
  refine HC.out.mono ?_
  rintro e w' ⟨rfl, rfl⟩
  rw [e0]
  go_wp2_with fail
  go_ret2
  exact ⟨rfl, Fr.refl _ _⟩

theorem end_any (w : World) (p : Nat) (v : Value) (bs : List UInt8) (d : Dec) (h : Pd w p v bs d) :
    Calls Try.prog 24 #[pt p] w fun r w' => r = .returned (.int .i64 (if d.i = bs.length ∧ d.rest = 0 then 0 else 41)) ∧ w' = w := by
  obtain ⟨hB, hS, -, hi⟩ := h
  obtain ⟨A, c, rfl⟩ := hS.slice
  rw [List.length_drop] at *
  obtain ⟨n, hn⟩ : ∃ n, n = bs.length - d.i := ⟨_, rfl⟩
  rw [← hn] at hB
  obtain ⟨R, hR⟩ : ∃ R, R = d.rest := ⟨_, rfl⟩
  rw [← hR] at hB
  have c0 := hB.cell 0
  have c1 := hB.cell 1
  have hl := hB.lt
  simp at c0 c1
  clear hS hB
  by_cases h1 : 0 < n
  · rw [if_neg (by omega)]
    have e1 : decide (0 < n) = true := by simp; omega
    clear hn hR h1
    go_enter Try.func24, Try.ntmps24
    go_wp2_with fail
    go_ret
    exact ⟨rfl, rfl⟩
  · obtain rfl : n = 0 := by omega
    by_cases h2 : R = 0
    · rw [if_pos (by omega)]
      have e2 : ((R : Int) != 0) = false := by simp; omega
      clear hn hR h1 h2
      go_enter Try.func24, Try.ntmps24
      go_wp2_with fail
      go_ret
      exact ⟨rfl, rfl⟩
    · rw [if_neg (by omega)]
      have e2 : ((R : Int) != 0) = true := by simp; omega
      clear hn hR h1 h2
      go_enter Try.func24, Try.ntmps24
      go_wp2_with fail
      go_ret
      exact ⟨rfl, rfl⟩

theorem open_short (w : World) (A : Option Addr) (n c : Nat) (h : n < 4) : Calls Try.prog 18 #[.slice A n c] w fun r w' => r = .returned (.tuple #[.pointer none, .int .i64 41]) ∧ Fr [] w w' := by
  have e1 : decide ((n : Int) < 4) = true := by simp; omega
  clear h
  go_enter Try.func18, Try.ntmps18
  go_wp2_with fail
  go_ret2
  exact ⟨rfl, Fr.refl _ _⟩
end Go.Proofs.Ytfjlepnodmeaaaa
