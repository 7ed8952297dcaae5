/-
  Contracts of the document's coder of layer 4: Open, Get; conditions: the lengths are bounded as named.
-/
import Derived.Test.YtfjlepnodmeaaaaRef4c
import Derived.Test.YtfjlepnodmeaaaaRegion
import Derived.Deep.WholeRow
namespace Go.Proofs.Ytfjlepnodmeaaaa
open Go.RowKit

theorem ropen_short (A : Option Addr) (n c : Nat) (w : World) (h : n < 4) :
    Calls Try.prog 19 #[.slice A n c] w fun e w' => e = .returned (.tuple #[.pointer none, .int .i64 41]) ∧ w' = w := by
  have e1 : decide ((n : Int) < 4) = true := by simp; omega
  clear h
  go_enter Try.func19, Try.ntmps19
  go_wp2_with fail
  go_ret2
  exact ⟨rfl, rfl⟩

set_option maxRecDepth 20000 in
set_option maxHeartbeats 4000000 in
theorem ropen_any (A : Option Addr) (c : Nat) (bs : List UInt8) (w : World) (hs : Src w (.slice A bs.length c) (bs.map B8)) (hn : 4 ≤ bs.length) (hm : bs.length ≤ 1000000) :
    Calls Try.prog 19 #[.slice A bs.length c] w fun e w' => ∃ p, e = .returned (.tuple #[.pointer (some ⟨p, 0, none⟩), .int .i64 0]) ∧ Rd w' p A c bs (decOpen bs) ∧ Fr [] w w' ∧ w.heap.size ≤ p := by
  obtain ⟨n, hnn⟩ : ∃ n, n = bs.length := ⟨_, rfl⟩
  rw [← hnn] at hs hn hm
  have e1 : decide ((n : Int) < 4) = false := by simp; omega
  have HS := Lib.hid hs
  have Hnn := Lib.hid hnn
  rw [show (bs.length) = n from hnn.symm]
  clear hs hnn
  go_enter Try.func19, Try.ntmps19
  go_wp2_with fail
  generalize hw : w.alloc _ = w1
  have hB : Blk w1 w.heap.size 83 #[.slice A n c, .int .i64 ((4 : Nat) : Int), .int .i64 ((0 : Nat) : Int), .int .i64 4294967295] := by rw [← hw]; exact Blk.new _ _ _
  have hF : Fr [] w w1 := by rw [← hw]; exact (Fr.refl _ _).alloc _
  obtain ⟨p, hp⟩ : ∃ p, p = w.heap.size := ⟨_, rfl⟩
  rw [← hp] at hB ⊢
  have Hp := Lib.hid hp
  have HB := Lib.hid hB
  have HF := Lib.hid hF
  clear hB hF hw hp
  go_loopw [5] (fun s5 wr => ∃ i : Nat, i ≤ 4 ∧ s5 = .int .i64 (i : Int) ∧ Fr [] w wr ∧ Blk wr p 83 #[.slice A n c, .int .i64 ((4 : Nat) : Int), .int .i64 (valueOf (bs.take i) : Int), .int .i64 4294967295]) (fun s5 _ => 4 - (intOf s5).toNat)
  case atStart => exact ⟨0, by omega, rfl, HF.out, HB.out⟩
  case round =>
    obtain ⟨i, hi, rfl, hF, hB⟩ := hrel
    by_cases hlt : i < 4
    · have eg : decide ((i : Int) < 4) = true := by simp; omega
      obtain ⟨x, hx⟩ : ∃ x, bs[i]? = some x := ⟨_, List.getElem?_eq_getElem (by have := Hnn.out; omega)⟩
      have hcell : ∀ W, Fr [] w W → ∃ ad, A = some ad ∧ W.cell? (ad.add i) = some (.int .u8 (x.toNat : Int)) := by
        intro W hF
        obtain ⟨ad, r1, c1⟩ := (HS.out.fr0 hF).cellAt hx
        exact ⟨ad, r1, c1⟩
      obtain ⟨ad, rfl, -⟩ := hcell wr hF
      have hcells : ∀ W, Fr [] w W → W.cell? (ad.add i) = some (.int .u8 (x.toNat : Int)) := by
        intro W hF
        obtain ⟨a1, r1, c1⟩ := hcell W hF
        injection r1 with r1
        subst r1
        exact c1
      obtain ⟨V, hV⟩ : ∃ V, V = valueOf (bs.take i) := ⟨_, rfl⟩
      have hVl : V < 4294967296 := by
        have h1 := valueOf_lt (bs.take i)
        have h2 : (bs.take i).length ≤ 4 := by simp; omega
        have h3 : 256 ^ (bs.take i).length ≤ 256 ^ 4 := Nat.pow_le_pow_right (by omega) h2
        rw [← hV] at h1
        omega
      rw [← hV] at hB
      have hxl := x.toNat_lt
      obtain ⟨U, hU⟩ : ∃ U, U = 256 * V + x.toNat := ⟨_, rfl⟩
      have eU : 256 * (V : Int) + (x.toNat : Int) = (U : Int) := by omega
      have hval : valueOf (bs.take (i + 1)) = U := by
        rw [take_value bs i (by have := Hnn.out; omega), ← hV, hU, List.getD_eq_getElem?_getD, hx]; rfl
      have hin : i < n := by omega
      have w1 : IntKind.i64.wrap (256 * (V : Int)) = 256 * (V : Int) := IntWalk.i64_in _ (by omega)
      have w2 : IntKind.i64.wrap (U : Int) = (U : Int) := IntWalk.i64_in _ (by omega)
      have w3 : IntKind.i64.wrap (x.toNat : Int) = (x.toNat : Int) := IntWalk.i64_in _ (by omega)
      have k2 := hB.drew.cell 2
      have k3 := hB.drew.frozen 2
      have k4 := hB.drew.lt
      simp at k2
      have kx := hcells _ hF.drew
      have h5 := hB.drew.set_ 2 (.int .i64 (U : Int))
      have h6 := hF.drew.setCell (p := ⟨p, 2, none⟩) (.inr (by have := Hp.out; simp; omega)) (.int .i64 (U : Int))
      have kx2 := hcells _ h6
      have H5 := Lib.hid h5
      have H6 := Lib.hid h6
      have HV := Lib.hid hV
      have Hval := Lib.hid hval
      have Hx := Lib.hid hx
      clear h5 h6 hV hval hx hcell hcells hB hF hU
      go_upto_region 7 with fail
      refine wp_region_held_drew (S := fun W => W.cell? (ad.add i) = some (.int .u8 (x.toNat : Int))) (by kernel_rfl) ?_ (fun hHeld => ?_)
      · (repeat' (first | trivial | assumption | refine ⟨?_, ?_⟩))
      refine wpAnyH_pick 0 (v := ?_) rfl (by kernel_rfl) (by kernel_rfl) (by kernel_rfl) (fun _ _ _ h => h) (by assumption) (by rfl) ?_ ?_
      rotate_left
      · (intro w hSw; (try dsimp only at hSw); go_simp) <;> (with_reducible rfl)
      (try simp only [Act.put, List.setIfInBounds_toArray, List.set_cons_zero, List.set_cons_succ])
      refine wpAnyH_pick 1 (v := ?_) rfl (by kernel_rfl) (by kernel_rfl) (by kernel_rfl) (fun _ _ _ h => h) (by assumption) (by rfl) ?_ ?_
      rotate_left
      · (intro w hSw; (try dsimp only at hSw); go_simp) <;> (with_reducible rfl)
      (try simp only [Act.put, List.setIfInBounds_toArray, List.set_cons_zero, List.set_cons_succ])
      refine wpAnyH_pick 2 (v := ?_) rfl (by kernel_rfl) (by kernel_rfl) (by kernel_rfl) (fun _ _ _ h => h) (by assumption) (by rfl) ?_ ?_
      rotate_left
      · (intro w hSw; (try dsimp only at hSw); go_simp) <;> (with_reducible rfl)
      (try simp only [Act.put, List.setIfInBounds_toArray, List.set_cons_zero, List.set_cons_succ])
      refine wpAnyH_pick 3 (v := ?_) rfl (by kernel_rfl) (by kernel_rfl) (by kernel_rfl) (fun _ _ _ h => h) (by assumption) (by rfl) ?_ ?_
      rotate_left
      · (intro w hSw; (try dsimp only at hSw); go_simp) <;> (with_reducible rfl)
      (try simp only [Act.put, List.setIfInBounds_toArray, List.set_cons_zero, List.set_cons_succ])
      refine wpAnyH_pick 6 (v := ?_) rfl (by kernel_rfl) (by kernel_rfl) (by kernel_rfl) (fun _ _ _ h => h) (by assumption) (by rfl) ?_ ?_
      rotate_left
      · (intro w hSw; (try dsimp only at hSw); go_simp) <;> (with_reducible rfl)
      (try simp only [Act.put, List.setIfInBounds_toArray, List.set_cons_zero, List.set_cons_succ])
      refine wpAnyH_pick 7 (v := ?_) rfl (by kernel_rfl) (by kernel_rfl) (by kernel_rfl) (fun _ _ _ h => h) (by assumption) (by rfl) ?_ ?_
      rotate_left
      · (intro w hSw; (try dsimp only at hSw); go_simp) <;> (with_reducible rfl)
      (try simp only [Act.put, List.setIfInBounds_toArray, List.set_cons_zero, List.set_cons_succ])
      refine wpAnyH_pick 8 (v := ?_) rfl (by kernel_rfl) (by kernel_rfl) (by kernel_rfl) (fun _ _ _ h => h) (by assumption) (by rfl) ?_ ?_
      rotate_left
      · (intro w hSw; (try dsimp only at hSw); go_simp) <;> (with_reducible rfl)
      (try simp only [Act.put, List.setIfInBounds_toArray, List.set_cons_zero, List.set_cons_succ])
      refine wpAnyH_pick 9 (v := ?_) rfl (by kernel_rfl) (by kernel_rfl) (by kernel_rfl) (fun _ _ _ h => h) (by assumption) (by rfl) ?_ ?_
      rotate_left
      · (intro w hSw; (try dsimp only at hSw); go_simp) <;> (with_reducible rfl)
      (try simp only [Act.put, List.setIfInBounds_toArray, List.set_cons_zero, List.set_cons_succ])
      refine wpAnyH_pick 10 (v := ?_) rfl (by kernel_rfl) (by kernel_rfl) (by kernel_rfl) (fun _ _ _ h => h) (by assumption) (by rfl) ?_ ?_
      rotate_left
      · (intro w hSw; (try dsimp only at hSw); go_simp) <;> (with_reducible rfl)
      (try simp only [Act.put, List.setIfInBounds_toArray, List.set_cons_zero, List.set_cons_succ])
      refine wpAnyH_ready (rs := [4]) (by kernel_rfl) (by simp) ?_
      refine AllReadyH_pick rfl (fun K hK => ?_) (AllReadyH.nil)
      skip
      go_simp
      refine hK.out _ _ ?_ (fun hHeld => ?_)
      · (repeat' (first | trivial | assumption | refine ⟨?_, ?_⟩))
      clear hK K
      (try simp only [Act.put, List.setIfInBounds_toArray, List.set_cons_zero, List.set_cons_succ])
      refine wpAnyH_pick 5 (v := ?_) rfl (by kernel_rfl) (by kernel_rfl) (by kernel_rfl) (fun _ _ _ h => h) (by assumption) (by rfl) ?_ ?_
      rotate_left
      · (intro w hSw; (try dsimp only at hSw); go_simp) <;> (with_reducible rfl)
      (try simp only [Act.put, List.setIfInBounds_toArray, List.set_cons_zero, List.set_cons_succ])
      refine wpAnyH_pick 11 (v := ?_) rfl (by kernel_rfl) (by kernel_rfl) (by kernel_rfl) (fun _ _ _ h => h) (by assumption) (by rfl) ?_ ?_
      rotate_left
      · (intro w hSw; (try dsimp only at hSw); go_simp) <;> (with_reducible rfl)
      (try simp only [Act.put, List.setIfInBounds_toArray, List.set_cons_zero, List.set_cons_succ])
      refine wpAnyH_pick 12 (v := ?_) rfl (by kernel_rfl) (by kernel_rfl) (by kernel_rfl) (fun _ _ _ h => h) (by assumption) (by rfl) ?_ ?_
      rotate_left
      · (intro w hSw; (try dsimp only at hSw); go_simp) <;> (with_reducible rfl)
      (try simp only [Act.put, List.setIfInBounds_toArray, List.set_cons_zero, List.set_cons_succ])
      refine wpAnyH_pick 13 (v := ?_) rfl (by kernel_rfl) (by kernel_rfl) (by kernel_rfl) (fun _ _ _ h => h) (by assumption) (by rfl) ?_ ?_
      rotate_left
      · (intro w hSw; (try dsimp only at hSw); go_simp) <;> (with_reducible rfl)
      (try simp only [Act.put, List.setIfInBounds_toArray, List.set_cons_zero, List.set_cons_succ])
      refine wpAnyH_ready (rs := [14]) (by kernel_rfl) (by simp) ?_
      refine AllReadyH_pick rfl (fun K hK => ?_) (AllReadyH.nil)
      skip
      go_simp
      refine hK.out _ _ ?_ (fun hHeld => ?_)
      · (repeat' (first | trivial | assumption | refine ⟨?_, ?_⟩))
      clear hK K
      (try simp only [Act.put, List.setIfInBounds_toArray, List.set_cons_zero, List.set_cons_succ])
      refine wpAnyH_done (by kernel_rfl) ?_ _
      skip
      have k5 : Blk (wr.setCell ⟨p, 2, none⟩ (.int .i64 (U : Int))).drew p 83 (#[.slice (some ad) n c, .int .i64 ((4 : Nat) : Int), .int .i64 (V : Int), .int .i64 4294967295].setIfInBounds 2 (.int .i64 (U : Int))) := H5.out
      have k6 : Fr [] w (wr.setCell ⟨p, 2, none⟩ (.int .i64 (U : Int))).drew := H6.out
      generalize (wr.setCell ⟨p, 2, none⟩ (.int .i64 (U : Int))).drew = w7 at k5 k6 ⊢
      have k5' : Blk w7 p 83 #[.slice (some ad) n c, .int .i64 ((4 : Nat) : Int), .int .i64 (U : Int), .int .i64 4294967295] := by simpa using k5
      have K5 := Lib.hid k5'
      have K6 := Lib.hid k6
      clear k5 k5' k6 hHeld k2 k3 k4 kx kx2 H5 H6
      go_wp2_with fail
      exact ⟨⟨i + 1, by omega, by simp, K6.out, by rw [Hval.out]; exact K5.out⟩, by simp [intOf]; omega⟩
    · obtain rfl : i = 4 := by omega
      have eg : decide ((4 : Int) < 4) = false := by decide
      have HF2 := Lib.hid hF
      have HB2 := Lib.hid hB
      clear hF hB
      go_wp2_with fail
      go_ret2
      refine ⟨p, rfl, ⟨?_, ?_, ?_⟩, HF2.out, by rw [Hp.out]; exact Nat.le_refl _⟩
      · rw [← Hnn.out]; exact HB2.out
      · rw [← Hnn.out]; exact HS.out.fr0 HF2.out
      · intro ad had
        obtain ⟨a1, r1, c1⟩ := HS.out.cellAt (k := 0) (List.getElem?_eq_getElem (by have := Hnn.out; omega))
        rw [had] at r1
        injection r1 with r1
        subst r1
        have := World.block_lt_of_cell? w _ c1
        rw [addr_block] at this
        have := Hp.out
        omega

theorem decScale_none {bs : List UInt8} {bit : Bool} {d : Dec} (h1 : d.r < 16777216) (h2 : bs.length ≤ d.i) : decScale bs bit d = none := by unfold decScale; rw [if_pos h1, if_neg (by omega)]
theorem decScale_more {bs : List UInt8} {bit : Bool} {d : Dec} (h1 : d.r < 16777216) (h2 : d.i < bs.length) : decScale bs bit d = some (bit, ⟨d.i + 1, 256 * d.rest + (bs.getD d.i 0).toNat, d.r * 256⟩) := by unfold decScale; rw [if_pos h1, if_pos h2]
theorem decScale_same {bs : List UInt8} {bit : Bool} {d : Dec} (h1 : ¬ d.r < 16777216) : decScale bs bit d = some (bit, d) := by unfold decScale; rw [if_neg h1]

theorem Rd.fr0 {w w' : World} {p : Nat} {A : Option Addr} {c : Nat} {bs : List UInt8} {d : Dec} (h : Rd w p A c bs d) (hf : Fr [] w w') : Rd w' p A c bs d := ⟨h.1.fr hf (by simp), h.2.1.fr0 hf, h.2.2⟩

theorem rget_arg (a : Value) (c : Nat) (w : World) (h : ¬ rightC c) :
    Calls Try.prog 63 #[a, .int .i64 (c : Int)] w fun e w' => e = .returned (.tuple #[.int .i64 0, .int .i64 1]) ∧ w' = w := by
  have e0 : decide (rightC c) = false := decide_eq_false h
  have HC := Lib.hid (rright_any c w)
  clear h
  go_enter Try.func63, Try.ntmps63
  go_wp2_with fail
  refine HC.out.mono ?_
  rintro e w' ⟨rfl, rfl⟩
  rw [e0]
  go_wp2_with fail
  go_ret2
  exact ⟨rfl, rfl⟩

/-- The rest is too great. -/
theorem rget_great (p : Nat) (A : Option Addr) (cc : Nat) (bs : List UInt8) (d : Dec) (c : Nat) (w : World) (h : Rd w p A cc bs d) (hc : rightC c) (hr : d.r ≤ d.rest) :
    Calls Try.prog 63 #[.pointer (some ⟨p, 0, none⟩), .int .i64 (c : Int)] w fun e w' => e = .returned (.tuple #[.int .i64 0, .int .i64 41]) ∧ ∃ m, w' = w.drewN m := by
  have e0 : decide (rightC c) = true := decide_eq_true hc
  have HC := Lib.hid (rright_any c w)
  have c2 := h.1.cell 2
  have c3 := h.1.cell 3
  have hlt := h.1.lt
  simp at c2 c3
  obtain ⟨i, r, k⟩ := d
  simp only at *
  have e1 : decide (k ≤ r) = true := by simp [hr]
  clear h hc hr
  go_enter Try.func63, Try.ntmps63
  go_wp2_with fail
  refine HC.out.mono ?_
  rintro e w' ⟨rfl, rfl⟩
  rw [e0]
  go_upto_region 4 with fail
  go_quiet (fail)
  go_wp2_with fail
  go_ret2
  exact ⟨rfl, _, rfl⟩

set_option maxRecDepth 100000 in
set_option maxHeartbeats 4000000 in
theorem rget_any (p : Nat) (A : Option Addr) (cc : Nat) (bs : List UInt8) (d : Dec) (c : Nat) (w : World) (h : Rd w p A cc bs d) (hc : rightC c) (hr : d.rest < d.r) (hr1 : 16777216 ≤ d.r) (hr2 : d.r ≤ 4294967295) (hi : d.i ≤ 1000000) :
    Calls Try.prog 63 #[.pointer (some ⟨p, 0, none⟩), .int .i64 (c : Int)] w fun e w' =>
      (∃ bit d', decGet bs d c = some (bit, d') ∧ e = .returned (.tuple #[.int .i64 (bit.toNat : Int), .int .i64 0]) ∧ Rd w' p A cc bs d' ∧ Fr [p] w w') ∨
      (decGet bs d c = none ∧ e = .returned (.tuple #[.int .i64 0, .int .i64 41]) ∧ Fr [] w w') := by
  have e0 : decide (rightC c) = true := decide_eq_true hc
  have HC := Lib.hid (rright_any c w)
  obtain ⟨B, hB⟩ : ∃ B, B = bnd d.r c := ⟨_, rfl⟩
  have hb1 := bnd_lo hr1 hc
  have hb2 := bnd_hi hr1 hc
  rw [← hB] at hb1 hb2
  have eB : (d.r : Int) / 2048 * (c : Int) = (B : Int) := by rw [hB]; unfold bnd; simp
  obtain ⟨D, hD⟩ : ∃ D, D = decBit d c := ⟨_, rfl⟩
  have hget : decGet bs d c = decScale bs D.1 D.2 := by unfold decGet; rw [if_pos hr, hD]
  have hD2 : D = if d.rest < B then (false, ⟨d.i, d.rest, B⟩) else (true, ⟨d.i, d.rest - B, d.r - B⟩) := by rw [hD, hB]; rfl
  have Hget := Lib.hid hget
  have HD := Lib.hid hD2
  have H := Lib.hid h
  have c2 := h.1.cell 2
  have c3 := h.1.cell 3
  have hlt := h.1.lt
  have hz : (Try.prog.info? 83).map (·.size) = some 4 := by kernel_rfl
  have Hz := Lib.hid hz
  simp at c2 c3
  obtain ⟨i, r, k⟩ := d
  simp only at *
  have e1 : decide (k ≤ r) = false := by simp; omega
  clear h hc hget hD2 hD hz hB
  go_enter Try.func63, Try.ntmps63
  go_wp2_with fail
  refine HC.out.mono ?_
  rintro e w' ⟨rfl, rfl⟩
  rw [e0]
  go_upto_region 4 with fail
  go_quiet (fail)
  have H2 := Lib.hid (H.out.fr0 ((Fr.refl [] w').drewN nq))
  have HFd := Lib.hid ((Fr.refl [] w').drewN nq)
  generalize w'.drewN nq = w2 at H2 HFd ⊢
  go_upto_region 6 with fail
  have hz4 : (Try.prog.info? 83).map (·.size) = some (#[Value.slice A bs.length cc, .int .i64 (i : Int), .int .i64 (r : Int), .int .i64 (k : Int)] : Array Value).size := Hz.out
  obtain ⟨n, hn⟩ : ∃ n, n = bs.length := ⟨_, rfl⟩
  rw [← hn] at hz4
  have Hn := Lib.hid hn
  have hR2 := H2.out.1
  rw [← hn] at hR2
  have HR2 := Lib.hid hR2
  clear hR2 hn
  go_upto_region 7 with (first
    | refine wpList_load_row rfl 83 _ rfl p rfl 83 _ _ _ HR2.out.here Try.underlying83 rfl hz4 ?_
    | refine wpList_store_row rfl 83 _ _ rfl w2.heap.size _ rfl rfl 83 _ (heap_alloc_new _ _) hz4 rfl rfl ?_)
  (try rw [World.setRow_alloc_new])
  generalize hw : w2.alloc (.cells #[.slice A n cc, .int .i64 (i : Int), .int .i64 (r : Int), .int .i64 (k : Int)] 83) = w3
  have hB3 : Blk w3 w2.heap.size 83 #[.slice A n cc, .int .i64 (i : Int), .int .i64 (r : Int), .int .i64 (k : Int)] := by rw [← hw]; exact Blk.new _ _ _
  have hF3 : Fr [] w2 w3 := by rw [← hw]; exact (Fr.refl _ _).alloc _
  obtain ⟨q, hq⟩ : ∃ q, q = w2.heap.size := ⟨_, rfl⟩
  rw [← hq] at hB3 ⊢
  have Hq := Lib.hid hq
  have k2 := hB3.cell 2
  have k3 := hB3.cell 3
  have k4 := hB3.frozen 2
  have k5 := hB3.frozen 3
  have k6 := hB3.lt
  simp at k2 k3
  have HB3 := Lib.hid hB3
  have HF3 := Lib.hid hF3
  clear hw hq hB3 hF3 c2 c3 hlt HC e0 hz4
  by_cases hb : r < B
  · have eb : decide (r < B) = true := by simp [hb]
    obtain ⟨D1, hD1⟩ : ∃ D1 : Dec, D1 = ⟨i, r, B⟩ := ⟨_, rfl⟩
    have HrD : Hid (D1.rest < D1.r) := Lib.hid (by rw [hD1]; exact hb)
    have Hr1 : Hid (253952 ≤ D1.r) := Lib.hid (by rw [hD1]; exact hb1)
    rw [if_pos hb, ← hD1] at HD
    have hB4 : Blk (w3.setCell ⟨q, 3, none⟩ (.int .i64 (B : Int))) q 83 #[.slice A n cc, .int .i64 (D1.i : Int), .int .i64 (D1.rest : Int), .int .i64 (D1.r : Int)] := by
      rw [hD1]
      have := HB3.out.set_ 3 (.int .i64 (B : Int))
      simpa using this
    have hF4 : Fr [] w2 (w3.setCell ⟨q, 3, none⟩ (.int .i64 (B : Int))) := HF3.out.setCell (.inr (by rw [← Hq.out]; exact Nat.le_refl _)) _
    have HB4' := Lib.hid hB4
    have HF4' := Lib.hid hF4
    have HD1 := Lib.hid hD1
    clear hB4 hF4 hD1 hb
    go_wp2_with fail
    have HB4 := HB4'
    have HF4 := HF4'
    go_loopw [49] (fun _ wr => ∃ f : Dec, (f = D1 ∨ (D1.r < 16777216 ∧ decScale bs false D1 = some (false, f) ∧ 16777216 ≤ f.r)) ∧ Fr [] w2 wr ∧ Blk wr q 83 #[.slice A n cc, .int .i64 (f.i : Int), .int .i64 (f.rest : Int), .int .i64 (f.r : Int)]) (fun _ wr => 4294967296 - (intOf ((wr.cell? ⟨q, 3, none⟩).getD undef)).toNat)
    case atStart => exact ⟨D1, .inl rfl, HF4.out, HB4.out⟩
    case round =>
      obtain ⟨f, hf, hF, hB⟩ := hrel
      have Hf := Lib.hid hf
      have HF := Lib.hid hF
      have d0 := hB.cell 0
      have d1 := hB.cell 1
      have d2 := hB.cell 2
      have d3 := hB.cell 3
      have g1 := hB.frozen 1
      have g2 := hB.frozen 2
      have g3 := hB.frozen 3
      have hlq := hB.lt
      simp at d0 d1 d2 d3
      have HBr := Lib.hid hB
      clear hf hF hB
      by_cases hlt2 : f.r < 16777216
      · have hfe : f = D1 := by
          rcases Hf.out with h0 | ⟨_, _, h0⟩
          · exact h0
          · omega
        have eg : decide ((f.r : Int) < 16777216) = true := by simp; omega
        have Hfe := Lib.hid hfe
        clear hfe
        by_cases hin : f.i < n
        · have ei : decide (n ≤ f.i) = false := by simp; omega
          have hrest : f.rest < 16777216 := by rw [Hfe.out] at hlt2 ⊢; have := HrD.out; omega
          obtain ⟨x, hx⟩ : ∃ x, bs[f.i]? = some x := ⟨_, List.getElem?_eq_getElem (by have := Hn.out; omega)⟩
          have hmore : decScale bs false D1 = some (false, ⟨f.i + 1, 256 * f.rest + x.toNat, f.r * 256⟩) := by
            rw [← Hfe.out, decScale_more hlt2 (by rw [← Hn.out]; exact hin), List.getD_eq_getElem?_getD, hx]; rfl
          have hfi : f.i ≤ 1000000 := by rw [Hfe.out, HD1.out]; exact hi
          have hf1 : 253952 ≤ f.r := by rw [Hfe.out]; exact Hr1.out
          obtain ⟨I, R, G⟩ := f
          simp only at *
          have hcell : ∀ W, Fr [] w2 W → ∃ ad, A = some ad ∧ W.cell? (ad.add I) = some (.int .u8 (x.toNat : Int)) := by
            intro W hF
            have hS := H2.out.2.1.fr0 hF
            rw [← Hn.out] at hS
            obtain ⟨ad, r1, c1⟩ := hS.cellAt hx
            exact ⟨ad, r1, c1⟩
          obtain ⟨ad, rfl, -⟩ := hcell wr HF.out
          have hcells : ∀ W, Fr [] w2 W → W.cell? (ad.add I) = some (.int .u8 (x.toNat : Int)) := by
            intro W hF
            obtain ⟨a1, r1, c1⟩ := hcell W hF
            have r2 := Option.some.inj r1
            rw [r2]
            exact c1
          have hxl := x.toNat_lt
          obtain ⟨M, hM⟩ : ∃ M, M = G * 256 := ⟨_, rfl⟩
          have eM : 256 * (G : Int) = (M : Int) := by omega
          obtain ⟨U, hU⟩ : ∃ U, U = 256 * R + x.toNat := ⟨_, rfl⟩
          have eU : 256 * (R : Int) + (x.toNat : Int) = (U : Int) := by omega
          have v1 : IntKind.i64.wrap (256 * (R : Int)) = 256 * (R : Int) := IntWalk.i64_in _ (by omega)
          have v2 : IntKind.i64.wrap (U : Int) = (U : Int) := IntWalk.i64_in _ (by omega)
          have v3 : IntKind.i64.wrap (x.toNat : Int) = (x.toNat : Int) := IntWalk.i64_in _ (by omega)
          have v4 : IntKind.i64.wrap (M : Int) = (M : Int) := IntWalk.i64_in _ (by omega)
          rw [← hM, ← hU] at hmore
          have hqn : w2.heap.size ≤ q := by rw [Hq.out]; exact Nat.le_refl _
          have b5 : Blk (wr.setCell ⟨q, 3, none⟩ (.int .i64 (M : Int))) q 83 #[.slice (some ad) n cc, .int .i64 (I : Int), .int .i64 (R : Int), .int .i64 (M : Int)] := by
            have := HBr.out.set_ 3 (.int .i64 (M : Int)); simpa using this
          have f5 : Fr [] w2 (wr.setCell ⟨q, 3, none⟩ (.int .i64 (M : Int))) := HF.out.setCell (.inr hqn) _
          generalize hw5 : wr.setCell ⟨q, 3, none⟩ (.int .i64 (M : Int)) = w5 at b5 f5
          have Hw5 := Lib.hid hw5
          have Hmore := Lib.hid hmore
          have HM := Lib.hid hM
          have Hlt2 := Lib.hid hlt2
          have B5 := Lib.hid b5
          have F5 := Lib.hid f5
          have Hcells := Lib.hid hcells
          have Hd3 := Lib.hid d3
          clear hw5 hmore hM hlt2 hU hx hcell hcells b5 f5
          go_upto_region 18 with fail
          rw [Hw5.out]
          clear d0 d1 d2 d3 g1 g2 g3 hlq eg
          have d0 := B5.out.drew.cell 0
          have d1 := B5.out.drew.cell 1
          have d2 := B5.out.drew.cell 2
          have g2 := B5.out.drew.frozen 2
          simp at d0 d1 d2
          have dx := Hcells.out _ F5.out.drew
          have b6 : Blk (w5.drew.setCell ⟨q, 2, none⟩ (.int .i64 (U : Int))) q 83 #[.slice (some ad) n cc, .int .i64 (I : Int), .int .i64 (U : Int), .int .i64 (M : Int)] := by
            have := B5.out.drew.set_ 2 (.int .i64 (U : Int)); simpa using this
          have f6 : Fr [] w2 (w5.drew.setCell ⟨q, 2, none⟩ (.int .i64 (U : Int))) := F5.out.drew.setCell (.inr hqn) _
          have p0 := b6.cell 0
          have p1 := b6.cell 1
          simp at p0 p1
          have px := Hcells.out _ f6
          have B6 := Lib.hid b6
          have F6 := Lib.hid f6
          clear b6 f6
          refine wp_region_held_drew (S := fun W => W.cell? ⟨q, 0, none⟩ = some (.slice (some ad) n cc) ∧ W.cell? ⟨q, 1, none⟩ = some (.int .i64 (I : Int)) ∧ W.cell? (ad.add I) = some (.int .u8 (x.toNat : Int))) (by kernel_rfl) ?_ (fun hHeld => ?_)
          · (repeat' (first | trivial | assumption | refine ⟨?_, ?_⟩))
          refine wpAnyH_pick 0 (v := ?_) rfl (by kernel_rfl) (by kernel_rfl) (by kernel_rfl) (fun _ _ _ h => h) (by assumption) (by rfl) ?_ ?_
          rotate_left
          · (intro w hSw; (try dsimp only at hSw); go_simp) <;> (with_reducible rfl)
          (try simp only [Act.put, List.setIfInBounds_toArray, List.set_cons_zero, List.set_cons_succ])
          refine wpAnyH_pick 3 (v := ?_) rfl (by kernel_rfl) (by kernel_rfl) (by kernel_rfl) (fun _ _ _ h => h) (by assumption) (by rfl) ?_ ?_
          rotate_left
          · (intro w hSw; (try dsimp only at hSw); go_simp) <;> (with_reducible rfl)
          (try simp only [Act.put, List.setIfInBounds_toArray, List.set_cons_zero, List.set_cons_succ])
          refine wpAnyH_pick 4 (v := ?_) rfl (by kernel_rfl) (by kernel_rfl) (by kernel_rfl) (fun _ _ _ h => h) (by assumption) (by rfl) ?_ ?_
          rotate_left
          · (intro w hSw; (try dsimp only at hSw); go_simp) <;> (with_reducible rfl)
          (try simp only [Act.put, List.setIfInBounds_toArray, List.set_cons_zero, List.set_cons_succ])
          refine wpAnyH_pick 5 (v := ?_) rfl (by kernel_rfl) (by kernel_rfl) (by kernel_rfl) (fun _ _ _ h => h) (by assumption) (by rfl) ?_ ?_
          rotate_left
          · (intro w hSw; (try dsimp only at hSw); go_simp) <;> (with_reducible rfl)
          (try simp only [Act.put, List.setIfInBounds_toArray, List.set_cons_zero, List.set_cons_succ])
          refine wpAnyH_pick 6 (v := ?_) rfl (by kernel_rfl) (by kernel_rfl) (by kernel_rfl) (fun _ _ _ h => h) (by assumption) (by rfl) ?_ ?_
          rotate_left
          · (intro w hSw; (try dsimp only at hSw); go_simp) <;> (with_reducible rfl)
          (try simp only [Act.put, List.setIfInBounds_toArray, List.set_cons_zero, List.set_cons_succ])
          refine wpAnyH_pick 7 (v := ?_) rfl (by kernel_rfl) (by kernel_rfl) (by kernel_rfl) (fun _ _ _ h => h) (by assumption) (by rfl) ?_ ?_
          rotate_left
          · (intro w hSw; (try dsimp only at hSw); go_simp) <;> (with_reducible rfl)
          (try simp only [Act.put, List.setIfInBounds_toArray, List.set_cons_zero, List.set_cons_succ])
          refine wpAnyH_pick 8 (v := ?_) rfl (by kernel_rfl) (by kernel_rfl) (by kernel_rfl) (fun _ _ _ h => h) (by assumption) (by rfl) ?_ ?_
          rotate_left
          · (intro w hSw; (try dsimp only at hSw); go_simp) <;> (with_reducible rfl)
          (try simp only [Act.put, List.setIfInBounds_toArray, List.set_cons_zero, List.set_cons_succ])
          refine wpAnyH_pick 9 (v := ?_) rfl (by kernel_rfl) (by kernel_rfl) (by kernel_rfl) (fun _ _ _ h => h) (by assumption) (by rfl) ?_ ?_
          rotate_left
          · (intro w hSw; (try dsimp only at hSw); go_simp) <;> (with_reducible rfl)
          (try simp only [Act.put, List.setIfInBounds_toArray, List.set_cons_zero, List.set_cons_succ])
          refine wpAnyH_ready (rs := [1]) (by kernel_rfl) (by simp) ?_
          refine AllReadyH_pick rfl (fun K hK => ?_) (AllReadyH.nil)
          skip
          go_simp
          refine hK.out _ _ ?_ (fun hHeld => ?_)
          · (repeat' (first | trivial | assumption | refine ⟨?_, ?_⟩))
          clear hK K
          (try simp only [Act.put, List.setIfInBounds_toArray, List.set_cons_zero, List.set_cons_succ])
          refine wpAnyH_pick 2 (v := ?_) rfl (by kernel_rfl) (by kernel_rfl) (by kernel_rfl) (fun _ _ _ h => h) (by assumption) (by rfl) ?_ ?_
          rotate_left
          · (intro w hSw; (try dsimp only at hSw); go_simp) <;> (with_reducible rfl)
          (try simp only [Act.put, List.setIfInBounds_toArray, List.set_cons_zero, List.set_cons_succ])
          refine wpAnyH_pick 10 (v := ?_) rfl (by kernel_rfl) (by kernel_rfl) (by kernel_rfl) (fun _ _ _ h => h) (by assumption) (by rfl) ?_ ?_
          rotate_left
          · (intro w hSw; (try dsimp only at hSw); go_simp) <;> (with_reducible rfl)
          (try simp only [Act.put, List.setIfInBounds_toArray, List.set_cons_zero, List.set_cons_succ])
          refine wpAnyH_pick 11 (v := ?_) rfl (by kernel_rfl) (by kernel_rfl) (by kernel_rfl) (fun _ _ _ h => h) (by assumption) (by rfl) ?_ ?_
          rotate_left
          · (intro w hSw; (try dsimp only at hSw); go_simp) <;> (with_reducible rfl)
          (try simp only [Act.put, List.setIfInBounds_toArray, List.set_cons_zero, List.set_cons_succ])
          refine wpAnyH_ready (rs := [12]) (by kernel_rfl) (by simp) ?_
          refine AllReadyH_pick rfl (fun K hK => ?_) (AllReadyH.nil)
          skip
          go_simp
          refine hK.out _ _ ?_ (fun hHeld => ?_)
          · (repeat' (first | trivial | assumption | refine ⟨?_, ?_⟩))
          clear hK K
          (try simp only [Act.put, List.setIfInBounds_toArray, List.set_cons_zero, List.set_cons_succ])
          refine wpAnyH_done (by kernel_rfl) ?_ _
          skip
          have b7 : Blk (w5.setCell ⟨q, 2, none⟩ (.int .i64 (U : Int))).drew q 83 #[.slice (some ad) n cc, .int .i64 (I : Int), .int .i64 (U : Int), .int .i64 (M : Int)] := B6.out
          have f7 : Fr [] w2 (w5.setCell ⟨q, 2, none⟩ (.int .i64 (U : Int))).drew := F6.out
          generalize (w5.setCell ⟨q, 2, none⟩ (.int .i64 (U : Int))).drew = w7 at b7 f7 ⊢
          clear hHeld d0 d1 d2 g2 dx p0 p1 px B6 F6
          have d1 := b7.cell 1
          have g1 := b7.frozen 1
          have hlq := b7.lt
          simp at d1
          have b8 : Blk (w7.setCell ⟨q, 1, none⟩ (.int .i64 ((I + 1 : Nat) : Int))) q 83 #[.slice (some ad) n cc, .int .i64 ((I + 1 : Nat) : Int), .int .i64 (U : Int), .int .i64 (M : Int)] := by
            have := b7.set_ 1 (.int .i64 ((I + 1 : Nat) : Int)); simpa using this
          have f8 : Fr [] w2 (w7.setCell ⟨q, 1, none⟩ (.int .i64 ((I + 1 : Nat) : Int))) := f7.setCell (.inr hqn) _
          have B8 := Lib.hid b8
          have F8 := Lib.hid f8
          clear b7 f7 b8 f8
          go_wp2_with fail
          have hm3 : (w7.setCell ⟨q, 1, none⟩ (.int .i64 ((I : Int) + 1))).cell? ⟨q, 3, none⟩ = some (.int .i64 (M : Int)) := by
            have := B8.out.cell 3
            simpa using this
          have hMG : G < M ∧ 16777216 ≤ M ∧ M ≤ 4294967295 := by have := HM.out; have := Hlt2.out; omega
          refine ⟨⟨⟨I + 1, U, M⟩, .inr ⟨by rw [← Hfe.out]; exact Hlt2.out, Hmore.out, hMG.2.1⟩, F8.out, B8.out⟩, ?_⟩
          rw [hm3, Hd3.out]
          simp only [intOf, Option.getD_some]
          omega
        · have ei : decide ((n : Int) ≤ (f.i : Int)) = true := by simp; omega
          have ei2 : decide (n ≤ f.i) = true := by simp; omega
          have hnone : decScale bs false D1 = none := by rw [← Hfe.out]; exact decScale_none hlt2 (by rw [← Hn.out]; omega)
          have Hnone := Lib.hid hnone
          have Hlt2 := Lib.hid hlt2
          have Hin := Lib.hid hin
          clear hnone hlt2 hin
          go_wp2_with fail
          go_ret2
          refine .inr ⟨?_, rfl, HFd.out.trans HF.out (by simp)⟩
          rw [Hget.out, HD.out, Hnone.out]
      · have hdone : decScale bs false D1 = some (false, f) := by
          rcases Hf.out with h0 | ⟨_, h0, _⟩
          · rw [h0]; exact decScale_same (by rw [← h0]; exact hlt2)
          · exact h0
        have eg : decide ((f.r : Int) < 16777216) = false := by simp; omega
        have Hdone := Lib.hid hdone
        have hP := HR2.out.fr HF.out (by simp)
        have HP := Lib.hid hP
        have hz5 : (Try.prog.info? 83).map (·.size) = some (#[Value.slice A n cc, .int .i64 (f.i : Int), .int .i64 (f.rest : Int), .int .i64 (f.r : Int)] : Array Value).size := Hz.out
        have Hz5 := Lib.hid hz5
        clear hdone hlt2 hP hz5
        go_upto_region 20 with fail
        have m0 := HP.out.cell 0
        have m1 := HP.out.cell 1
        have m2 := HP.out.cell 2
        have m3 := HP.out.cell 3
        have n0 := HP.out.frozen 0
        have n1 := HP.out.frozen 1
        have n2 := HP.out.frozen 2
        have n3 := HP.out.frozen 3
        simp at m0 m1 m2 m3
        clear g1 g2 g3
        go_wp2_with fail
        go_ret2
        have hfr : Fr [p] wr ((((wr.setCell ⟨p, 0, none⟩ (.slice A n cc)).setCell ⟨p, 1, none⟩ (.int .i64 (f.i : Int))).setCell ⟨p, 2, none⟩ (.int .i64 (f.rest : Int))).setCell ⟨p, 3, none⟩ (.int .i64 (f.r : Int))) :=
          ((((Fr.refl [p] wr).setCell (.inl (by simp)) _).setCell (.inl (by simp)) _).setCell (.inl (by simp)) _).setCell (.inl (by simp)) _
        refine .inl ⟨false, f, by rw [Hget.out, HD.out, Hdone.out], rfl, ⟨?_, ?_, H2.out.2.2⟩, ((HFd.out.trans HF.out (by simp)).mono (S' := [p]) (by simp)).trans hfr (fun x hx => .inl hx)⟩
        · rw [← Hn.out]
          have := (((HP.out.set_ 0 (.slice A n cc)).set_ 1 (.int .i64 (f.i : Int))).set_ 2 (.int .i64 (f.rest : Int))).set_ 3 (.int .i64 (f.r : Int))
          simpa using this
        · refine (H2.out.2.1.fr0 HF.out).fr hfr ?_
          intro k hk hm
          simp at hm
          subst hm
          cases A with
          | none => simp [Value.ownBlock] at hk
          | some ad => exact H2.out.2.2 ad rfl (by simpa [Value.ownBlock] using hk)
  · have eb : decide (r < B) = false := by simp [hb]
    obtain ⟨D1, hD1⟩ : ∃ D1 : Dec, D1 = ⟨i, r - B, k - B⟩ := ⟨_, rfl⟩
    have HrD : Hid (D1.rest < D1.r) := Lib.hid (by rw [hD1]; simp only; omega)
    have Hr1 : Hid (253952 ≤ D1.r) := Lib.hid (by rw [hD1]; simp only; omega)
    rw [if_neg hb, ← hD1] at HD
    obtain ⟨R1, hR1⟩ : ∃ R1, R1 = r - B := ⟨_, rfl⟩
    obtain ⟨K1, hK1⟩ : ∃ K1, K1 = k - B := ⟨_, rfl⟩
    have eR : (r : Int) - (B : Int) = (R1 : Int) := by omega
    have eK : (k : Int) - (B : Int) = (K1 : Int) := by omega
    have hB4 : Blk ((w3.setCell ⟨q, 2, none⟩ (.int .i64 (R1 : Int))).setCell ⟨q, 3, none⟩ (.int .i64 (K1 : Int))) q 83 #[.slice A n cc, .int .i64 (D1.i : Int), .int .i64 (D1.rest : Int), .int .i64 (D1.r : Int)] := by
      rw [hD1, hR1, hK1]
      have := (HB3.out.set_ 2 (.int .i64 ((r - B : Nat) : Int))).set_ 3 (.int .i64 ((k - B : Nat) : Int))
      simpa using this
    have hqw : w2.heap.size ≤ q := by rw [← Hq.out]; exact Nat.le_refl _
    have hF4 : Fr [] w2 ((w3.setCell ⟨q, 2, none⟩ (.int .i64 (R1 : Int))).setCell ⟨q, 3, none⟩ (.int .i64 (K1 : Int))) := (HF3.out.setCell (.inr hqw) _).setCell (.inr hqw) _
    have k7 := (HB3.out.set_ 2 (.int .i64 (R1 : Int))).cell 3
    have k8 := (HB3.out.set_ 2 (.int .i64 (R1 : Int))).frozen 3
    simp at k7
    have HB4' := Lib.hid hB4
    have HF4' := Lib.hid hF4
    have HD1 := Lib.hid hD1
    clear hB4 hF4 hD1 hb hR1 hK1 hqw
    go_wp2_with fail
    have HB4 := HB4'
    have HF4 := HF4'
    go_loopw [49] (fun _ wr => ∃ f : Dec, (f = D1 ∨ (D1.r < 16777216 ∧ decScale bs true D1 = some (true, f) ∧ 16777216 ≤ f.r)) ∧ Fr [] w2 wr ∧ Blk wr q 83 #[.slice A n cc, .int .i64 (f.i : Int), .int .i64 (f.rest : Int), .int .i64 (f.r : Int)]) (fun _ wr => 4294967296 - (intOf ((wr.cell? ⟨q, 3, none⟩).getD undef)).toNat)
    case atStart => exact ⟨D1, .inl rfl, HF4.out, HB4.out⟩
    case round =>
      obtain ⟨f, hf, hF, hB⟩ := hrel
      have Hf := Lib.hid hf
      have HF := Lib.hid hF
      have d0 := hB.cell 0
      have d1 := hB.cell 1
      have d2 := hB.cell 2
      have d3 := hB.cell 3
      have g1 := hB.frozen 1
      have g2 := hB.frozen 2
      have g3 := hB.frozen 3
      have hlq := hB.lt
      simp at d0 d1 d2 d3
      have HBr := Lib.hid hB
      clear hf hF hB
      by_cases hlt2 : f.r < 16777216
      · have hfe : f = D1 := by
          rcases Hf.out with h0 | ⟨_, _, h0⟩
          · exact h0
          · omega
        have eg : decide ((f.r : Int) < 16777216) = true := by simp; omega
        have Hfe := Lib.hid hfe
        clear hfe
        by_cases hin : f.i < n
        · have ei : decide (n ≤ f.i) = false := by simp; omega
          have hrest : f.rest < 16777216 := by rw [Hfe.out] at hlt2 ⊢; have := HrD.out; omega
          obtain ⟨x, hx⟩ : ∃ x, bs[f.i]? = some x := ⟨_, List.getElem?_eq_getElem (by have := Hn.out; omega)⟩
          have hmore : decScale bs true D1 = some (true, ⟨f.i + 1, 256 * f.rest + x.toNat, f.r * 256⟩) := by
            rw [← Hfe.out, decScale_more hlt2 (by rw [← Hn.out]; exact hin), List.getD_eq_getElem?_getD, hx]; rfl
          have hfi : f.i ≤ 1000000 := by rw [Hfe.out, HD1.out]; exact hi
          have hf1 : 253952 ≤ f.r := by rw [Hfe.out]; exact Hr1.out
          obtain ⟨I, R, G⟩ := f
          simp only at *
          have hcell : ∀ W, Fr [] w2 W → ∃ ad, A = some ad ∧ W.cell? (ad.add I) = some (.int .u8 (x.toNat : Int)) := by
            intro W hF
            have hS := H2.out.2.1.fr0 hF
            rw [← Hn.out] at hS
            obtain ⟨ad, r1, c1⟩ := hS.cellAt hx
            exact ⟨ad, r1, c1⟩
          obtain ⟨ad, rfl, -⟩ := hcell wr HF.out
          have hcells : ∀ W, Fr [] w2 W → W.cell? (ad.add I) = some (.int .u8 (x.toNat : Int)) := by
            intro W hF
            obtain ⟨a1, r1, c1⟩ := hcell W hF
            have r2 := Option.some.inj r1
            rw [r2]
            exact c1
          have hxl := x.toNat_lt
          obtain ⟨M, hM⟩ : ∃ M, M = G * 256 := ⟨_, rfl⟩
          have eM : 256 * (G : Int) = (M : Int) := by omega
          obtain ⟨U, hU⟩ : ∃ U, U = 256 * R + x.toNat := ⟨_, rfl⟩
          have eU : 256 * (R : Int) + (x.toNat : Int) = (U : Int) := by omega
          have v1 : IntKind.i64.wrap (256 * (R : Int)) = 256 * (R : Int) := IntWalk.i64_in _ (by omega)
          have v2 : IntKind.i64.wrap (U : Int) = (U : Int) := IntWalk.i64_in _ (by omega)
          have v3 : IntKind.i64.wrap (x.toNat : Int) = (x.toNat : Int) := IntWalk.i64_in _ (by omega)
          have v4 : IntKind.i64.wrap (M : Int) = (M : Int) := IntWalk.i64_in _ (by omega)
          rw [← hM, ← hU] at hmore
          have hqn : w2.heap.size ≤ q := by rw [Hq.out]; exact Nat.le_refl _
          have b5 : Blk (wr.setCell ⟨q, 3, none⟩ (.int .i64 (M : Int))) q 83 #[.slice (some ad) n cc, .int .i64 (I : Int), .int .i64 (R : Int), .int .i64 (M : Int)] := by
            have := HBr.out.set_ 3 (.int .i64 (M : Int)); simpa using this
          have f5 : Fr [] w2 (wr.setCell ⟨q, 3, none⟩ (.int .i64 (M : Int))) := HF.out.setCell (.inr hqn) _
          generalize hw5 : wr.setCell ⟨q, 3, none⟩ (.int .i64 (M : Int)) = w5 at b5 f5
          have Hw5 := Lib.hid hw5
          have Hmore := Lib.hid hmore
          have HM := Lib.hid hM
          have Hlt2 := Lib.hid hlt2
          have B5 := Lib.hid b5
          have F5 := Lib.hid f5
          have Hcells := Lib.hid hcells
          have Hd3 := Lib.hid d3
          clear hw5 hmore hM hlt2 hU hx hcell hcells b5 f5
          go_upto_region 18 with fail
          rw [Hw5.out]
          clear d0 d1 d2 d3 g1 g2 g3 hlq eg
          have d0 := B5.out.drew.cell 0
          have d1 := B5.out.drew.cell 1
          have d2 := B5.out.drew.cell 2
          have g2 := B5.out.drew.frozen 2
          simp at d0 d1 d2
          have dx := Hcells.out _ F5.out.drew
          have b6 : Blk (w5.drew.setCell ⟨q, 2, none⟩ (.int .i64 (U : Int))) q 83 #[.slice (some ad) n cc, .int .i64 (I : Int), .int .i64 (U : Int), .int .i64 (M : Int)] := by
            have := B5.out.drew.set_ 2 (.int .i64 (U : Int)); simpa using this
          have f6 : Fr [] w2 (w5.drew.setCell ⟨q, 2, none⟩ (.int .i64 (U : Int))) := F5.out.drew.setCell (.inr hqn) _
          have p0 := b6.cell 0
          have p1 := b6.cell 1
          simp at p0 p1
          have px := Hcells.out _ f6
          have B6 := Lib.hid b6
          have F6 := Lib.hid f6
          clear b6 f6
          refine wp_region_held_drew (S := fun W => W.cell? ⟨q, 0, none⟩ = some (.slice (some ad) n cc) ∧ W.cell? ⟨q, 1, none⟩ = some (.int .i64 (I : Int)) ∧ W.cell? (ad.add I) = some (.int .u8 (x.toNat : Int))) (by kernel_rfl) ?_ (fun hHeld => ?_)
          · (repeat' (first | trivial | assumption | refine ⟨?_, ?_⟩))
          refine wpAnyH_pick 0 (v := ?_) rfl (by kernel_rfl) (by kernel_rfl) (by kernel_rfl) (fun _ _ _ h => h) (by assumption) (by rfl) ?_ ?_
          rotate_left
          · (intro w hSw; (try dsimp only at hSw); go_simp) <;> (with_reducible rfl)
          (try simp only [Act.put, List.setIfInBounds_toArray, List.set_cons_zero, List.set_cons_succ])
          refine wpAnyH_pick 3 (v := ?_) rfl (by kernel_rfl) (by kernel_rfl) (by kernel_rfl) (fun _ _ _ h => h) (by assumption) (by rfl) ?_ ?_
          rotate_left
          · (intro w hSw; (try dsimp only at hSw); go_simp) <;> (with_reducible rfl)
          (try simp only [Act.put, List.setIfInBounds_toArray, List.set_cons_zero, List.set_cons_succ])
          refine wpAnyH_pick 4 (v := ?_) rfl (by kernel_rfl) (by kernel_rfl) (by kernel_rfl) (fun _ _ _ h => h) (by assumption) (by rfl) ?_ ?_
          rotate_left
          · (intro w hSw; (try dsimp only at hSw); go_simp) <;> (with_reducible rfl)
          (try simp only [Act.put, List.setIfInBounds_toArray, List.set_cons_zero, List.set_cons_succ])
          refine wpAnyH_pick 5 (v := ?_) rfl (by kernel_rfl) (by kernel_rfl) (by kernel_rfl) (fun _ _ _ h => h) (by assumption) (by rfl) ?_ ?_
          rotate_left
          · (intro w hSw; (try dsimp only at hSw); go_simp) <;> (with_reducible rfl)
          (try simp only [Act.put, List.setIfInBounds_toArray, List.set_cons_zero, List.set_cons_succ])
          refine wpAnyH_pick 6 (v := ?_) rfl (by kernel_rfl) (by kernel_rfl) (by kernel_rfl) (fun _ _ _ h => h) (by assumption) (by rfl) ?_ ?_
          rotate_left
          · (intro w hSw; (try dsimp only at hSw); go_simp) <;> (with_reducible rfl)
          (try simp only [Act.put, List.setIfInBounds_toArray, List.set_cons_zero, List.set_cons_succ])
          refine wpAnyH_pick 7 (v := ?_) rfl (by kernel_rfl) (by kernel_rfl) (by kernel_rfl) (fun _ _ _ h => h) (by assumption) (by rfl) ?_ ?_
          rotate_left
          · (intro w hSw; (try dsimp only at hSw); go_simp) <;> (with_reducible rfl)
          (try simp only [Act.put, List.setIfInBounds_toArray, List.set_cons_zero, List.set_cons_succ])
          refine wpAnyH_pick 8 (v := ?_) rfl (by kernel_rfl) (by kernel_rfl) (by kernel_rfl) (fun _ _ _ h => h) (by assumption) (by rfl) ?_ ?_
          rotate_left
          · (intro w hSw; (try dsimp only at hSw); go_simp) <;> (with_reducible rfl)
          (try simp only [Act.put, List.setIfInBounds_toArray, List.set_cons_zero, List.set_cons_succ])
          refine wpAnyH_pick 9 (v := ?_) rfl (by kernel_rfl) (by kernel_rfl) (by kernel_rfl) (fun _ _ _ h => h) (by assumption) (by rfl) ?_ ?_
          rotate_left
          · (intro w hSw; (try dsimp only at hSw); go_simp) <;> (with_reducible rfl)
          (try simp only [Act.put, List.setIfInBounds_toArray, List.set_cons_zero, List.set_cons_succ])
          refine wpAnyH_ready (rs := [1]) (by kernel_rfl) (by simp) ?_
          refine AllReadyH_pick rfl (fun K hK => ?_) (AllReadyH.nil)
          skip
          go_simp
          refine hK.out _ _ ?_ (fun hHeld => ?_)
          · (repeat' (first | trivial | assumption | refine ⟨?_, ?_⟩))
          clear hK K
          (try simp only [Act.put, List.setIfInBounds_toArray, List.set_cons_zero, List.set_cons_succ])
          refine wpAnyH_pick 2 (v := ?_) rfl (by kernel_rfl) (by kernel_rfl) (by kernel_rfl) (fun _ _ _ h => h) (by assumption) (by rfl) ?_ ?_
          rotate_left
          · (intro w hSw; (try dsimp only at hSw); go_simp) <;> (with_reducible rfl)
          (try simp only [Act.put, List.setIfInBounds_toArray, List.set_cons_zero, List.set_cons_succ])
          refine wpAnyH_pick 10 (v := ?_) rfl (by kernel_rfl) (by kernel_rfl) (by kernel_rfl) (fun _ _ _ h => h) (by assumption) (by rfl) ?_ ?_
          rotate_left
          · (intro w hSw; (try dsimp only at hSw); go_simp) <;> (with_reducible rfl)
          (try simp only [Act.put, List.setIfInBounds_toArray, List.set_cons_zero, List.set_cons_succ])
          refine wpAnyH_pick 11 (v := ?_) rfl (by kernel_rfl) (by kernel_rfl) (by kernel_rfl) (fun _ _ _ h => h) (by assumption) (by rfl) ?_ ?_
          rotate_left
          · (intro w hSw; (try dsimp only at hSw); go_simp) <;> (with_reducible rfl)
          (try simp only [Act.put, List.setIfInBounds_toArray, List.set_cons_zero, List.set_cons_succ])
          refine wpAnyH_ready (rs := [12]) (by kernel_rfl) (by simp) ?_
          refine AllReadyH_pick rfl (fun K hK => ?_) (AllReadyH.nil)
          skip
          go_simp
          refine hK.out _ _ ?_ (fun hHeld => ?_)
          · (repeat' (first | trivial | assumption | refine ⟨?_, ?_⟩))
          clear hK K
          (try simp only [Act.put, List.setIfInBounds_toArray, List.set_cons_zero, List.set_cons_succ])
          refine wpAnyH_done (by kernel_rfl) ?_ _
          skip
          have b7 : Blk (w5.setCell ⟨q, 2, none⟩ (.int .i64 (U : Int))).drew q 83 #[.slice (some ad) n cc, .int .i64 (I : Int), .int .i64 (U : Int), .int .i64 (M : Int)] := B6.out
          have f7 : Fr [] w2 (w5.setCell ⟨q, 2, none⟩ (.int .i64 (U : Int))).drew := F6.out
          generalize (w5.setCell ⟨q, 2, none⟩ (.int .i64 (U : Int))).drew = w7 at b7 f7 ⊢
          clear hHeld d0 d1 d2 g2 dx p0 p1 px B6 F6
          have d1 := b7.cell 1
          have g1 := b7.frozen 1
          have hlq := b7.lt
          simp at d1
          have b8 : Blk (w7.setCell ⟨q, 1, none⟩ (.int .i64 ((I + 1 : Nat) : Int))) q 83 #[.slice (some ad) n cc, .int .i64 ((I + 1 : Nat) : Int), .int .i64 (U : Int), .int .i64 (M : Int)] := by
            have := b7.set_ 1 (.int .i64 ((I + 1 : Nat) : Int)); simpa using this
          have f8 : Fr [] w2 (w7.setCell ⟨q, 1, none⟩ (.int .i64 ((I + 1 : Nat) : Int))) := f7.setCell (.inr hqn) _
          have B8 := Lib.hid b8
          have F8 := Lib.hid f8
          clear b7 f7 b8 f8
          go_wp2_with fail
          have hm3 : (w7.setCell ⟨q, 1, none⟩ (.int .i64 ((I : Int) + 1))).cell? ⟨q, 3, none⟩ = some (.int .i64 (M : Int)) := by
            have := B8.out.cell 3
            simpa using this
          have hMG : G < M ∧ 16777216 ≤ M ∧ M ≤ 4294967295 := by have := HM.out; have := Hlt2.out; omega
          refine ⟨⟨⟨I + 1, U, M⟩, .inr ⟨by rw [← Hfe.out]; exact Hlt2.out, Hmore.out, hMG.2.1⟩, F8.out, B8.out⟩, ?_⟩
          rw [hm3, Hd3.out]
          simp only [intOf, Option.getD_some]
          omega
        · have ei : decide ((n : Int) ≤ (f.i : Int)) = true := by simp; omega
          have ei2 : decide (n ≤ f.i) = true := by simp; omega
          have hnone : decScale bs true D1 = none := by rw [← Hfe.out]; exact decScale_none hlt2 (by rw [← Hn.out]; omega)
          have Hnone := Lib.hid hnone
          have Hlt2 := Lib.hid hlt2
          have Hin := Lib.hid hin
          clear hnone hlt2 hin
          go_wp2_with fail
          go_ret2
          refine .inr ⟨?_, rfl, HFd.out.trans HF.out (by simp)⟩
          rw [Hget.out, HD.out, Hnone.out]
      · have hdone : decScale bs true D1 = some (true, f) := by
          rcases Hf.out with h0 | ⟨_, h0, _⟩
          · rw [h0]; exact decScale_same (by rw [← h0]; exact hlt2)
          · exact h0
        have eg : decide ((f.r : Int) < 16777216) = false := by simp; omega
        have Hdone := Lib.hid hdone
        have hP := HR2.out.fr HF.out (by simp)
        have HP := Lib.hid hP
        have hz5 : (Try.prog.info? 83).map (·.size) = some (#[Value.slice A n cc, .int .i64 (f.i : Int), .int .i64 (f.rest : Int), .int .i64 (f.r : Int)] : Array Value).size := Hz.out
        have Hz5 := Lib.hid hz5
        clear hdone hlt2 hP hz5
        go_upto_region 20 with fail
        have m0 := HP.out.cell 0
        have m1 := HP.out.cell 1
        have m2 := HP.out.cell 2
        have m3 := HP.out.cell 3
        have n0 := HP.out.frozen 0
        have n1 := HP.out.frozen 1
        have n2 := HP.out.frozen 2
        have n3 := HP.out.frozen 3
        simp at m0 m1 m2 m3
        clear g1 g2 g3
        go_wp2_with fail
        go_ret2
        have hfr : Fr [p] wr ((((wr.setCell ⟨p, 0, none⟩ (.slice A n cc)).setCell ⟨p, 1, none⟩ (.int .i64 (f.i : Int))).setCell ⟨p, 2, none⟩ (.int .i64 (f.rest : Int))).setCell ⟨p, 3, none⟩ (.int .i64 (f.r : Int))) :=
          ((((Fr.refl [p] wr).setCell (.inl (by simp)) _).setCell (.inl (by simp)) _).setCell (.inl (by simp)) _).setCell (.inl (by simp)) _
        refine .inl ⟨true, f, by rw [Hget.out, HD.out, Hdone.out], rfl, ⟨?_, ?_, H2.out.2.2⟩, ((HFd.out.trans HF.out (by simp)).mono (S' := [p]) (by simp)).trans hfr (fun x hx => .inl hx)⟩
        · rw [← Hn.out]
          have := (((HP.out.set_ 0 (.slice A n cc)).set_ 1 (.int .i64 (f.i : Int))).set_ 2 (.int .i64 (f.rest : Int))).set_ 3 (.int .i64 (f.r : Int))
          simpa using this
        · refine (H2.out.2.1.fr0 HF.out).fr hfr ?_
          intro k hk hm
          simp at hm
          subst hm
          cases A with
          | none => simp [Value.ownBlock] at hk
          | some ad => exact H2.out.2.2 ad rfl (by simpa [Value.ownBlock] using hk)
end Go.Proofs.Ytfjlepnodmeaaaa
