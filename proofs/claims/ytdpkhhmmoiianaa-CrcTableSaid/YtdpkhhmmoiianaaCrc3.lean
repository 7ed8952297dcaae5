/-
  Contracts of package crc: matrices, Zeros, Join; no condition.
-/
import Derived.Test.YtdpkhhmmoiianaaCrc2
import Derived.Test.YtdpkhhmmoiianaaRegion
import Derived.Test.YtdpkhhmmoiianaaGolPlain
namespace Go.Proofs.Ytdpkhhmmoiianaa
open Go.RowKit

/-- The matrix of n steps. -/
def mat (n : Nat) : Array Value := arr 32 fun k => stN n (1#32 <<< k)

theorem zero32 : (Try.prog.info? 46).map (fun i => (i.zero, i.size)) = some (some (.agg (Array.replicate 32 (.int .u32 0))), 32) := by kernel_rfl

/-- The lowest k bits. -/
def lowBits (r : W32) (k : Nat) : W32 := BitVec.ofNat 32 (r.toNat % 2 ^ k)
theorem lowBits_zero (r : W32) : lowBits r 0 = 0#32 := by simp [lowBits, Nat.mod_one]
theorem lowBits_all (r : W32) : lowBits r 32 = r := by
  unfold lowBits
  rw [Nat.mod_eq_of_lt r.isLt]; simp
theorem lowBits_succ (r : W32) (k : Nat) (h : k < 32) : lowBits r (k + 1) = lowBits r k ^^^ (if r.getLsbD k then 1#32 <<< k else 0#32) := by
  apply BitVec.eq_of_getLsbD_eq
  intro i hi
  unfold lowBits
  rw [BitVec.getLsbD_xor]
  simp only [BitVec.getLsbD_ofNat, Nat.testBit_mod_two_pow, hi, decide_true, Bool.true_and]
  have e : (if r.getLsbD k then 1#32 <<< k else 0#32).getLsbD i = (decide (i = k) && r.getLsbD k) := by
    cases h2 : r.getLsbD k
    · simp
    · by_cases h3 : i = k
      · subst h3; simp [hi]
      · by_cases h4 : i < k
        · simp [h3, h4]
        · simp [h3, h4]; omega
  rw [e]
  show (decide (i < k + 1) && r.getLsbD i) = ((decide (i < k) && r.getLsbD i) ^^ (decide (i = k) && r.getLsbD k))
  by_cases h1 : i = k
  · subst h1; simp
  · by_cases h2 : i < k
    · simp [h1, h2, show i < k + 1 by omega]
    · simp [h1, h2, show ¬ i < k + 1 by omega]

theorem times_code (n : Nat) (r : W32) (k : Nat) (h : k < 32) :
    bits .xor .u32 ((stN n (lowBits r k)).toNat : Int) (IntKind.wrap .u32 (((stN n (1#32 <<< k)).toNat : Int) * bits .and .u32 ((r.toNat : Int) / 2 ^ k) 1)) = ((stN n (lowBits r (k + 1))).toNat : Int) := by
  have h1 : (r.toNat : Int) / 2 ^ k = ((r >>> k).toNat : Int) := by rw [toNat_shr]; simp
  rw [h1, and_one_w32]
  have hb : (r >>> k).toNat % 2 = (r.getLsbD k).toNat := by
    have := low_w32 (r >>> k)
    rw [BitVec.getLsbD_ushiftRight, Nat.add_zero] at this
    rw [this]
    rcases Nat.mod_two_eq_zero_or_one (r >>> k).toNat with h | h <;> rw [h] <;> rfl
  rw [hb, lowBits_succ r k h, stN_xor]
  cases hc : r.getLsbD k
  · rw [show ((false.toNat : Nat) : Int) = 0 by rfl, Int.mul_zero, show IntKind.wrap .u32 0 = ((0#32 : W32).toNat : Int) by decide, xor_w32]
    simp only [Bool.false_eq_true, if_false, stN_zero]
  · rw [show ((true.toNat : Nat) : Int) = 1 by rfl, Int.mul_one, wrap_u32_nat _ (stN n (1#32 <<< k)).isLt, xor_w32]
    simp only [if_true]

set_option maxRecDepth 20000 in
theorem times_any (n : Nat) (r : W32) (w : World) :
    Calls Try.prog 23 #[.agg (mat n), V32 r] w fun e w' => e = .returned (V32 (stN n r)) ∧ Fr [] w w' := by
  have hm : (mat n).size = 32 := arr_size _ _
  obtain ⟨cs, hcs⟩ : ∃ cs, cs = mat n := ⟨_, rfl⟩
  rw [← hcs] at hm ⊢
  have Hc := Lib.hid hcs; clear hcs
  go_enter Try.func23, Try.ntmps23
  go_wp2_with fail
  generalize hw : w.alloc (.cells cs 46) = w2
  have hB : Blk w2 w.heap.size 46 cs := by rw [← hw]; exact Blk.new _ _ _
  have hF : Fr [] w w2 := by rw [← hw]; exact (Fr.refl _ _).alloc _
  have HB := Lib.hid hB; clear hB
  have HF := Lib.hid hF; clear hF hw
  generalize hp : w.heap.size = p at HB ⊢
  clear hp
  go_loopw [5, 7] (fun s5 s7 wr => ∃ (k : Nat), k ≤ 32 ∧ s7 = .int .i64 (k : Int) ∧ s5 = V32 (stN n (lowBits r k)) ∧ Fr [] w wr ∧ Blk wr p 46 cs) (fun _ s7 _ => 32 - (intOf s7).toNat)
  case atStart => exact ⟨0, by omega, rfl, by rw [lowBits_zero, stN_zero]; rfl, HF.out, HB.out⟩
  case round =>
    obtain ⟨k, hk, rfl, rfl, hF, hB⟩ := hrel
    by_cases hlt : k < 32
    · have eg : decide ((k : Int) < 32) = true := by simp; omega
      have eT := times_code n r k hlt
      rw [IntKind.wrap_u32'] at eT
      have c1 := hB.cell k
      rw [Hc.out, mat, arr_get _ hlt] at c1
      have HF2 := Lib.hid hF; clear hF
      have HB2 := Lib.hid hB; clear hB
      go_upto_region 5 with fail
      go_quiet (fail)
      go_wp2_with fail
      refine ⟨⟨k + 1, by omega, by simp, rfl, HF2.out.drewN _, HB2.out.drewN _⟩, by simp [intOf]; omega⟩
    · obtain rfl : k = 32 := by omega
      have eg : decide ((32 : Int) < 32) = false := by decide
      have HF2 := Lib.hid hF; clear hF
      have HB2 := Lib.hid hB; clear hB
      rw [lowBits_all]
      go_wp2_with fail
      go_ret
      exact ⟨rfl, HF2.out⟩

/-- .. as an operation. -/
theorem exec_load {P : Program} {a : Act} {o : Oper} {ty : TypeId} {x : Operand} {g : Nat} {cs : Array Value} {W : World} (ho : o.op = .load ty x) (hx : a.eval x = .pointer (some ⟨g, 0, none⟩))
    (h : (loadVar ty ⟨g, 0, none⟩).run P W = .ok (.agg cs) W) : (execOp a.eval o).run P W = .ok (.value (.agg cs)) W := by
  unfold execOp
  simp only [ho, hx, Instr.loadAt, Instr.sureAddr, Sem.run_bind, Sem.run_pure, Result.andThen_ok, h]

/-- A whole array, read. -/
theorem load_arr {W : World} {p : Nat} {t : TypeId} {cs : Array Value} (hB : Blk W p t cs) {ty : TypeId} {n : Nat} {e : TypeId} (hu : Try.prog.underlying ty = some (.array n e)) (hi : (Try.prog.info? ty).map (·.size) = some cs.size) :
    (loadVar ty ⟨p, 0, none⟩).run Try.prog W = .ok (.agg cs) W :=
  run_loadVar_row W p t ty cs (0, 0) _ hB.here hu rfl hi

theorem und32 : Try.prog.underlying 46 = some (.array 32 23) := by kernel_rfl

theorem mat_step (n k j : Nat) : (if j = k then stN n (stN n (1#32 <<< k)) else if j < k then stN (n + n) (1#32 <<< j) else 0#32) = if j < k + 1 then stN (n + n) (1#32 <<< j) else 0#32 := by
  by_cases h : j = k
  · subst h; rw [if_pos rfl, if_pos (by omega), stN_add]
  · rw [if_neg h]
    by_cases h2 : j < k
    · rw [if_pos h2, if_pos (by omega)]
    · rw [if_neg h2, if_neg (by omega)]

set_option maxRecDepth 20000 in
theorem squared_any (n : Nat) (w : World) :
    Calls Try.prog 24 #[.agg (mat n)] w fun e w' => e = .returned (.agg (mat (n + n))) ∧ Fr [] w w' := by
  have hm : (mat n).size = 32 := arr_size _ _
  have z := (zero_of_info zero32).1
  go_enter Try.func24, Try.ntmps24
  go_wp2_with fail
  have hF : Fr [] w (((w.alloc (Obj.cells (mat n) 46)).alloc (Obj.cells (Array.replicate 32 (Value.int IntKind.u32 0)) 46)).alloc (Obj.cells (Array.replicate 32 (Value.int IntKind.u32 0)) 46)) := (((Fr.refl _ _).alloc _).alloc _).alloc _
  have hM := ((Blk.new w 46 (mat n)).alloc (Obj.cells (Array.replicate 32 (Value.int IntKind.u32 0)) 46)).alloc (Obj.cells (Array.replicate 32 (Value.int IntKind.u32 0)) 46)
  have hA := (Blk.new (w.alloc (Obj.cells (mat n) 46)) 46 (Array.replicate 32 (Value.int IntKind.u32 0))).alloc (Obj.cells (Array.replicate 32 (Value.int IntKind.u32 0)) 46)
  have hB := Blk.new ((w.alloc (Obj.cells (mat n) 46)).alloc (Obj.cells (Array.replicate 32 (Value.int IntKind.u32 0)) 46)) 46 (Array.replicate 32 (Value.int IntKind.u32 0))
  simp only [World.size_alloc] at hA hB
  generalize hw2 : (((w.alloc (Obj.cells (mat n) 46)).alloc (Obj.cells (Array.replicate 32 (Value.int IntKind.u32 0)) 46)).alloc (Obj.cells (Array.replicate 32 (Value.int IntKind.u32 0)) 46)) = w2 at hF hM hA hB ⊢
  rw [arr_zero] at hB
  have hq : ∃ m q p, m = w.heap.size ∧ q = w.heap.size + 1 ∧ p = w.heap.size + 1 + 1 := ⟨_, _, _, rfl, rfl, rfl⟩
  obtain ⟨m, q, p, hm1, hq1, hp1⟩ := hq
  rw [← hp1] at hB ⊢
  rw [← hq1] at hA ⊢
  rw [← hm1] at hM ⊢
  have hd : m < q ∧ q < p ∧ w.heap.size ≤ m := by omega
  have HD := Lib.hid hd
  clear hw2 hm1 hq1 hp1 hd
  have HF := Lib.hid hF; clear hF
  have HA := Lib.hid hA; clear hA
  have HB := Lib.hid hB; clear hB
  have HM := Lib.hid hM; clear hM z
  go_loopw [5] (fun s5 wr => ∃ (k : Nat) (cs : Array Value), k ≤ 32 ∧ s5 = .int .i64 (k : Int) ∧ Fr [] w wr ∧ Blk wr m 46 (mat n) ∧ Blk wr q 46 cs ∧ cs.size = 32 ∧ Blk wr p 46 (arr 32 fun j => if j < k then stN (n + n) (1#32 <<< j) else 0#32)) (fun s5 _ => 32 - (intOf s5).toNat)
  case atStart => exact ⟨0, _, by omega, rfl, HF.out, HM.out, HA.out, by simp, by simpa using HB.out⟩
  case round =>
    obtain ⟨k, cs, hk, rfl, hF, hM, hA, hcs, hB⟩ := hrel
    have Hcs := Lib.hid hcs; clear hcs
    by_cases hlt : k < 32
    · have eg : decide ((k : Int) < 32) = true := by simp; omega
      have c1 := hM.cell k
      rw [mat, arr_get _ hlt] at c1
      have hlm := hM.lt
      have hlp := hB.lt
      have HF2 := Lib.hid hF; clear hF
      have HB2 := Lib.hid hB; clear hB
      have HA2 := Lib.hid hA; clear hA
      have hMd := hM.drew
      have hlI : (k : Int) < 32 := by omega
      go_upto_region 5 with fail
      refine wp_region_held_drew (S := fun W => Blk W m 46 (mat n) ∧ W.cell? ⟨m, k, none⟩ = some (V32 (stN n (1#32 <<< k)))) (by kernel_rfl) ?_ (fun hHeld => ?_)
      · (repeat' (first | trivial | assumption | refine ⟨?_, ?_⟩))
      refine wpAnyH_pick 0 (v := ?_) rfl (by kernel_rfl) (by kernel_rfl) (by kernel_rfl) (fun _ _ _ h => h) (by assumption) (by rfl) ?_ ?_
      rotate_left
      · (intro w hSw; (try dsimp only at hSw); go_simp) <;> (with_reducible rfl)
      (try simp only [Act.put, List.setIfInBounds_toArray, List.set_cons_zero, List.set_cons_succ])
      refine wpAnyH_pick 1 rfl (by kernel_rfl) (by kernel_rfl) (by kernel_rfl) (fun _ _ _ h => h) (by assumption) (by rfl) (fun w hSw => exec_load rfl rfl (load_arr hSw.1 und32 (by rw [mat, arr_size]; exact (zero_of_info zero32).2))) ?_
      (try simp only [Act.put, List.setIfInBounds_toArray, List.set_cons_zero, List.set_cons_succ])
      refine wpAnyH_pick 2 (v := ?_) rfl (by kernel_rfl) (by kernel_rfl) (by kernel_rfl) (fun _ _ _ h => h) (by assumption) (by rfl) ?_ ?_
      rotate_left
      · (intro w hSw; (try dsimp only at hSw); go_simp) <;> (with_reducible rfl)
      (try simp only [Act.put, List.setIfInBounds_toArray, List.set_cons_zero, List.set_cons_succ])
      refine wpAnyH_pick 3 (v := ?_) rfl (by kernel_rfl) (by kernel_rfl) (by kernel_rfl) (fun _ _ _ h => h) (by assumption) (by rfl) ?_ ?_
      rotate_left
      · (intro w hSw; (try dsimp only at hSw); go_simp) <;> (with_reducible rfl)
      (try simp only [Act.put, List.setIfInBounds_toArray, List.set_cons_zero, List.set_cons_succ])
      refine wpAnyH_pick 4 (v := ?_) rfl (by kernel_rfl) (by kernel_rfl) (by kernel_rfl) (fun _ _ _ h => h) (by assumption) (by rfl) ?_ ?_
      rotate_left
      · (intro w hSw; (try dsimp only at hSw); go_simp) <;> (with_reducible rfl)
      (try simp only [Act.put, List.setIfInBounds_toArray, List.set_cons_zero, List.set_cons_succ])
      refine wpAnyH_ready (rs := [5]) (by kernel_rfl) (by simp) ?_
      refine AllReadyH_pick rfl (fun K hK => ?_) (AllReadyH.nil)
      · go_simp
        refine (times_any n _ _).mono ?_
        rintro e wT ⟨rfl, fT⟩
        have hMT := hMd.fr fT (by simp)
        have cT : wT.cell? ⟨m, k, none⟩ = some (V32 (stN n (1#32 <<< k))) := by rw [hMT.cell k, mat, arr_get _ hlt]
        have hBT := (HB2.out.drew).fr fT (by simp)
        have fT0 := (HF2.out.drew).trans fT (by simp)
        have hAT := (HA2.out.drew).fr fT (by simp)
        have cB := hBT.cell k
        rw [arr_get _ hlt] at cB
        have cF := hBT.frozen k
        have hM3 := hMT.far (p := ⟨p, k, none⟩) (by simp; have := HD.out; omega) (V32 (stN n (stN n (1#32 <<< k))))
        have hA3 := hAT.far (p := ⟨p, k, none⟩) (by simp; have := HD.out; omega) (V32 (stN n (stN n (1#32 <<< k))))
        have hB3 := hBT.set_ k (V32 (stN n (stN n (1#32 <<< k))))
        have hF3 := fT0.setCell (p := ⟨p, k, none⟩) (.inr (by simp; have := HD.out; omega)) (V32 (stN n (stN n (1#32 <<< k))))
        have c3 := hM3.cell k
        rw [mat, arr_get _ hlt] at c3
        have HF4 := Lib.hid hF3; clear hF3
        have HB4 := Lib.hid hB3; clear hB3 hBT hAT fT0
        go_wp2_with fail
        refine hK.out _ _ ?_ (fun hHeld => ?_)
        · (repeat' (first | trivial | assumption | refine ⟨?_, ?_⟩))
        clear hK K
        (try simp only [Act.put, List.setIfInBounds_toArray, List.set_cons_zero, List.set_cons_succ])
        refine wpAnyH_pick 6 (v := ?_) rfl (by kernel_rfl) (by kernel_rfl) (by kernel_rfl) (fun _ _ _ h => h) (by assumption) (by rfl) ?_ ?_
        rotate_left
        · (intro w hSw; (try dsimp only at hSw); go_simp) <;> (with_reducible rfl)
        (try simp only [Act.put, List.setIfInBounds_toArray, List.set_cons_zero, List.set_cons_succ])
        refine wpAnyH_ready (rs := [7]) (by kernel_rfl) (by simp) ?_
        refine AllReadyH_pick rfl (fun K hK => ?_) (AllReadyH.nil)
        · skip
          skip
          go_simp
          refine hK.out _ _ ?_ (fun hHeld => ?_)
          · (repeat' (first | trivial | assumption | refine ⟨?_, ?_⟩))
          clear hK K
          (try simp only [Act.put, List.setIfInBounds_toArray, List.set_cons_zero, List.set_cons_succ])
          refine wpAnyH_done (by kernel_rfl) ?_ _
          rw [arr_set, arr_congr (fun j _ => mat_step n k j)] at HB4
          go_wp2_with fail
          exact ⟨⟨k + 1, cs, by omega, by simp, HF4.out, hM3, hA3, Hcs.out, HB4.out⟩, by simp [intOf]; omega⟩
    · obtain rfl : k = 32 := by omega
      have eg : decide ((32 : Int) < 32) = false := by decide
      rw [arr_congr (g := fun j => stN (n + n) (1#32 <<< j)) (fun j hj => if_pos hj)] at hB
      change Blk wr p 46 (mat (n + n)) at hB
      have hs : (Try.prog.info? 46).map (·.size) = some (mat (n + n)).size := by rw [mat, arr_size]; exact (zero_of_info zero32).2
      have HF2 := Lib.hid hF; clear hF
      have HB2 := Lib.hid hB; clear hB
      have HA2 := Lib.hid hA; clear hA hM
      go_upto_region 7 with fail
      go_wp2_with (first
        | refine wpList_load_row rfl 46 _ rfl p rfl 46 _ _ _ HB2.out.here und32 rfl hs ?_
        | refine wpList_store_row rfl 46 _ _ rfl q _ rfl rfl 46 cs HA2.out.here hs (by rw [Hcs.out, mat, arr_size]) (arr_one _ _) ?_)
      refine bodyPost_ret (v := .agg (mat (n + n))) ?_ rfl ⟨rfl, ?_⟩
      · exact results_cell_row Try.results24 _ _ q 46 _ _ _ rfl (setRow_heap wr q cs _ _ _ HA2.out.here) und32 rfl hs
      · exact HF2.out.trans (S' := [q]) (Fr.setRow wr q _) (by intro x hx; simp at hx; subst hx; exact .inr (by have := HD.out; omega))

theorem mat_step1 (k j : Nat) : (if j = k then st (1#32 <<< k) else if j < k then stN 1 (1#32 <<< j) else 0#32) = if j < k + 1 then stN 1 (1#32 <<< j) else 0#32 := by
  by_cases h : j = k
  · subst h; rw [if_pos rfl, if_pos (by omega)]; rfl
  · rw [if_neg h]
    by_cases h2 : j < k
    · rw [if_pos h2, if_pos (by omega)]
    · rw [if_neg h2, if_neg (by omega)]
theorem shl_code : ∀ k : Nat, k < 32 → IntKind.wrap .u32 (2 ^ k) = ((1#32 <<< k : W32).toNat : Int) := by
  intro k hk
  rw [BitVec.toNat_shiftLeft, IntKind.wrap_u32', Nat.shiftLeft_eq]
  simp

set_option maxRecDepth 20000 in
theorem byteMatrix_any (w : World) :
    Calls Try.prog 22 #[] w fun e w' => e = .returned (.agg (mat 8)) ∧ Fr [] w w' := by
  have z := (zero_of_info zero32).1
  go_enter Try.func22, Try.ntmps22
  go_wp2_with fail
  have hF : Fr [] w ((w.alloc (Obj.cells (Array.replicate 32 (Value.int IntKind.u32 0)) 46)).alloc (Obj.cells (Array.replicate 32 (Value.int IntKind.u32 0)) 46)) := ((Fr.refl _ _).alloc _).alloc _
  have hA := (Blk.new w 46 (Array.replicate 32 (Value.int IntKind.u32 0))).alloc (Obj.cells (Array.replicate 32 (Value.int IntKind.u32 0)) 46)
  have hB := Blk.new (w.alloc (Obj.cells (Array.replicate 32 (Value.int IntKind.u32 0)) 46)) 46 (Array.replicate 32 (Value.int IntKind.u32 0))
  simp only [World.size_alloc] at hB
  generalize hw2 : ((w.alloc (Obj.cells (Array.replicate 32 (Value.int IntKind.u32 0)) 46)).alloc (Obj.cells (Array.replicate 32 (Value.int IntKind.u32 0)) 46)) = w2 at hF hA hB ⊢
  rw [arr_zero] at hB
  have hq : ∃ q p, q = w.heap.size ∧ p = w.heap.size + 1 := ⟨_, _, rfl, rfl⟩
  obtain ⟨q, p, hq1, hp1⟩ := hq
  rw [← hp1] at hB ⊢
  rw [← hq1] at hA ⊢
  have hd : q < p ∧ w.heap.size ≤ q := by omega
  have HD := Lib.hid hd
  clear hw2 hq1 hp1 hd
  have HF := Lib.hid hF; clear hF
  have HA := Lib.hid hA; clear hA
  have HB := Lib.hid hB; clear hB z
  go_loopw [3] (fun s3 wr => ∃ (k : Nat) (cs : Array Value), k ≤ 32 ∧ s3 = .int .i64 (k : Int) ∧ Fr [] w wr ∧ Blk wr q 46 cs ∧ cs.size = 32 ∧ Blk wr p 46 (arr 32 fun j => if j < k then stN 1 (1#32 <<< j) else 0#32)) (fun s3 _ => 32 - (intOf s3).toNat)
  case atStart => exact ⟨0, _, by omega, rfl, HF.out, HA.out, by simp, by simpa using HB.out⟩
  case round =>
    obtain ⟨k, cs, hk, rfl, hF, hA, hcs, hB⟩ := hrel
    have Hcs := Lib.hid hcs; clear hcs
    by_cases hlt : k < 32
    · have eg : decide ((k : Int) < 32) = true := by simp; omega
      have cB := hB.cell k
      rw [arr_get _ hlt] at cB
      have cF := hB.frozen k
      have hlI : (k : Int) < 32 := by omega
      have HF2 := Lib.hid hF; clear hF
      have HB2 := Lib.hid hB; clear hB
      have HA2 := Lib.hid hA; clear hA
      have eS := shl_code k hlt
      rw [IntKind.wrap_u32'] at eS
      obtain ⟨X, hX⟩ : ∃ X, X = 1#32 <<< k := ⟨_, rfl⟩
      rw [← hX] at eS
      have HX := Lib.hid hX; clear hX
      have eT := Lib.hid (timesX_any X wr)
      go_wp2_with fail
      refine eT.out.mono ?_
      rintro e w' ⟨rfl, rfl⟩
      clear eT
      go_wp2_with fail
      have hB3 := HB2.out.set_ k (V32 (st X))
      rw [arr_set, HX.out, arr_congr (fun j _ => mat_step1 k j), ← HX.out] at hB3
      refine ⟨⟨k + 1, cs, by omega, by simp, HF2.out.setCell (.inr (by simp; have := HD.out; omega)) _, HA2.out.far (by simp; have := HD.out; omega) _, Hcs.out, hB3⟩, by simp [intOf]; omega⟩
    · obtain rfl : k = 32 := by omega
      have eg : decide ((32 : Int) < 32) = false := by decide
      rw [arr_congr (g := fun j => stN 1 (1#32 <<< j)) (fun j hj => if_pos hj)] at hB
      change Blk wr p 46 (mat 1) at hB
      have hs : ∀ n, (Try.prog.info? 46).map (·.size) = some (mat n).size := fun n => by rw [mat, arr_size]; exact (zero_of_info zero32).2
      have HF2 := Lib.hid hF; clear hF
      have HB2 := Lib.hid hB; clear hB
      have HA2 := Lib.hid hA; clear hA
      go_upto_region 7 with fail
      go_wp2_with (refine wpList_load_row rfl 46 _ rfl p rfl 46 _ _ _ HB2.out.here und32 rfl (hs 1) ?_)
      refine (squared_any 1 _).mono ?_
      rintro e w3 ⟨rfl, f3⟩
      have h3 := HA2.out.fr f3 (by simp)
      have H3 := Lib.hid (And.intro h3 (HF2.out.trans f3 (by simp)))
      clear h3 f3
      go_wp2_with fail
      refine (squared_any 2 _).mono ?_
      rintro e w4 ⟨rfl, f4⟩
      have h4 := H3.out.1.fr f4 (by simp)
      have H4 := Lib.hid (And.intro h4 (H3.out.2.trans f4 (by simp)))
      clear h4 f4
      go_wp2_with fail
      refine (squared_any 4 _).mono ?_
      rintro e w5 ⟨rfl, f5⟩
      have h5 := H4.out.1.fr f5 (by simp)
      have H5 := Lib.hid (And.intro h5 (H4.out.2.trans f5 (by simp)))
      clear h5 f5
      go_wp2_with (refine wpList_store_row rfl 46 _ _ rfl q _ rfl rfl 46 cs H5.out.1.here (hs _) (by rw [Hcs.out, mat, arr_size]) (arr_one _ _) ?_)
      refine bodyPost_ret (v := .agg (mat 8)) ?_ rfl ⟨rfl, ?_⟩
      · exact results_cell_row Try.results22 _ _ q 46 _ _ _ rfl (setRow_heap w5 q cs _ _ _ H5.out.1.here) und32 rfl (hs 8)
      · exact H5.out.2.trans (S' := [q]) (Fr.setRow w5 q _) (by intro x hx; simp at hx; subst hx; exact .inr (by have := HD.out; omega))

theorem zeros_round (e x : Nat) (r : W32) : stN (e * x) r = stN ((e + e) * (x / 2)) (if x % 2 = 1 then stN e r else r) := by
  have hx : x = 2 * (x / 2) + x % 2 := by omega
  conv => lhs; rw [hx]
  generalize x / 2 = y
  rcases Nat.mod_two_eq_zero_or_one x with h | h
  · rw [h, if_neg (by omega), Nat.add_zero, ← Nat.mul_assoc, Nat.mul_comm e 2, Nat.two_mul]
  · rw [h, if_pos rfl, ← stN_add]
    congr 1
    rw [Nat.mul_add, Nat.mul_one, ← Nat.mul_assoc, Nat.mul_comm e 2, Nat.two_mul]; omega

set_option maxRecDepth 20000 in
set_option maxHeartbeats 4000000 in
theorem zeros_any (s : W32) (x : Nat) (w : World) (hx : x < 18446744073709551616) :
    Calls Try.prog 17 #[V32 s, .int .u64 (x : Int)] w fun e w' => e = .returned (V32 (inv (stN (8 * x) (inv s)))) ∧ Fr [] w w' := by
  have z := (zero_of_info zero32).1
  have hs : ∀ n, (Try.prog.info? 46).map (·.size) = some (mat n).size := fun n => by rw [mat, arr_size]; exact (zero_of_info zero32).2
  have eN := not_w32 s
  have sg := sg_u32
  go_enter Try.func17, Try.ntmps17
  go_wp2_with fail
  refine (byteMatrix_any w).mono ?_
  rintro e w1 ⟨rfl, hF1⟩
  have HF1 := Lib.hid hF1; clear hF1
  go_wp2_with (refine wpList_store_row rfl 46 _ _ rfl w1.heap.size _ rfl rfl 46 (Array.replicate 32 (Value.int IntKind.u32 0)) (heap_alloc_new _ _) (hs 8) (by rw [mat, arr_size]; simp) (arr_one _ _) ?_)
  rw [World.setRow_alloc_new]
  generalize hw : w1.alloc (.cells (mat 8) 46) = w2
  have hB : Blk w2 w1.heap.size 46 (mat 8) := by rw [← hw]; exact Blk.new _ _ _
  have hF : Fr [] w w2 := by rw [← hw]; exact HF1.out.alloc _
  have hsz := HF1.out.size
  have HB := Lib.hid hB; clear hB
  have HF := Lib.hid hF; clear hF hw HF1 eN
  generalize hp : w1.heap.size = p at HB hsz ⊢
  clear hp
  have HZ := Lib.hid hsz; clear hsz
  (try simp only [Act.put])
  obtain ⟨S, hS⟩ : ∃ S, S = inv s := ⟨_, rfl⟩
  rw [← hS]
  have HS := Lib.hid hS; clear hS
  obtain ⟨T, hT⟩ : ∃ T, T = stN (8 * x) S := ⟨_, rfl⟩
  go_loopw [1, 5, 6] (fun s1 s5 s6 wr => ∃ (y e k : Nat) (r : W32), y < 18446744073709551616 ∧ s1 = .int .u64 (y : Int) ∧ s5 = V32 r ∧ s6 = .pointer (some ⟨k, 0, none⟩) ∧ T = stN (e * y) r ∧ Fr [] w wr ∧ Blk wr k 46 (mat e) ∧ w.heap.size ≤ k) (fun s1 _ _ _ => (intOf s1).toNat)
  case atStart => exact ⟨x, 8, p, S, hx, rfl, rfl, rfl, hT, HF.out, HB.out, HZ.out⟩
  case round =>
    have Hx := Lib.hid hx; clear hx
    have HT := Lib.hid hT; clear hT
    obtain ⟨y, e, k, r, hy, rfl, rfl, rfl, hR, hF, hB, hk⟩ := hrel
    have HR := Lib.hid hR; clear hR
    have HF2 := Lib.hid hF; clear hF
    have HB2 := Lib.hid hB; clear hB
    have HK := Lib.hid hk; clear hk
    by_cases h0 : y = 0
    · subst h0
      have eN := not_w32 r
      go_wp2_with fail
      go_ret
      refine ⟨?_, HF2.out⟩
      rw [← HS.out, ← HT.out, HR.out, Nat.mul_zero]
      rfl
    · have eg : decide ((0 : Int) < (y : Int)) = true := by simp; omega
      have ea := u64_and_one y hy
      by_cases h1 : y % 2 = 1
      · rw [h1] at ea
        rw [zeros_round, if_pos h1] at HR
        go_wp2_with (refine wpList_load_row rfl 46 _ rfl k rfl 46 _ _ _ HB2.out.here und32 rfl (hs e) ?_)
        refine (times_any e r _).mono ?_
        rintro e2 w3 ⟨rfl, f3⟩
        have hB3 := HB2.out.fr f3 (by simp)
        have hF3 := HF2.out.trans f3 (by simp)
        have HB3 := Lib.hid hB3; clear hB3
        have HF3 := Lib.hid hF3; clear hF3 f3
        go_wp2_with (refine wpList_load_row rfl 46 _ rfl k rfl 46 _ _ _ HB3.out.here und32 rfl (hs e) ?_)
        refine (squared_any e _).mono ?_
        rintro e2 w4 ⟨rfl, f4⟩
        have hB4 := HB3.out.fr f4 (by simp)
        have hF4 := HF3.out.trans f4 (by simp)
        have hN : ∀ cs : Array Value, ((w4.setRow k (mat (e + e))).alloc (.cells cs 46)).heap[w4.heap.size]? = some (.cells cs 46 (0, 0)) := fun cs => by
          have := heap_alloc_new (w4.setRow k (mat (e + e))) (.cells cs 46)
          rwa [size_setRow] at this
        have hS : ∀ cs cs2 : Array Value, ((w4.setRow k (mat (e + e))).alloc (.cells cs 46)).setRow w4.heap.size cs2 = (w4.setRow k (mat (e + e))).alloc (.cells cs2 46) := fun cs cs2 => by
          have := World.setRow_alloc_new (w4.setRow k (mat (e + e))) cs cs2 46
          rwa [size_setRow] at this
        have HN := Lib.hid hN; clear hN
        have HSR := Lib.hid hS; clear hS
        have HB4 := Lib.hid hB4; clear hB4
        have HF4 := Lib.hid hF4; clear hF4 f4
        go_wp2_with (first
          | refine wpList_store_row rfl 46 _ _ rfl k _ rfl rfl 46 (mat e) HB4.out.here (hs _) (by rw [mat, mat, arr_size, arr_size]) (arr_one _ _) ?_
          | refine wpList_load_row rfl 46 _ rfl k rfl 46 _ _ _ (setRow_heap w4 k (mat e) _ _ _ HB4.out.here) und32 rfl (hs (e + e)) ?_
          | refine wpList_store_row rfl 46 _ _ rfl w4.heap.size _ rfl rfl 46 (Array.replicate 32 (Value.int IntKind.u32 0)) (HN.out _) (hs _) (by rw [mat, arr_size]; simp) (arr_one _ _) ?_)
        rw [HSR.out]
        have hk4 := HK.out
        refine ⟨⟨y / 2, e + e, w4.heap.size, stN e r, by omega, by simp, rfl, rfl, HR.out, ?_, ⟨HN.out _⟩, HF4.out.size⟩, by simp [intOf]; omega⟩
        exact (HF4.out.trans (S' := [k]) (Fr.setRow w4 k _) (by intro x hx; simp at hx; subst hx; exact .inr hk4)).alloc _
      · have h2 : y % 2 = 0 := by omega
        rw [h2] at ea
        rw [zeros_round, if_neg h1] at HR
        have HB3 := HB2
        have HF3 := HF2
        go_wp2_with (refine wpList_load_row rfl 46 _ rfl k rfl 46 _ _ _ HB3.out.here und32 rfl (hs e) ?_)
        refine (squared_any e _).mono ?_
        rintro e2 w4 ⟨rfl, f4⟩
        have hB4 := HB3.out.fr f4 (by simp)
        have hF4 := HF3.out.trans f4 (by simp)
        have hN : ∀ cs : Array Value, ((w4.setRow k (mat (e + e))).alloc (.cells cs 46)).heap[w4.heap.size]? = some (.cells cs 46 (0, 0)) := fun cs => by
          have := heap_alloc_new (w4.setRow k (mat (e + e))) (.cells cs 46)
          rwa [size_setRow] at this
        have hS : ∀ cs cs2 : Array Value, ((w4.setRow k (mat (e + e))).alloc (.cells cs 46)).setRow w4.heap.size cs2 = (w4.setRow k (mat (e + e))).alloc (.cells cs2 46) := fun cs cs2 => by
          have := World.setRow_alloc_new (w4.setRow k (mat (e + e))) cs cs2 46
          rwa [size_setRow] at this
        have HN := Lib.hid hN; clear hN
        have HSR := Lib.hid hS; clear hS
        have HB4 := Lib.hid hB4; clear hB4
        have HF4 := Lib.hid hF4; clear hF4 f4
        go_wp2_with (first
          | refine wpList_store_row rfl 46 _ _ rfl k _ rfl rfl 46 (mat e) HB4.out.here (hs _) (by rw [mat, mat, arr_size, arr_size]) (arr_one _ _) ?_
          | refine wpList_load_row rfl 46 _ rfl k rfl 46 _ _ _ (setRow_heap w4 k (mat e) _ _ _ HB4.out.here) und32 rfl (hs (e + e)) ?_
          | refine wpList_store_row rfl 46 _ _ rfl w4.heap.size _ rfl rfl 46 (Array.replicate 32 (Value.int IntKind.u32 0)) (HN.out _) (hs _) (by rw [mat, arr_size]; simp) (arr_one _ _) ?_)
        rw [HSR.out]
        have hk4 := HK.out
        refine ⟨⟨y / 2, e + e, w4.heap.size, r, by omega, by simp, rfl, rfl, HR.out, ?_, ⟨HN.out _⟩, HF4.out.size⟩, by simp [intOf]; omega⟩
        exact (HF4.out.trans (S' := [k]) (Fr.setRow w4 k _) (by intro x hx; simp at hx; subst hx; exact .inr hk4)).alloc _

theorem join_any (a b : W32) (x : Nat) (w : World) (hx : x < 18446744073709551616) :
    Calls Try.prog 16 #[V32 a, V32 b, .int .u64 (x : Int)] w fun e w' => e = .returned (V32 (inv (stN (8 * x) (inv a)) ^^^ inv (stN (8 * x) (inv 0#32)) ^^^ b)) ∧ Fr [] w w' := by
  obtain ⟨A, hA⟩ : ∃ A, A = inv (stN (8 * x) (inv a)) := ⟨_, rfl⟩
  obtain ⟨B, hB⟩ : ∃ B, B = inv (stN (8 * x) (inv 0#32)) := ⟨_, rfl⟩
  have HZ1 := zeros_any a x w hx
  have HZ2 := fun w => zeros_any 0#32 x w hx
  rw [← hA] at HZ1 ⊢
  simp only [← hB] at HZ2 ⊢
  have HZ1 := Lib.hid HZ1
  have HZ2 := Lib.hid HZ2
  obtain ⟨C, hC⟩ : ∃ C, C = A ^^^ B := ⟨_, rfl⟩
  have e1 := xor_w32 A B
  obtain ⟨D, hD⟩ : ∃ D, D = C ^^^ b := ⟨_, rfl⟩
  have e2 := xor_w32 C b
  rw [← hC] at e1
  rw [← hD] at e2
  rw [← hC, ← hD]
  clear hA hB hC hD
  go_enter Try.func16, Try.ntmps16
  go_wp2_with fail
  refine HZ1.out.mono ?_
  rintro e w1 ⟨rfl, f1⟩
  have F1 := Lib.hid f1; clear f1
  go_wp2_with fail
  refine (HZ2.out _).mono ?_
  rintro e w2 ⟨rfl, f2⟩
  have F2 := Lib.hid f2; clear f2
  go_wp2_with fail
  go_ret
  exact ⟨rfl, F1.out.trans F2.out (by simp)⟩
end Go.Proofs.Ytdpkhhmmoiianaa
