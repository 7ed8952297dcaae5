/-
  Contracts of the landed book: Same, Copy. No condition.
-/
import Derived.Test.YtfjlepnodmeaaaaBook1
import Derived.Test.YtfjlepnodmeaaaaRegion
namespace Go.Proofs.Ytfjlepnodmeaaaa
open Go.RowKit

theorem fold_zip_list : ∀ (l : List Value) (k : Nat) (Z : Array Value) (j : Nat),
    (List.foldl (fun (a : Array Value) (x : Value × Nat) => a.setIfInBounds x.snd x.fst) Z (l.zipIdx k))[j]? = if k ≤ j ∧ j < k + l.length ∧ j < Z.size then l[j - k]? else Z[j]?
  | [], k, Z, j => by
    rw [if_neg (by simp; omega)]
    rfl
  | u :: l, k, Z, j => by
    rw [List.zipIdx_cons, List.foldl_cons, fold_zip_list l (k + 1) _ j]
    simp only [Array.size_setIfInBounds, List.length_cons, Array.getElem?_setIfInBounds]
    by_cases hj : k = j
    · subst hj
      rw [if_neg (by omega), if_pos rfl]
      by_cases hz : k < Z.size
      · rw [if_pos hz, if_pos ⟨by omega, by omega, hz⟩]
        simp
      · rw [if_neg hz, if_neg (by omega), Array.getElem?_eq_none (by omega)]
    · by_cases h1 : k + 1 ≤ j ∧ j < k + 1 + l.length ∧ j < Z.size
      · rw [if_pos h1, if_pos ⟨by omega, by omega, by omega⟩, show j - k = (j - (k + 1)) + 1 by omega]
        rfl
      · rw [if_neg h1, if_neg hj, if_neg (by omega)]
theorem fold_zip (cs Z : Array Value) (n : Nat) (hc : cs.size = n) (hz : Z.size = n) : Array.foldl (fun (a : Array Value) (x : Value × Nat) => a.setIfInBounds x.snd x.fst) Z cs.zipIdx 0 n = cs := by
  have h0 : Array.foldl (fun (a : Array Value) (x : Value × Nat) => a.setIfInBounds x.snd x.fst) Z cs.zipIdx 0 n = List.foldl (fun (a : Array Value) (x : Value × Nat) => a.setIfInBounds x.snd x.fst) Z (cs.toList.zipIdx 0) := by
    have := Array.foldl_toList (xs := cs.zipIdx) (init := Z) (fun (a : Array Value) (x : Value × Nat) => a.setIfInBounds x.snd x.fst)
    rw [Array.toList_zipIdx] at this
    rw [this, Array.size_zipIdx, hc]
  rw [h0]
  apply Array.ext_getElem?
  intro j
  rw [fold_zip_list]
  by_cases hj : j < n
  · rw [if_pos ⟨by omega, by simp; omega, by omega⟩]
    simp
  · rw [if_neg (by omega), Array.getElem?_eq_none (by omega), Array.getElem?_eq_none (by omega)]
/-- A whole array, read, as an operation. -/
theorem exec_loadB {P : Program} {a : Act} {o : Oper} {ty : TypeId} {x : Operand} {g : Nat} {cs : Array Value} {W : World} (ho : o.op = .load ty x) (hx : a.eval x = .pointer (some ⟨g, 0, none⟩))
    (h : (loadVar ty ⟨g, 0, none⟩).run P W = .ok (.agg cs) W) : (execOp a.eval o).run P W = .ok (.value (.agg cs)) W := by
  unfold execOp
  simp only [ho, hx, Instr.loadAt, Instr.sureAddr, Sem.run_bind, Sem.run_pure, Result.andThen_ok, h]
theorem load_arrB {W : World} {p : Nat} {t : TypeId} {cs : Array Value} (hB : Blk W p t cs) {ty : TypeId} {n : Nat} {e : TypeId} (hu : Try.prog.underlying ty = some (.array n e)) (hi : (Try.prog.info? ty).map (·.size) = some cs.size) :
    (loadVar ty ⟨p, 0, none⟩).run Try.prog W = .ok (.agg cs) W :=
  run_loadVar_row W p t ty cs (0, 0) _ hB.here hu rfl hi
theorem zeroBk_size : Try.zeroCells62.size = 592 := by decide +kernel

set_option maxRecDepth 20000 in
theorem bsame_any (w : World) (b : Nat) (B : Chs) (c : Nat) (C : Chs) (hb : Bk w b B) (hc : Bk w c C) :
    Calls Try.prog 23 #[pt b, pt c] w fun r w' => r = .returned (.bool (sameB B C)) ∧ Fr [] w w' := by
  have hs : ∀ f, (Try.prog.info? 60).map (·.size) = some (arrC 592 f).size := fun f => by rw [arrC_size]; exact sizePs
  have he := eql_pages B C
  obtain ⟨S, hS⟩ : ∃ S, S = sameB B C := ⟨_, rfl⟩
  rw [← hS] at he ⊢
  clear hS
  have Hs := Lib.hid hs
  have Hb := Lib.hid hb
  have Hc := Lib.hid hc
  clear hs hb hc
  go_enter Try.func23, Try.ntmps23
  go_upto_region 3 with fail
  have hb := Blk.drew Hb.out
  have hc := Blk.drew Hc.out
  refine wp_region_held_drew (S := fun W => Blk W b 62 (arrC 592 B) ∧ Blk W c 62 (arrC 592 C)) (by kernel_rfl) ?_ (fun hHeld => ?_)
  · exact ⟨hb, hc⟩
  refine wpAnyH_pick 0 (v := ?_) rfl (by kernel_rfl) (by kernel_rfl) (by kernel_rfl) (fun _ _ _ h => h) (by assumption) (by rfl) ?_ ?_
  rotate_left
  · (intro w hSw; (try dsimp only at hSw); go_simp) <;> (with_reducible rfl)
  (try simp only [Act.put, List.setIfInBounds_toArray, List.set_cons_zero, List.set_cons_succ])
  refine wpAnyH_pick 1 (v := ?_) rfl (by kernel_rfl) (by kernel_rfl) (by kernel_rfl) (fun _ _ _ h => h) (by assumption) (by rfl) ?_ ?_
  rotate_left
  · (intro w hSw; (try dsimp only at hSw); go_simp) <;> (with_reducible rfl)
  (try simp only [Act.put, List.setIfInBounds_toArray, List.set_cons_zero, List.set_cons_succ])
  refine wpAnyH_pick 2 (v := ?_) rfl (by kernel_rfl) (by kernel_rfl) (by kernel_rfl) (fun _ _ _ h => h) (by assumption) (by rfl) ?_ ?_
  rotate_left
  · (intro w hSw; (try dsimp only at hSw); go_simp) <;> (with_reducible rfl)
  (try simp only [Act.put, List.setIfInBounds_toArray, List.set_cons_zero, List.set_cons_succ])
  refine wpAnyH_pick 3 rfl (by kernel_rfl) (by kernel_rfl) (by kernel_rfl) (fun _ _ _ h => h) (by assumption) (by rfl) (fun w hSw => exec_loadB rfl rfl (load_arrB hSw.1 undPs (Hs.out _))) ?_
  (try simp only [Act.put, List.setIfInBounds_toArray, List.set_cons_zero, List.set_cons_succ])
  refine wpAnyH_pick 4 (v := ?_) rfl (by kernel_rfl) (by kernel_rfl) (by kernel_rfl) (fun _ _ _ h => h) (by assumption) (by rfl) ?_ ?_
  rotate_left
  · (intro w hSw; (try dsimp only at hSw); go_simp) <;> (with_reducible rfl)
  (try simp only [Act.put, List.setIfInBounds_toArray, List.set_cons_zero, List.set_cons_succ])
  refine wpAnyH_pick 5 (v := ?_) rfl (by kernel_rfl) (by kernel_rfl) (by kernel_rfl) (fun _ _ _ h => h) (by assumption) (by rfl) ?_ ?_
  rotate_left
  · (intro w hSw; (try dsimp only at hSw); go_simp) <;> (with_reducible rfl)
  (try simp only [Act.put, List.setIfInBounds_toArray, List.set_cons_zero, List.set_cons_succ])
  refine wpAnyH_pick 6 (v := ?_) rfl (by kernel_rfl) (by kernel_rfl) (by kernel_rfl) (fun _ _ _ h => h) (by assumption) (by rfl) ?_ ?_
  rotate_left
  · (intro w hSw; (try dsimp only at hSw); go_simp) <;> (with_reducible rfl)
  (try simp only [Act.put, List.setIfInBounds_toArray, List.set_cons_zero, List.set_cons_succ])
  refine wpAnyH_pick 7 rfl (by kernel_rfl) (by kernel_rfl) (by kernel_rfl) (fun _ _ _ h => h) (by assumption) (by rfl) (fun w hSw => exec_loadB rfl rfl (load_arrB hSw.2 undPs (Hs.out _))) ?_
  (try simp only [Act.put, List.setIfInBounds_toArray, List.set_cons_zero, List.set_cons_succ])
  refine wpAnyH_pick 8 (v := ?_) rfl (by kernel_rfl) (by kernel_rfl) (by kernel_rfl) (fun _ _ _ h => h) (by assumption) (by rfl) ?_ ?_
  rotate_left
  · (intro w hSw; (try dsimp only at hSw); go_simp) <;> (with_reducible rfl)
  (try simp only [Act.put, List.setIfInBounds_toArray, List.set_cons_zero, List.set_cons_succ])
  refine wpAnyH_pick 9 (v := ?_) rfl (by kernel_rfl) (by kernel_rfl) (by kernel_rfl) (fun _ _ _ h => h) (by assumption) (by rfl) ?_ ?_
  rotate_left
  · (intro w hSw; (try dsimp only at hSw); go_simp) <;> (with_reducible rfl)
  (try simp only [Act.put, List.setIfInBounds_toArray, List.set_cons_zero, List.set_cons_succ])
  refine wpAnyH_done (by kernel_rfl) ?_ _
  skip
  go_wp2_with fail
  go_ret
  exact ⟨rfl, (Fr.refl _ _).drew⟩
set_option maxRecDepth 20000 in
theorem bsameNN_any (w : World) : Calls Try.prog 23 #[.pointer none, .pointer none] w fun r w' => r = .returned (.bool true) ∧ Fr [] w w' := by
  go_enter Try.func23, Try.ntmps23
  go_wp2_with fail
  go_ret
  exact ⟨rfl, Fr.refl _ _⟩
theorem eql_nil_pt (w : World) (b : Nat) : (binOp .eql 23 (.pointer none) (pt b)).run Try.prog w = .ok (.bool false) w := by
  have hu : Try.prog.underlying 23 = some (.pointer 62) := by kernel_rfl
  have h : ∀ d : Nat, (Op.equalIn (d + 1) 23 (.pointer none) (pt b)).run Try.prog w = .ok false w := fun d => by
    simp [Op.equalIn, run_underlying hu]
  simp only [binOp]
  simp [Op.equal, Op.maxDepth, h 9999]
set_option maxRecDepth 20000 in
theorem bsameNB_any (w : World) (b : Nat) : Calls Try.prog 23 #[.pointer none, pt b] w fun r w' => r = .returned (.bool false) ∧ Fr [] w w' := by
  have he := fun w => eql_nil_pt w b
  go_enter Try.func23, Try.ntmps23
  go_wp2_with fail
  go_ret
  exact ⟨rfl, Fr.refl _ _⟩
set_option maxRecDepth 20000 in
theorem bcopyNil_any (w : World) : Calls Try.prog 22 #[.pointer none] w fun r w' => r = .returned (.pointer none) ∧ Fr [] w w' := by
  go_enter Try.func22, Try.ntmps22
  go_wp2_with fail
  go_ret
  exact ⟨rfl, Fr.refl _ _⟩

set_option maxRecDepth 20000 in
theorem bcopy_any (w : World) (b : Nat) (B : Chs) (hb : Bk w b B) :
    Calls Try.prog 22 #[pt b] w fun r w' => ∃ c, r = .returned (pt c) ∧ Bk w' c B ∧ Fr [] w w' ∧ w.heap.size ≤ c := by
  have hs : (Try.prog.info? 60).map (·.size) = some (arrC 592 B).size := by rw [arrC_size]; exact sizePs
  have hz : (arrC 592 B).size = 592 := arrC_size _ _
  obtain ⟨cs, hcs⟩ : ∃ cs, cs = arrC 592 B := ⟨_, rfl⟩
  have hb' := hb
  unfold Bk at hb'
  rw [← hcs] at hs hz hb'
  have Hs := Lib.hid hs
  have Hb := Lib.hid hb'
  have Hc := Lib.hid hcs
  clear hs hb hb' hcs
  go_enter Try.func22, Try.ntmps22
  go_wp2_with (first
        | refine wpList_load_row rfl 60 _ rfl b rfl 62 _ _ _ Hb.out.here undPs rfl Hs.out ?_)
  rw [fold_zip cs _ 592 hz zeroBk_size]
  go_ret
  refine ⟨w.heap.size, rfl, ?_, (Fr.refl _ _).alloc _, Nat.le_refl _⟩
  have h := Blk.new w 62 cs
  rw [Hc.out] at h
  rw [Hc.out]
  exact h
end Go.Proofs.Ytfjlepnodmeaaaa
