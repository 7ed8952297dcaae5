/-
  append(x, make([]T, m)...) onto bytes of the call's own: a law that the library lacks. No program text here.
-/
import Derived.Test.YtfjlepnodmeaaaaMem
namespace Go.Proofs.Ytfjlepnodmeaaaa
open Go.RowKit

theorem zeroCells_one (z : Value) (m : Nat) : Builtin.zeroCells #[z] m = (List.replicate m z).toArray := by
  apply Array.ext
  · simp [Builtin.zeroCells]
  · intro i h1 h2
    simp [Builtin.zeroCells, Nat.mod_one]

section
variable {P : Program}
theorem run_append_zeros (w : World) (t k ty e : TypeId) (i : TypeInfo) (z : Value) (bytes : Nat) (ht : P.underlying t = some (.slice e)) (hk : P.underlying k = some (.int .i64)) (hi : P.info? e = some i) (hz : i.zero = some z)
    (hsize : i.size = 1) (hby : i.bytes = bytes) (hzc : z.cells = #[z]) (hz1 : z.oneCell' = true) (v : Value) (xs : List Value) (hown : Own w e v xs) (m : Nat)
    (h63 : xs.length + m ≤ maxLen) (hbytes : (xs.length + m) * bytes ≤ 140737488355328) (hmb : m * bytes ≤ 281474976710656) :
    ∃ v' w', (Builtin.append_ #[t, k] ty #[v, .int .i64 (m : Int)]).run P w = .ok v' w' ∧ Own w' e v' (xs ++ List.replicate m z) ∧ Own1 v v' w w' := by
  subst hby
  have hml : m ≤ 9223372036854775807 := by simp only [maxLen] at h63; omega
  have hwr : IntKind.i64.wrap (m : Int) = (m : Int) := IntWalk.i64_in _ (by omega)
  have hneg : ¬ ((m : Int) < 0) := by omega
  have hmb' : ¬ ((281474976710656 : Int) < (m : Int) * (i.bytes : Int)) := by
    have : ((m * i.bytes : Nat) : Int) ≤ 281474976710656 := by omega
    rw [Int.natCast_mul] at this
    omega
  have hint : ∀ w, (asInt (.int .i64 (m : Int))).run P w = .ok (m : Int) w := fun _ => rfl
  have grown : ∀ (old : Nat), old < xs.length + m → Own (w.drew.alloc (.cells ((xs ++ List.replicate m z).toArray ++ Builtin.zeroCells z.cells (grownCap w (xs.length + m) old e - (xs.length + m))) e)) e
      (.slice (some ⟨w.heap.size, 0, none⟩) (xs.length + m) (grownCap w (xs.length + m) old e)) (xs ++ List.replicate m z) := by
    intro old ho
    have hge := grownCap_ge w (xs.length + m) old e
    have hcm : grownCap w (xs.length + m) old e ≤ maxLen := grownCap_le_maxLen w (xs.length + m) old e h63
    have hl : (xs ++ List.replicate m z).length = xs.length + m := by simp
    refine ⟨by simp, .inr ⟨w.heap.size, _, _, by rw [hl], Nat.zero_le _, heap_alloc_new w.drew _, by rw [hl]; exact hge, hcm, ?_, ?_⟩⟩
    · rw [hzc, zeroCells_one]; simp; omega
    · rw [hl, Array.toList_append, ← hl, Nat.mul_one]
      exact List.take_left
  rcases hown.form with ⟨rfl, rfl⟩ | ⟨g, cap, cur, rfl, hb, hc, hm, hcs, hct⟩
  · by_cases h0 : m = 0
    · have hint0 : ∀ w, (asInt (.int .i64 0)).run P w = .ok 0 w := fun _ => rfl
      have hw0 : IntKind.i64.wrap 0 = 0 := rfl
      subst h0
      refine ⟨.slice none 0 0, w, ?_, by simpa using Own.nil w e, Fr.refl _ _, .inl rfl⟩
      simp [Builtin.append_, run_underlying ht, run_underlying hk, sizeOf, typeInfo, hi, hint0, hw0]
    · have hr := grown 0 (by simpa using Nat.pos_of_ne_zero h0)
      simp only [List.length_nil, Nat.zero_add, List.nil_append] at hr hbytes
      have h48' : ¬ (281474976710656 < Builtin.nextslicecap m 0 * i.bytes) := by rw [nextslicecap_zero (by omega)]; omega
      have h63' : ¬ (9223372036854775807 < (m : Int)) := by omega
      refine ⟨_, _, ?_, by simpa using hr, ((Fr.refl _ w).drew).alloc _, .inr ⟨_, rfl, Nat.le_refl _⟩⟩
      simp [Builtin.append_, run_underlying ht, run_underlying hk, sizeOf, typeInfo, zeroValue, hi, hz, hsize, hint, hwr, hneg, hmb', h0, h63', h48', Question.forced, Builtin.firstCells, newRow, grownCap]
      congr 2
      rw [hzc, zeroCells_one, zeroCells_one]
      simp
  · have hx1 : (xs ++ List.replicate m z).length = xs.length + m := by simp
    by_cases h0 : m = 0
    · have hint0 : ∀ w, (asInt (.int .i64 0)).run P w = .ok 0 w := fun _ => rfl
      have hw0 : IntKind.i64.wrap 0 = 0 := rfl
      subst h0
      refine ⟨_, w, ?_, by simpa using hown, Fr.refl _ _, .inl rfl⟩
      simp [Builtin.append_, run_underlying ht, run_underlying hk, sizeOf, typeInfo, hi, hint0, hw0, hc, Addr.add_lit, storeCells]
    by_cases hroom : xs.length + m ≤ cap
    · have hst := run_storeCells_at P g xs.length e (List.replicate m z) 0 cur w hb.here (by simp; omega) (fun u hu => by rw [List.eq_of_mem_replicate hu]; exact hz1)
      simp only [Nat.add_zero] at hst
      refine ⟨.slice (some ⟨g, 0, none⟩) (xs.length + m) cap, w.setRow g (cur.toList.take xs.length ++ List.replicate m z ++ cur.toList.drop (xs.length + m)).toArray, ?_, ?_, ?_, .inl rfl⟩
      · simp [Builtin.append_, run_underlying ht, run_underlying hk, sizeOf, typeInfo, zeroValue, hi, hz, hsize, hint, hwr, hneg, hmb', h0, hroom, Addr.add_lit, hzc, zeroCells_one]
        rw [hst]
        simp
      · have h2 := own_of_setRow (n := xs.length + m) hb hroom hm (cur.toList.take xs.length ++ List.replicate m z ++ cur.toList.drop (xs.length + m)) (by simp; omega)
        rw [hct, List.take_append_of_le_length (by simp), ← hx1, List.take_length, hx1] at h2
        rw [hct]
        exact h2
      · exact ⟨rfl, rfl, rfl, by simp, fun j _ hj => setRow_other w g j _ (fun e => hj (by simp [Value.ownBlock, e]))⟩
    · have hr := grown cap (by omega)
      have h48' : ¬ (281474976710656 < Builtin.nextslicecap (xs.length + m) cap * i.bytes) := by have := growslice_fits (old := cap) (by omega) hbytes; omega
      have h63' : ¬ (9223372036854775807 < (xs.length : Int) + (m : Int)) := by simp only [maxLen] at h63; omega
      have hfo := run_firstCells_some (P := P) w.drew 1 xs.length ⟨g, 0, none⟩ xs.length cap xs (by simp) (fun j u hu => by
        rw [World.cell?_drew, add0, hb.cell]
        rw [← hct, List.getElem?_take] at hu
        split at hu
        · simpa using hu
        · cases hu)
      refine ⟨_, _, ?_, hr, ((Fr.refl _ w).drew).alloc _, .inr ⟨_, rfl, Nat.le_refl _⟩⟩
      simp [Builtin.append_, run_underlying ht, run_underlying hk, sizeOf, typeInfo, zeroValue, hi, hz, hsize, hint, hwr, hneg, hmb', h0, hroom, h63', h48', Question.forced, hfo, newRow, grownCap]
      congr 2
      rw [hzc, zeroCells_one, zeroCells_one]
      apply Array.ext'
      simp

theorem wpList_append_zeros {w : World} {ops : Array Oper} {rest : List Oper} {o : Oper} {a : Act} {Q : Exit → Act → World → Prop} (s x : Operand) (t k e : TypeId) (i : TypeInfo) (z : Value) (bytes : Nat)
    (hgd : o.guard = none) (ho : o.op = .call { callee := .builtin .append, args := #[s, x], argTypes := #[t, k] })
    (ht : P.underlying t = some (.slice e)) (hk : P.underlying k = some (.int .i64)) (hi : P.info? e = some i) (hz : i.zero = some z)
    (hsize : i.size = 1) (hby : i.bytes = bytes) (hzc : z.cells = #[z]) (hz1 : z.oneCell' = true) (v : Value) (xs : List Value) (m : Nat) (hv : a.eval s = v) (hm : a.eval x = .int .i64 (m : Int))
    (hown : Own w e v xs) (h63 : xs.length + m ≤ maxLen) (hbytes : (xs.length + m) * bytes ≤ 140737488355328) (hmb : m * bytes ≤ 281474976710656)
    (h : ∀ v' w', Own w' e v' (xs ++ List.replicate m z) → Own1 v v' w w' → wpList P ops Q rest (a.put o.dst v') w') : wpList P ops Q (o :: rest) a w := by
  refine wpList_plain hgd fun _ hK => ?_
  obtain ⟨v', w', hr, h2, h3⟩ := run_append_zeros (P := P) w t k o.type e i z bytes ht hk hi hz hsize hby hzc hz1 v xs hown m h63 hbytes hmb
  unfold Oper.wp execOp
  simp only [ho, resolve, invoke, builtin, Sem.run_bind, Sem.run_pure, Result.andThen_ok, List.map_toArray, List.map_cons, List.map_nil, hv, hm, hr]
  exact hK _ _ (h v' w' h2 h3)
end
end Go.Proofs.Ytfjlepnodmeaaaa
