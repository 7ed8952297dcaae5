/-
  Contracts of the landed book: where its chances lie; New, Copy, Same, isTopic, isChoice, isFirst, math/bits.Len below 2^32. Conditions: numbers lie in their types' ranges.
-/
import Derived.Test.YtfjlepnodmeaaaaBookSpec
import Derived.Test.YtfjlepnodmeaaaaBits3
import Derived.Test.YtfjlepnodmeaaaaGolPlain
import Derived.Laws.BitsAllLaws
import Derived.Laws.StructEq
import Derived.Deep.WholeRow
namespace Go.Proofs.Ytfjlepnodmeaaaa
open Go.RowKit

/-! 592 chances in a row. -/
def arrC (n : Nat) (f : Nat → Nat) : Array Value := ((List.range n).map fun i => Value.int .u16 (f i : Int)).toArray
theorem arrC_size (n : Nat) (f : Nat → Nat) : (arrC n f).size = n := by simp [arrC]
theorem arrC_get {n : Nat} (f : Nat → Nat) {i : Nat} (h : i < n) : (arrC n f)[i]? = some (.int .u16 (f i : Int)) := by simp [arrC, h]
theorem arrC_congr {n : Nat} {f g : Nat → Nat} (h : ∀ i, i < n → f i = g i) : arrC n f = arrC n g := by
  unfold arrC
  congr 1
  apply List.map_congr_left
  intro i hi
  rw [h i (by simpa using hi)]
theorem arrC_set (n : Nat) (f : Nat → Nat) (i v : Nat) : (arrC n f).setIfInBounds i (.int .u16 (v : Int)) = arrC n (upd f i v) := by
  apply Array.ext_getElem?
  intro j
  rw [Array.getElem?_setIfInBounds, arrC_size]
  by_cases h : j < n
  · rw [arrC_get _ h, arrC_get _ h]
    unfold upd
    by_cases hj : i = j
    · subst hj; simp [h]
    · rw [if_neg hj, if_neg (fun e => hj e.symm)]
  · have : ∀ f, (arrC n f)[j]? = none := fun f => by rw [Array.getElem?_eq_none]; rw [arrC_size]; omega
    rw [this, this]
    split <;> simp_all
theorem arrC_zero (n : Nat) : Array.replicate n (Value.int .u16 0) = arrC n fun _ => 0 := by
  apply Array.ext_getElem?
  intro i
  by_cases h : i < n
  · rw [arrC_get _ h]; simp [h]
  · rw [Array.getElem?_eq_none (by simpa using h), Array.getElem?_eq_none (by rw [arrC_size]; omega)]
theorem arrC_one (n : Nat) (f : Nat → Nat) : (arrC n f).all (·.oneCell') = true := by
  apply Array.all_eq_true_iff_forall_mem.2
  intro v hv
  simp only [arrC, List.mem_toArray, List.mem_map] at hv
  obtain ⟨i, -, rfl⟩ := hv
  rfl
def Bk (w : World) (q : Nat) (B : Chs) : Prop := Blk w q 62 (arrC 592 B)
theorem Bk.lt {w : World} {q : Nat} {B : Chs} (h : Bk w q B) : q < w.heap.size := Blk.lt h
theorem Bk.fr {w w' : World} {q : Nat} {B : Chs} {S : List Nat} (h : Bk w q B) (hf : Fr S w w') (hq : q ∉ S) : Bk w' q B := Blk.fr h hf hq
theorem Bk.cell {w : World} {q : Nat} {B : Chs} (h : Bk w q B) {j : Nat} (hj : j < 592) : w.cell? ⟨q, j, none⟩ = some (.int .u16 (B j : Int)) := by rw [Blk.cell h, arrC_get _ hj]
theorem Bk.set {w : World} {q : Nat} {B : Chs} (h : Bk w q B) (j x : Nat) : Bk (w.setCell ⟨q, j, none⟩ (.int .u16 (x : Int))) q (upd B j x) := by
  have := Blk.set_ h j (.int .u16 (x : Int))
  rw [arrC_set] at this
  exact this

theorem zeroBk : (Try.prog.info? 62).map (fun i => (i.zero, i.size)) = some (some (.agg (Array.replicate 592 (.int .u16 0))), 592) := by kernel_rfl
theorem sizePs : (Try.prog.info? 60).map (·.size) = some 592 := by kernel_rfl
theorem undPs : Try.prog.underlying 60 = some (.array 16 59) := by kernel_rfl
theorem sizePg : (Try.prog.info? 59).map (·.size) = some 37 := by kernel_rfl
theorem undPg : Try.prog.underlying 59 = some (.array 37 57) := by kernel_rfl
theorem sizeCh : (Try.prog.info? 57).map (·.size) = some 1 := by kernel_rfl
theorem undCh : Try.prog.underlying 57 = some (.int .u16) := by kernel_rfl

set_option maxRecDepth 20000 in
theorem bnew_any (w : World) :
    Calls Try.prog 9 #[] w fun e w' => ∃ q, e = .returned (pt q) ∧ Bk w' q newBook ∧ Fr [] w w' ∧ w.heap.size ≤ q := by
  have z := (zero_of_info zeroBk).1
  go_enter Try.func9, Try.ntmps9
  go_upto_region 2 with fail
  have hF : Fr [] w (w.alloc (Obj.cells (Array.replicate 592 (Value.int IntKind.u16 0)) 62)) := (Fr.refl _ _).alloc _
  have hB := Blk.new w 62 (Array.replicate 592 (Value.int IntKind.u16 0))
  generalize hw2 : (w.alloc (Obj.cells (Array.replicate 592 (Value.int IntKind.u16 0)) 62)) = w2 at hF hB ⊢
  clear hw2 z
  rw [arrC_zero] at hB
  obtain ⟨q, hq⟩ : ∃ q, q = w.heap.size := ⟨_, rfl⟩
  rw [← hq] at hB ⊢
  have hB0 : Bk w2 q (fun j => if j < 37 * 0 then 1024 else 0) := by
    unfold Bk
    rw [arrC_congr (g := fun _ => 0) (fun i _ => by simp)]
    exact hB
  have HB0 := Lib.hid hB0
  have HF0 := Lib.hid hF
  have Hq := Lib.hid hq
  clear hB0 hF hq hB
  go_wp2_with fail
  go_loopw [6] (fun s2 wr => ∃ t : Nat, t ≤ 16 ∧ s2 = .int .i64 (t : Int) ∧ Bk wr q (fun j => if j < 37 * t then 1024 else 0) ∧ Fr [] w wr) (fun s2 _ => 16 - (intOf s2).toNat)
  case atStart => exact ⟨0, by omega, rfl, HB0.out, HF0.out⟩
  case round =>
    obtain ⟨t, ht, rfl, hB, hF⟩ := hrel
    have HB := Lib.hid hB; have HF := Lib.hid hF
    clear hB hF HB0 HF0
    by_cases h16 : t < 16
    · have e1 : decide ((t : Int) < 16) = true := by simp; omega
      go_wp2_with fail
      go_loopw [9] (fun s3 wr => ∃ i : Nat, i ≤ 37 ∧ s3 = .int .i64 (i : Int) ∧ Bk wr q (fun j => if j < 37 * t + i then 1024 else 0) ∧ Fr [] w wr) (fun s3 _ => 37 - (intOf s3).toNat)
      case atStart => exact ⟨0, by omega, rfl, HB.out, HF.out⟩
      case round =>
        obtain ⟨i, hi, rfl, hB, hF⟩ := hrel
        have HB2 := Lib.hid hB; have HF2 := Lib.hid hF
        clear hB hF HB HF
        by_cases h37 : i < 37
        · have e2 : decide ((i : Int) < 37) = true := by simp; omega
          have c0 := HB2.out.cell (j := t * 37 + i) (by omega)
          have f0 := Blk.frozen HB2.out (t * 37 + i)
          go_wp2_with fail
          refine ⟨⟨i + 1, by omega, by simp, ?_, HF2.out.setCell (.inr (by rw [Hq.out]; exact Nat.le_refl _)) _⟩, by simp [intOf]; omega⟩
          have h := HB2.out.set (t * 37 + i) 1024
          unfold Bk at h ⊢
          rw [arrC_congr (g := fun j => if j < 37 * t + (i + 1) then 1024 else 0)] at h
          · exact h
          · intro j _
            unfold upd
            by_cases hj : j = t * 37 + i
            · rw [if_pos hj, if_pos (by omega)]
            · rw [if_neg hj]
              show (if j < 37 * t + i then 1024 else 0) = _
              by_cases hl : j < 37 * t + i
              · rw [if_pos hl, if_pos (by omega)]
              · rw [if_neg hl, if_neg (by omega)]
        · have e2 : decide ((i : Int) < 37) = false := by simp; omega
          obtain rfl : i = 37 := by omega
          have hB3 : Bk wr q (fun j => if j < 37 * (t + 1) then 1024 else 0) := by
            rw [show 37 * (t + 1) = 37 * t + 37 by omega]
            exact HB2.out
          have HB3 := Lib.hid hB3
          clear hB3 HB2
          go_wp2_with fail
          exact ⟨⟨t + 1, by omega, by simp, HB3.out, HF2.out⟩, by simp [intOf]; omega⟩
    · have e1 : decide ((t : Int) < 16) = false := by simp; omega
      obtain rfl : t = 16 := by omega
      go_wp2_with fail
      go_ret
      refine ⟨q, rfl, ?_, HF.out, by rw [Hq.out]; exact Nat.le_refl _⟩
      have h := HB.out
      unfold Bk at h ⊢
      rw [arrC_congr (g := newBook)] at h
      · exact h
      · intro j hj
        rw [if_pos (by omega)]
        rfl

theorem btopic_any (t : Int) (w : World) :
    Calls Try.prog 38 #[.int .i64 t] w fun e w' => e = .returned (.bool (decide (0 ≤ t ∧ t ≤ 15))) ∧ w' = w := by
  obtain ⟨T, hT⟩ : ∃ T, T = decide (0 ≤ t ∧ t ≤ 15) := ⟨_, rfl⟩
  rw [← hT]
  by_cases h1 : 0 ≤ t
  · by_cases h2 : t < 16
    · obtain rfl : T = true := by rw [hT]; simp; omega
      have e1 : decide (0 ≤ t) = true := by simpa using h1
      have e2 : decide (t < 16) = true := by simpa using h2
      clear hT
      go_enter Try.func38, Try.ntmps38
      go_wp2_with fail
      go_ret
      exact ⟨rfl, rfl⟩
    · obtain rfl : T = false := by rw [hT]; simp; omega
      have e1 : decide (0 ≤ t) = true := by simpa using h1
      have e2 : decide (t < 16) = false := by simpa using h2
      clear hT
      go_enter Try.func38, Try.ntmps38
      go_wp2_with fail
      go_ret
      exact ⟨rfl, rfl⟩
  · obtain rfl : T = false := by rw [hT]; simp; omega
    have e1 : decide (0 ≤ t) = false := by simpa using h1
    clear hT
    go_enter Try.func38, Try.ntmps38
    go_wp2_with fail
    go_ret
    exact ⟨rfl, rfl⟩

theorem bchoice_any (t : Int) (w : World) :
    Calls Try.prog 43 #[.int .i64 t] w fun e w' => e = .returned (.bool (decide (1 ≤ t ∧ t ≤ 16))) ∧ w' = w := by
  obtain ⟨T, hT⟩ : ∃ T, T = decide (1 ≤ t ∧ t ≤ 16) := ⟨_, rfl⟩
  rw [← hT]
  by_cases h1 : 1 ≤ t
  · by_cases h2 : t ≤ 16
    · obtain rfl : T = true := by rw [hT]; simp; omega
      have e1 : decide (1 ≤ t) = true := by simpa using h1
      have e2 : decide (t ≤ 16) = true := by simpa using h2
      clear hT
      go_enter Try.func43, Try.ntmps43
      go_wp2_with fail
      go_ret
      exact ⟨rfl, rfl⟩
    · obtain rfl : T = false := by rw [hT]; simp; omega
      have e1 : decide (1 ≤ t) = true := by simpa using h1
      have e2 : decide (t ≤ 16) = false := by simpa using h2
      clear hT
      go_enter Try.func43, Try.ntmps43
      go_wp2_with fail
      go_ret
      exact ⟨rfl, rfl⟩
  · obtain rfl : T = false := by rw [hT]; simp; omega
    have e1 : decide (1 ≤ t) = false := by simpa using h1
    clear hT
    go_enter Try.func43, Try.ntmps43
    go_wp2_with fail
    go_ret
    exact ⟨rfl, rfl⟩

theorem bfirst_any (t : Nat) (w : World) :
    Calls Try.prog 64 #[.int .i64 (t : Int)] w fun e w' => e = .returned (.bool (decide (t < 16))) ∧ w' = w := by
  have e1 : decide ((t : Int) < 16) = decide (t < 16) := by simp; omega
  obtain ⟨T, hT⟩ : ∃ T, T = decide (t < 16) := ⟨_, rfl⟩
  rw [← hT] at e1 ⊢
  clear hT
  go_enter Try.func64, Try.ntmps64
  go_wp2_with fail
  go_ret
  exact ⟨rfl, rfl⟩

/-! Two rows alike. -/
section
variable {P : Program}
theorem run_equalIn_row (d : Nat) (t e : TypeId) (n k : Nat) (xs ys : Array Value) (X Y : Nat → Value) (b : Nat → Bool) (w : World) (ht : P.underlying t = some (.array n e)) (hs : ∀ w, (sizeOf e).run P w = .ok k w)
    (hx : ∀ i, i < n → (part e xs (i * k)).run P w = .ok (X i) w) (hy : ∀ i, i < n → (part e ys (i * k)).run P w = .ok (Y i) w)
    (hb : ∀ i, i < n → (Op.equalIn d e (X i) (Y i)).run P w = .ok (b i) w) :
    (Op.equalIn (d + 1) t (.agg xs) (.agg ys)).run P w = .ok ((List.range n).all b) w := by
  rw [List.range_eq_range', Op.equalIn]
  simp only [Sem.run_bind, run_underlying ht, Result.andThen_ok, hs, Std.Legacy.Range.forIn_eq_forIn_range', Std.Legacy.Range.size, Nat.sub_zero, Nat.add_sub_cancel, Nat.div_one]
  have hl : ∀ i ∈ List.range' 0 n 1, i < n := fun i hi => by simpa using (List.mem_range'_1.1 hi).2
  generalize List.range' 0 n 1 = l at hl ⊢
  induction l with
  | nil => simp
  | cons i l ih =>
    have hi : i < n := hl i (by simp)
    simp only [List.forIn_cons, Sem.run_bind, hx i hi, hy i hi, hb i hi, Result.andThen_ok, List.all_cons]
    cases hb : b i
    · simp
    · simp only [Bool.not_true, Bool.false_eq_true, if_false, Sem.run_pure, Result.andThen_ok, Bool.true_and]
      exact ih fun j hj => hl j (by simp [hj])
theorem sizeOf_run {e : TypeId} {k : Nat} (h : (P.info? e).map (·.size) = some k) (w : World) : (sizeOf e).run P w = .ok k w := by
  cases hq : P.info? e with
  | none => simp [hq] at h
  | some i =>
    have : i.size = k := by simpa [hq] using h
    simp [sizeOf, typeInfo, hq, this, Sem.run_bind]
end

theorem arrC_extract (B : Nat → Nat) (t n : Nat) (h : t + n ≤ 592) : (arrC 592 B).extract t (t + n) = arrC n (fun i => B (t + i)) := by
  apply Array.ext_getElem?
  intro j
  by_cases hj : j < n
  · rw [arrC_get _ hj, Array.getElem?_extract, if_pos (by rw [arrC_size]; omega), arrC_get _ (by omega)]
  · rw [Array.getElem?_eq_none (by simp [arrC_size]; omega), Array.getElem?_eq_none (by rw [arrC_size]; omega)]

theorem eql_page (f g : Nat → Nat) (w : World) :
    (Op.equalIn 9999 59 (.agg (arrC 37 f)) (.agg (arrC 37 g))).run Try.prog w = .ok ((List.range 37).all fun i => f i == g i) w := by
  refine run_equalIn_row (P := Try.prog) 9998 59 57 37 1 _ _ (fun i => .int .u16 (f i : Int)) (fun i => .int .u16 (g i : Int)) _ w undPg (sizeOf_run sizeCh) ?_ ?_ ?_
  · intro i hi
    have := arrC_get f hi
    simp only [Array.getElem?_eq_getElem (show i < (arrC 37 f).size by rw [arrC_size]; exact hi), Option.some.injEq] at this
    simp [part, isAgg, run_underlying undCh, Sem.run_bind, this, arrC_size, hi]
  · intro i hi
    have := arrC_get g hi
    simp only [Array.getElem?_eq_getElem (show i < (arrC 37 g).size by rw [arrC_size]; exact hi), Option.some.injEq] at this
    simp [part, isAgg, run_underlying undCh, Sem.run_bind, this, arrC_size, hi]
  · intro i hi
    rw [run_equalIn_int w 9997 57 .u16 .u16 _ _ undCh]
    congr 1
    rw [Bool.eq_iff_iff]
    simp
    omega
theorem part_page (f : Nat → Nat) (t : Nat) (ht : t < 16) (w : World) : (part 59 (arrC 592 f) (t * 37)).run Try.prog w = .ok (.agg (arrC 37 fun i => f (t * 37 + i))) w := by
  have h1 := sizeOf_run (P := Try.prog) sizePg w
  have h2 := arrC_extract f (t * 37) 37 (by omega)
  unfold part isAgg
  simp only [Sem.run_bind, run_underlying undPg, Result.andThen_ok, Sem.run_pure, if_true, h1, h2]
theorem eql_all (f g : Nat → Nat) : ((List.range 16).all fun t => (List.range 37).all fun i => f (t * 37 + i) == g (t * 37 + i)) = sameB f g := by
  unfold sameB
  rw [Bool.eq_iff_iff, List.all_eq_true, List.all_eq_true]
  constructor
  · intro h j hj
    have hj : j < 592 := by simpa using hj
    have h1 := h (j / 37) (by simp; omega)
    rw [List.all_eq_true] at h1
    have h2 := h1 (j % 37) (by simp; omega)
    rw [show j / 37 * 37 + j % 37 = j by omega] at h2
    exact h2
  · intro h t ht
    have ht : t < 16 := by simpa using ht
    rw [List.all_eq_true]
    intro i hi
    have hi : i < 37 := by simpa using hi
    exact h (t * 37 + i) (by simp; omega)
theorem eql_pages (f g : Nat → Nat) (w : World) :
    (binOp .eql 60 (.agg (arrC 592 f)) (.agg (arrC 592 g))).run Try.prog w = .ok (.bool (sameB f g)) w := by
  have h := run_equalIn_row (P := Try.prog) 9999 60 59 16 37 (arrC 592 f) (arrC 592 g) (fun t => .agg (arrC 37 fun i => f (t * 37 + i))) (fun t => .agg (arrC 37 fun i => g (t * 37 + i))) _ w undPs (sizeOf_run sizePg) (fun t ht => part_page f t ht w) (fun t ht => part_page g t ht w) (fun t ht => eql_page _ _ w)
  have e : ((List.range 16).all fun t => (List.range 37).all fun i => f (t * 37 + i) == g (t * 37 + i)) = sameB f g := eql_all f g
  rw [e] at h
  rw [run_eql_struct]
  exact (congrArg (fun r => Result.andThen r fun b w' => Result.ok (Value.bool b) w') h).trans rfl
end Go.Proofs.Ytfjlepnodmeaaaa
