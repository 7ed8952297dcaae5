/-
  What several laws' proofs lean on, part 2; each part says its conditions below.
-/
import Derived.Laws.CopyOwn
import Derived.Lib.SliceRun
import Derived.Test.YtednjpgibbnieaaRows
import Derived.Test.YtednjpgibbnieaaAll1
/-
  Numbers in a part of a block, changed in place: plain facts, cells, what is copied into a part. No program text but the type []int.
-/
namespace Go.Proofs.Ytednjpgibbnieaa
open Go.RowKit

/-! A list laid over another. -/
def inlay (L : List Int) (o : Nat) (cs : List Int) : List Int := L.take o ++ (cs ++ L.drop (o + cs.length))
theorem inlay_get (L cs : List Int) (o : Nat) (h : o + cs.length ≤ L.length) (j : Nat) : (inlay L o cs)[j]? = if o ≤ j ∧ j < o + cs.length then cs[j - o]? else L[j]? := by
  unfold inlay
  by_cases h1 : j < o
  · rw [if_neg (by omega), List.getElem?_append_left (by simp; omega), List.getElem?_take, if_pos h1]
  · rw [List.getElem?_append_right (by simp; omega)]
    have e1 : (L.take o).length = o := by simp; omega
    rw [e1]
    by_cases h2 : j < o + cs.length
    · rw [if_pos ⟨by omega, h2⟩, List.getElem?_append_left (by omega)]
    · rw [if_neg (by omega), List.getElem?_append_right (by omega), List.getElem?_drop]
      congr 1
      omega
theorem inlay_num (L cs : List Int) (o : Nat) (h : o + cs.length ≤ L.length) (j : Nat) : numAt (inlay L o cs) j = if o ≤ j ∧ j < o + cs.length then numAt cs (j - o) else numAt L j := by
  unfold numAt
  rw [List.getD_eq_getElem?_getD, inlay_get _ _ _ h]
  split <;> rw [List.getD_eq_getElem?_getD]
theorem inlay_length (L cs : List Int) (o : Nat) (h : o + cs.length ≤ L.length) : (inlay L o cs).length = L.length := by
  unfold inlay
  simp
  omega
def rowFrom (xs : List Int) (o : Nat) : Nat → Int := fun i => numAt xs (o + i)
def tab (n : Nat) (f : Nat → Int) : List Int := (List.range n).map f
theorem tab_length (n : Nat) (f : Nat → Int) : (tab n f).length = n := by simp [tab]
theorem tab_at {n : Nat} {f : Nat → Int} {i : Nat} (h : i < n) : numAt (tab n f) i = f i := numAt_map h
theorem inlay_tab {L : List Int} {o n : Nat} {f : Nat → Int} (h : o + n ≤ L.length) (j : Nat) : numAt (inlay L o (tab n f)) j = if o ≤ j ∧ j < o + n then f (j - o) else numAt L j := by
  rw [inlay_num _ _ _ (by rw [tab_length]; exact h), tab_length]
  by_cases h1 : o ≤ j ∧ j < o + n
  · rw [if_pos h1, if_pos h1, tab_at (by omega)]
  · rw [if_neg h1, if_neg h1]
theorem inlay_tab_length {L : List Int} {o n : Nat} {f : Nat → Int} (h : o + n ≤ L.length) : (inlay L o (tab n f)).length = L.length := inlay_length _ _ _ (by rw [tab_length]; exact h)
theorem inlay_tab_of {L ys : List Int} {o n : Nat} {f : Nat → Int} (h : o + n ≤ L.length) (hl : ys.length = L.length) (h1 : ∀ j, j < n → numAt ys (o + j) = f j) (h2 : ∀ j, j < o ∨ o + n ≤ j → numAt ys j = numAt L j) : ys = inlay L o (tab n f) := by
  apply num_ext
  · rw [hl, inlay_tab_length h]
  · intro j hj
    rw [inlay_tab h]
    by_cases hj2 : o ≤ j ∧ j < o + n
    · rw [if_pos hj2, ← h1 _ (by omega)]
      congr 1
      omega
    · rw [if_neg hj2]
      exact h2 j (by omega)
theorem num_set {L : List Int} {i : Nat} {z : Int} (h : i < L.length) (j : Nat) : numAt (L.set i z) j = if j = i then z else numAt L j := by
  unfold numAt
  rw [List.getD_eq_getElem?_getD, List.getElem?_set]
  by_cases hj : j = i
  · subst hj
    simp [h]
  · rw [if_neg (fun e => hj e.symm), if_neg hj, ← List.getD_eq_getElem?_getD]
theorem num_take {L : List Int} {n j : Nat} (h : j < n) : numAt (L.take n) j = numAt L j := take_num h
theorem num_far {L : List Int} {j : Nat} (h : L.length ≤ j) : numAt L j = 0 := by
  unfold numAt
  rw [List.getD_eq_getElem?_getD, List.getElem?_eq_none h]
  rfl

def zero8 : List Int := List.replicate 8 0
theorem zero8_length : zero8.length = 8 := by decide
theorem zero8_cells : (zero8.map I64).toArray = #[.int .i64 0, .int .i64 0, .int .i64 0, .int .i64 0, .int .i64 0, .int .i64 0, .int .i64 0, .int .i64 0] := rfl
/-! A step of a row and back, by places. -/
def stepAt (m : Nat) (r : Nat → Int) (x : Nat) : Int := if x < m then (r (2 * x) + r (2 * x + 1)) / 2 else r (2 * (x - m)) - r (2 * (x - m) + 1)
def unstepAt (m : Nat) (r : Nat → Int) (x : Nat) : Int := r (x / 2) - r (m + x / 2) / 2 + (if x % 2 = 0 then r (m + x / 2) else 0)

/-- Block g is numbers. -/
def NumsAt (w : World) (T : TypeId) (g C : Nat) (xs : List Int) : Prop := Own w T (.slice (some ⟨g, 0, none⟩) xs.length C) (xs.map I64)
section
variable {w w' w0 : World} {T : TypeId} {g C : Nat} {xs : List Int}
theorem NumsAt.lt (h : NumsAt w T g C xs) : g < w.heap.size := Own.lt h g rfl
theorem NumsAt.cell (h : NumsAt w T g C xs) {j : Nat} (hj : j < xs.length) : w.cell? ⟨g, j, none⟩ = some (.int .i64 (numAt xs j)) ∧ w.frozen? ⟨g, j, none⟩ = false := by
  obtain ⟨h1, h2, -⟩ := Own.at_ h (j := j) (by simpa using hj)
  refine ⟨?_, h2⟩
  unfold numAt
  rw [h1, List.getElem?_map, List.getElem?_eq_getElem hj, List.getD_eq_getElem?_getD, List.getElem?_eq_getElem hj]; rfl
theorem NumsAt.set (h : NumsAt w T g C xs) (j : Nat) (z : Int) : NumsAt (w.setCell ⟨g, j, none⟩ (.int .i64 z)) T g C (xs.set j z) := by
  have := Own.set h j (.int .i64 z)
  unfold NumsAt
  rw [List.map_set, List.length_set]
  exact this
theorem NumsAt.fr {S : List Nat} (h : NumsAt w T g C xs) (hf : Fr S w w') (hg : g ∉ S) : NumsAt w' T g C xs := Own.fr h hf (fun k hk => by injection hk with hk; exact hk ▸ hg)
theorem NumsAt.src (h : NumsAt w T g C xs) : Src w (.slice (some ⟨g, 0, none⟩) xs.length C) (xs.map I64) := Own.src h
theorem Own.slice_ {w : World} {e : TypeId} {g C n : Nat} {xs : List Value} (h : Own w e (.slice (some ⟨g, 0, none⟩) n C) xs) : ∃ cur, Blk w g e cur ∧ xs.length ≤ C ∧ C ≤ maxLen ∧ cur.size = C ∧ cur.toList.take xs.length = xs := by
  rcases h.form with ⟨h1, -⟩ | ⟨g', cap, cur, h1, hb, h2, h3, h4, h5⟩
  · cases h1
  · injection h1 with e1 e2 e3
    injection e1 with e1
    injection e1 with e1
    subst e1 e2 e3
    exact ⟨cur, hb, h2, h3, h4, h5⟩
theorem NumsAt.cap (h : NumsAt w T g C xs) : xs.length ≤ C := by
  obtain ⟨cur, -, h1, -⟩ := Own.slice_ h
  simpa using h1
theorem add_off (g o j : Nat) : (⟨g, o, none⟩ : Addr).add j = ⟨g, o + j, none⟩ := by
  unfold Addr.add
  split
  · rename_i h; subst h; rfl
  · rfl
/-- A part's numbers, to be read. -/
theorem NumsAt.part (h : NumsAt w T g C xs) {o n c : Nat} (hn : o + n ≤ xs.length) (hc : n ≤ c) : Src w (.slice (some ⟨g, o, none⟩) n c) ((tab n (rowFrom xs o)).map I64) := by
  refine .inr ⟨⟨g, o, none⟩, c, by simp [tab_length], by simp [tab_length]; exact hc, fun j u hu => ?_⟩
  have hj : j < n := by
    have := (List.getElem?_eq_some_iff.1 hu).1
    simpa [tab_length] using this
  rw [add_off, (h.cell (j := o + j) (by omega)).1, ← hu, List.getElem?_map, tab, List.getElem?_map, List.getElem?_range hj]
  rfl
theorem MineN.at_ {A : Option Addr} {n c : Nat} {ns : List Int} (h : MineN w0 w (.slice A n c) ns) (hne : 0 < ns.length) : ∃ g, A = some ⟨g, 0, none⟩ ∧ n = ns.length ∧ w0.heap.size ≤ g ∧ NumsAt w 3 g c ns := by
  obtain ⟨g, rfl, hg, -, -, -, hn, -⟩ := h.cell (j := 0) hne
  subst hn
  exact ⟨g, rfl, rfl, hg, h.own⟩
theorem NumsAt.mine (h : NumsAt w 3 g C xs) (hf : Fr [] w0 w) (hg : w0.heap.size ≤ g) : MineN w0 w (.slice (some ⟨g, 0, none⟩) xs.length C) xs :=
  ⟨h, hf, fun k hk => by injection hk with hk; exact hk ▸ hg⟩
theorem NumsAt.lit (w : World) (T : TypeId) (xs : List Int) (n : Nat) (hn : xs.length = n) (hm : n ≤ maxLen) : NumsAt (w.alloc (.cells (xs.map I64).toArray T)) T w.heap.size n xs := by
  have := Own.lit w T (xs.map I64).toArray n (by simpa using hn) hm
  unfold NumsAt
  rw [hn]
  simpa using this
end

/-! An array's slices. -/
theorem arr8_len : Try.prog.arrayLen 42 = 8 := by kernel_rfl
theorem arr8_elem : Try.prog.elem 42 = 3 := by kernel_rfl
theorem slice_arr8 (w : World) (q n : Nat) (hn : n ≤ 8) : (Instr.sliceAt 42 (.pointer (some ⟨q, 0, none⟩)) none (some (.int .i64 (n : Int))) none).run Try.prog w = .ok (.slice (some ⟨q, 0, none⟩) n 8) w := by
  have h0 : Try.prog.underlying 42 = some (.array (Try.prog.arrayLen 42) (Try.prog.elem 42)) := by kernel_rfl
  rw [run_sliceAt_array_h w 42 ⟨q, 0, none⟩ h0 .i64 (n : Int) (by omega) (by rw [arr8_len]; omega), arr8_len, arr8_elem]
  obtain ⟨i, hi, hz, h1, h2⟩ := info_parts info_num
  simp [go_sem, hi, slicedAt]
theorem slice_arr8_all (w : World) (q : Nat) : (Instr.sliceAt 42 (.pointer (some ⟨q, 0, none⟩)) none none none).run Try.prog w = .ok (.slice (some ⟨q, 0, none⟩) 8 8) w := by
  have h0 : Try.prog.underlying 42 = some (.array (Try.prog.arrayLen 42) (Try.prog.elem 42)) := by kernel_rfl
  rw [run_sliceAt_array_all w 42 ⟨q, 0, none⟩ h0, arr8_len, arr8_elem]
  obtain ⟨i, hi, hz, h1, h2⟩ := info_parts info_num
  simp [go_sem, hi, slicedAt]

/-- copy of numbers into a part, as a step. -/
theorem wpList_copy_num {w : World} {ops : Array Oper} {rest : List Oper} {o : Oper} {a : Act} {Q : Exit → Act → World → Prop} (d s : Operand)
    (hw : Region.wanted o (yielded ops a.tmps) = true) (ho : o.op = .call { callee := .builtin .copy, args := #[d, s], argTypes := #[22, 22] })
    (T : TypeId) (g C : Nat) (xs : List Int) (off n c : Nat) (src : Value) (ys : List Int) (hv : a.eval d = .slice (some ⟨g, off, none⟩) n c) (hsv : a.eval s = src)
    (hR : NumsAt w T g C xs) (hn : off + n ≤ xs.length) (hs : Src w src (ys.map I64))
    (h : ∀ w', NumsAt w' T g C (inlay xs off (ys.take n)) → Fr [g] w w' → wpList Try.prog ops Q rest (a.put o.dst (.int .i64 ((min ys.length n : Nat) : Int))) w') : wpList Try.prog ops Q (o :: rest) a w := by
  refine wpList_step fun K hK => ?_
  rw [if_pos hw]
  obtain ⟨i, hi, hz, h1, h2⟩ := info_parts info_num
  have hsz : (Try.prog.info? 3).map (·.size) = some 1 := by rw [hi]; simp [h1]
  obtain ⟨sp, sc, hsv2⟩ : ∃ sp sc, src = .slice sp ys.length sc := by
    rcases hs with ⟨e, h0⟩ | ⟨ad', c', e, -⟩
    · exact ⟨none, 0, by have := congrArg List.length h0; simp at this; rw [this]; exact e⟩
    · exact ⟨some ad', c', by rw [e]; simp⟩
  by_cases h0 : min ys.length n = 0
  · have e1 : ys.take n = [] := List.eq_nil_of_length_eq_zero (by rw [List.length_take, Nat.min_comm]; exact h0)
    have hrun := run_copy_none (P := Try.prog) w 22 22 o.type 3 (some ⟨g, off, none⟩) sp n c ys.length sc Try.underlying22 hsz h0
    unfold Oper.wp
    simp [execOp, ho, resolve, invoke, builtin, hv, hsv, hsv2, hrun, Result.andThen]
    refine hK _ _ ?_
    have := h w (by rw [e1]; unfold inlay; simp; exact hR) (Fr.refl _ _)
    rw [h0] at this
    exact this
  · have hpos : 0 < n := by omega
    rcases hs with ⟨e, h0'⟩ | ⟨ad', c', e, -, hcell⟩
    · have := congrArg List.length h0'
      rw [List.length_map, List.length_nil] at this
      omega
    rw [hsv2] at e
    injection e with e1 e2 e3
    subst e1
    obtain ⟨cur, hb, hc1, hc2, hc3, hc4⟩ := Own.slice_ hR
    simp only [List.length_map] at hc1 hc4
    have hl : ((ys.take n).map I64).length = min ys.length n := by simp [Nat.min_comm]
    have hrun := run_copy_row (P := Try.prog) w 22 22 o.type 3 g off n c ad' ys.length sc cur T ((ys.take n).map I64) Try.underlying22 hsz hb.here hl
      (fun j u hu => hcell j u (by
        rw [List.getElem?_map, List.getElem?_take] at hu
        split at hu
        · rw [List.getElem?_map]; exact hu
        · cases hu)) (by rw [hl]; omega)
      (fun u hu => by obtain ⟨b, _, rfl⟩ := List.mem_map.1 hu; rfl)
    unfold Oper.wp
    simp only [execOp, ho, resolve, invoke, builtin, Sem.run_bind, Sem.run_pure, Result.andThen_ok, List.map_toArray, List.map_cons, List.map_nil, hv, hsv, hsv2, hrun]
    have hO := own_of_setRow (n := xs.length) hb hc1 hc2 (cur.toList.take off ++ ((ys.take n).map I64 ++ cur.toList.drop (off + ((ys.take n).map I64).length))) (by
      rw [List.length_append, List.length_append, hl, List.length_take, List.length_drop, Array.length_toList]
      omega)
    have hm2 : off + (ys.take n).length ≤ xs.length := by simp; omega
    have e1 : (cur.toList.take off ++ ((ys.take n).map I64 ++ cur.toList.drop (off + ((ys.take n).map I64).length))).take xs.length = (inlay xs off (ys.take n)).map I64 := by
      apply List.ext_getElem?
      intro j
      have hy : ∀ j, j < xs.length → cur.toList[j]? = (xs[j]?).map I64 := fun j hj => by
        rw [← List.getElem?_map, ← hc4, List.getElem?_take, if_pos hj]
      have hin := inlay_get xs (ys.take n) off hm2 j
      rw [List.getElem?_map, hin, List.getElem?_take]
      by_cases hj : j < xs.length
      · rw [if_pos hj]
        by_cases h3 : j < off
        · rw [if_neg (by omega), List.getElem?_append_left (by simp; omega), List.getElem?_take, if_pos h3]
          exact hy j hj
        · have e0 : (cur.toList.take off).length = off := by rw [List.length_take, Array.length_toList]; omega
          rw [List.getElem?_append_right (by omega), e0]
          by_cases h4 : j < off + (ys.take n).length
          · rw [if_pos ⟨by omega, h4⟩, List.getElem?_append_left (by rw [List.length_map]; omega), List.getElem?_map]
          · rw [if_neg (by omega), List.getElem?_append_right (by rw [List.length_map]; omega), List.getElem?_drop, List.length_map, ← hy j hj]
            congr 1
            omega
      · rw [if_neg hj, if_neg (by omega), List.getElem?_eq_none (by omega)]
        rfl
    rw [e1] at hO
    have hls := inlay_length xs (ys.take n) off hm2
    have hk := h (w.setRow g (cur.toList.take off ++ ((ys.take n).map I64 ++ cur.toList.drop (off + ((ys.take n).map I64).length))).toArray) (by unfold NumsAt; rw [hls]; exact hO) ((Fr.refl [g] w).grown (row := some g) ⟨rfl, rfl, rfl, by simp, fun k _ hk => setRow_other w g k _ (fun e => hk (by simp [e]))⟩ (fun k hk => .inl (by simpa using hk.symm)))
    have e3 : (((ys.take n).map I64).length : Int) = ((min ys.length n : Nat) : Int) := by rw [hl]
    rw [← e3] at hk
    refine hK _ _ ?_
    rw [List.append_assoc]
    exact hk
end Go.Proofs.Ytednjpgibbnieaa

/-
  Contracts of the landed lift: side, within, isBlock, slices.Clone. Conditions: rows of bounded length.
-/
namespace Go.Proofs.Ytednjpgibbnieaa
open Go.RowKit

theorem lside_any (A : Option Addr) (n c : Nat) (w : World) (hn : n ≤ 1000000) :
    Calls Try.prog 30 #[.slice A n c] w fun e w' => e = .returned (.int .i64 (sideN n : Int)) ∧ w' = w := by
  by_cases h1 : n = 16
  · subst h1
    go_enter Try.func30, Try.ntmps30
    go_wp2_with fail
    go_ret
    exact ⟨rfl, rfl⟩
  · by_cases h2 : n = 64
    · subst h2
      go_enter Try.func30, Try.ntmps30
      go_wp2_with fail
      go_ret
      exact ⟨rfl, rfl⟩
    · have e1 : ((n : Int) == 16) = false := by simp; omega
      have e2 : ((n : Int) == 64) = false := by simp; omega
      have hs : sideN n = 0 := by unfold sideN; rw [if_neg h1, if_neg h2]
      rw [hs]
      clear h1 h2 hs
      go_enter Try.func30, Try.ntmps30
      go_wp2_with fail
      go_ret
      exact ⟨rfl, rfl⟩

/-- The closure that tells what may be. -/
def mayBe (g : Nat) : Value := .func (.func 31) #[] #[.pointer (some ⟨g, 0, none⟩)]
theorem lwithin_any (m : Int) (w : World) :
    Calls Try.prog 20 #[.int .i64 m] w fun e w' => ∃ g, e = .returned (mayBe g) ∧ Blk w' g 3 #[.int .i64 m] ∧ Fr [] w w' := by
  have hB := Blk.new w 3 #[.int .i64 m]
  have HB := Lib.hid hB
  clear hB
  go_enter Try.func20, Try.ntmps20
  go_wp2_with fail
  go_ret
  exact ⟨w.heap.size, rfl, HB.out, (Fr.refl _ _).alloc _⟩
theorem lmay_any (g : Nat) (m v : Int) (w : World) (hb : Blk w g 3 #[.int .i64 m]) (h1 : 0 ≤ m) (h2 : m ≤ 1099511627776) :
    Calls Try.prog 31 #[.int .i64 v, .pointer (some ⟨g, 0, none⟩)] w fun e w' => e = .returned (.bool (decide (-m ≤ v) && decide (v ≤ m))) ∧ w' = w := by
  have c0 := hb.cell 0
  simp at c0
  have wm : IntKind.i64.wrap (-m) = -m := IntWalk.i64_in _ (by omega)
  clear hb
  by_cases h3 : -m ≤ v
  · have e1 : decide (-m ≤ v) = true := by simpa using h3
    rw [e1]
    go_enter Try.func31, Try.ntmps31
    go_wp2_with fail
    go_ret
    exact ⟨by simp, rfl⟩
  · have e1 : decide (-m ≤ v) = false := by simpa using h3
    rw [e1]
    go_enter Try.func31, Try.ntmps31
    go_wp2_with fail
    go_ret
    exact ⟨by simp, rfl⟩
end Go.Proofs.Ytednjpgibbnieaa

/-
  Contracts of the landed lift: isBlock, slices.Clone. Conditions: rows of bounded length.
-/
namespace Go.Proofs.Ytednjpgibbnieaa
open Go.RowKit

def isBlk (b : List Int) (m : Int) : Bool := !(sideN b.length == 0) && withinB b m
set_option maxRecDepth 20000 in
set_option maxHeartbeats 4000000 in
theorem lblock_any (A : Option Addr) (c : Nat) (b : List Int) (g : Nat) (m : Int) (w : World) (hs : Src w (.slice A b.length c) (b.map I64)) (hb : b.length ≤ 1000000) (hg : Blk w g 3 #[.int .i64 m]) (hm : 0 ≤ m) (hm2 : m ≤ 1099511627776) :
    Calls Try.prog 19 #[.slice A b.length c, mayBe g] w fun e w' => e = .returned (.bool (isBlk b m)) ∧ w' = w := by
  have HM := Lib.hid fun v => lmay_any g m v w hg hm hm2
  have HSd := Lib.hid (lside_any A b.length c w hb)
  obtain ⟨R, hR⟩ : ∃ R, R = isBlk b m := ⟨_, rfl⟩
  rw [← hR]
  have HR := Lib.hid hR
  by_cases h0 : sideN b.length = 0
  · have Hr := Lib.hid (show isBlk b m = false by unfold isBlk; rw [h0]; rfl)
    rw [h0] at HSd
    obtain ⟨n, hn⟩ : ∃ n, n = b.length := ⟨_, rfl⟩
    rw [← hn] at HSd ⊢
    clear hs hb hg hR hn h0
    unfold mayBe
    go_enter Try.func19, Try.ntmps19
    go_wp2_with fail
    refine HSd.out.mono ?_
    rintro e w1 ⟨rfl, rfl⟩
    go_wp2_with fail
    go_ret
    exact ⟨by rw [HR.out, Hr.out]; rfl, rfl⟩
  · have hR2 : R = withinB b m := by
      rw [hR]
      unfold isBlk
      have : (sideN b.length == 0) = false := by simpa using h0
      rw [this]
      rfl
    have HR2 := Lib.hid hR2
    obtain ⟨P, hP⟩ : ∃ P, P = sideN b.length := ⟨_, rfl⟩
    rw [← hP] at HSd h0
    have t1 : ((P : Int) == 0) = false := by simp; omega
    obtain ⟨n, hn⟩ : ∃ n, n = b.length := ⟨_, rfl⟩
    have HS := Lib.hid hs; have Hn := Lib.hid hn
    rw [← hn] at hb HSd ⊢
    clear hs hg hR hR2 hP h0 hn HR
    unfold mayBe
    go_enter Try.func19, Try.ntmps19
    go_wp2_with fail
    refine HSd.out.mono ?_
    rintro e w1 ⟨rfl, rfl⟩
    clear HSd
    go_wp2_with fail
    go_loopw [12] (fun s12 wr => ∃ i : Nat, i ≤ n ∧ s12 = .int .i64 (i : Int) ∧ wr = w1 ∧ ∀ j, j < i → -m ≤ numAt b j ∧ numAt b j ≤ m) (fun s12 _ => n - (intOf s12).toNat)
    case atStart => exact ⟨0, by omega, rfl, rfl, by omega⟩
    case round =>
      obtain ⟨i, hi, rfl, rfl, hall⟩ := hrel
      have Hall := Lib.hid hall
      clear hall
      by_cases hlt : i < n
      · obtain ⟨ad, rfl, cx⟩ := HS.out.num (k := i) (by have := Hn.out; omega)
        obtain ⟨v, hv⟩ : ∃ v, v = b.getD i 0 := ⟨_, rfl⟩
        rw [← hv] at cx
        have Hv := Lib.hid hv
        have hfalse : (decide (-m ≤ v) && decide (v ≤ m)) = false → withinB b m = false := by
          intro h
          cases hw : withinB b m
          · rfl
          · exfalso
            have := within_at hw (j := i) (by have := Hn.out; omega)
            unfold numAt at this
            rw [← hv] at this
            simp at h
            omega
        have Hfalse := Lib.hid hfalse
        have HMv := Lib.hid (HM.out v)
        clear hv hfalse
        have eg : decide (i < n) = true := by simpa using hlt
        obtain ⟨t, ht⟩ : ∃ t, t = (decide (-m ≤ v) && decide (v ≤ m)) := ⟨_, rfl⟩
        rw [← ht] at HMv Hfalse
        have Ht := Lib.hid ht
        clear ht
        go_wp2_with fail
        refine HMv.out.mono ?_
        rintro e w2 ⟨rfl, rfl⟩
        cases t with
        | true =>
          go_wp2_with fail
          refine ⟨⟨i + 1, by omega, by simp, trivial, fun j hj => ?_⟩, by simp [intOf]; omega⟩
          by_cases hji : j = i
          · subst hji
            unfold numAt
            rw [← Hv.out]
            have := Ht.out
            simp at this
            omega
          · exact Hall.out j (by omega)
        | false =>
          have Hf := Lib.hid (Hfalse.out rfl)
          go_wp2_with fail
          go_ret
          exact ⟨by rw [HR2.out, Hf.out]; rfl, rfl⟩
      · have eg : decide (i < n) = false := by simpa using hlt
        have hin : withinB b m = true := all_take b i m Hall.out (by have := Hn.out; omega)
        have Hin := Lib.hid hin
        clear hin
        go_wp2_with fail
        go_ret
        exact ⟨by rw [HR2.out, Hin.out]; rfl, rfl⟩

theorem lclone_any (A : Option Addr) (c : Nat) (xs : List Int) (w : World) (hs : Src w (.slice A xs.length c) (xs.map I64)) (hn : xs.length ≤ 1000000) :
    Calls Try.prog 21 #[.slice A xs.length c] w fun e w' => ∃ B d, e = .returned (.slice B xs.length d) ∧ MineN w w' (.slice B xs.length d) xs := by
  obtain ⟨n, hnn⟩ : ∃ n, n = xs.length := ⟨_, rfl⟩
  rw [← hnn] at hs hn ⊢
  have HS := Lib.hid hs
  have Hn := Lib.hid hnn
  clear hs hnn
  have q : ∀ (w : World) (a : Option Addr) (n c n' c' : Nat), (binOp .eql 22 (.slice a n c) (.slice none n' c')).run Try.prog w = .ok (.bool a.isNone) w := fun w a n c n' c' => Lib.run_eql_slice_nil w _ _ a n c n' c' Try.underlying22
  cases A with
  | none =>
    have h0 : n = 0 ∧ c = 0 ∧ xs = [] := by
      rcases HS.out with ⟨e, h⟩ | ⟨ad, c', e, -⟩
      · injection e with e1 e2 e3
        exact ⟨e2, e3, by simpa using h⟩
      · cases e
    obtain ⟨rfl, rfl, rfl⟩ := h0
    go_enter Try.func21, Try.ntmps21
    go_wp2_with fail
    go_ret
    exact ⟨none, 0, rfl, MineN.nil (Fr.refl _ _)⟩
  | some ad =>
    have hw1 : Own (w.alloc (.cells #[] 3)) 3 (.slice (some ⟨w.heap.size, 0, none⟩) 0 0) (([] : List Int).map I64) := Own.lit w 3 #[] 0 rfl (by simp [maxLen])
    go_enter Try.func21, Try.ntmps21
    go_wp2_with (at_builtin; refine wp_append_num _ _ (.slice (some ⟨w.heap.size, 0, none⟩) 0 0) [] (.slice (some ad) n c) xs rfl rfl rfl rfl hw1 (HS.out.fr0 ((Fr.refl _ _).alloc _)) (by simp; have := Hn.out; omega) ?_)
    intro B d w1 hO hG
    have hM0 : MineN w (w.alloc (.cells #[] 3)) (.slice (some ⟨w.heap.size, 0, none⟩) 0 0) [] := by
      refine ⟨hw1, (Fr.refl _ _).alloc _, fun k hk => ?_⟩
      have : w.heap.size = k := by simpa [Value.ownBlock] using hk
      omega
    have hM := hM0.appended (ms := xs) (by exact hO) hG
    rw [List.nil_append] at hM
    rw [← Hn.out] at hM ⊢
    have HM := Lib.hid hM
    clear hM hM0 hO hG hw1
    go_wp2_with fail
    go_ret
    exact ⟨B, d, rfl, HM.out⟩
end Go.Proofs.Ytednjpgibbnieaa

/-
  Contracts of the landed lift: step. Conditions: at most 8 numbers, within 2^40.
-/
namespace Go.Proofs.Ytednjpgibbnieaa
open Go.RowKit

theorem stepAt_low {m : Nat} {r : Nat → Int} {x : Nat} (h : x < m) : stepAt m r x = (r (2 * x) + r (2 * x + 1)) / 2 := by unfold stepAt; rw [if_pos h]
theorem stepAt_high {m : Nat} {r : Nat → Int} {x : Nat} : stepAt m r (m + x) = r (2 * x) - r (2 * x + 1) := by
  unfold stepAt
  rw [if_neg (by omega), Nat.add_sub_cancel_left]

set_option maxRecDepth 20000 in
set_option maxHeartbeats 4000000 in
theorem lstep_any (T : TypeId) (g C : Nat) (xs : List Int) (o m c : Nat) (w : World) (hR : NumsAt w T g C xs) (ho : o + 2 * m ≤ xs.length) (hc : 2 * m ≤ c) (hm : m ≤ 4)
    (hb : ∀ j, j < 2 * m → -1099511627776 ≤ rowFrom xs o j ∧ rowFrom xs o j ≤ 1099511627776) :
    Calls Try.prog 32 #[.slice (some ⟨g, o, none⟩) (2 * m) c] w fun e w' => e = .returned (.tuple #[]) ∧ NumsAt w' T g C (inlay xs o (tab (2 * m) (stepAt m (rowFrom xs o)))) ∧ Fr [g] w w' := by
  have hA := NumsAt.lit w 42 (List.replicate 8 0) 8 (by simp) (by simp [maxLen])
  have hfA : Fr [] w (w.alloc (.cells ((List.replicate 8 (0 : Int)).map I64).toArray 42)) := (Fr.refl _ _).alloc _
  have hR1 := hR.fr hfA (by simp)
  have hgl := hR.lt
  have hsz : w.heap.size < (w.alloc (.cells ((List.replicate 8 (0 : Int)).map I64).toArray 42)).heap.size := hA.lt
  have HR := Lib.hid hR1; have HA := Lib.hid hA; have HfA := Lib.hid hfA; have Hb := Lib.hid hb; have Ho := Lib.hid ho
  rw [show ((List.replicate 8 (0 : Int)).map I64).toArray = #[.int .i64 0, .int .i64 0, .int .i64 0, .int .i64 0, .int .i64 0, .int .i64 0, .int .i64 0, .int .i64 0] from rfl] at HR HA HfA hsz
  obtain ⟨n, hn⟩ : ∃ n, n = 2 * m := ⟨_, rfl⟩
  have Hn := Lib.hid hn
  rw [← hn] at hc ⊢
  have e1 : (n : Int) / 2 = (m : Int) := by omega
  have e2 : n / 2 = m := by omega
  clear hA hR hR1 hfA ho hb hn
  go_enter Try.func32, Try.ntmps32
  go_wp2_with fail
  obtain ⟨q, hq⟩ : ∃ q, q = w.heap.size := ⟨_, rfl⟩
  rw [← hq] at HA hgl hsz ⊢
  obtain ⟨w1, hw1⟩ : ∃ w1, w1 = w.alloc (.cells #[.int .i64 0, .int .i64 0, .int .i64 0, .int .i64 0, .int .i64 0, .int .i64 0, .int .i64 0, .int .i64 0] 42) := ⟨_, rfl⟩
  rw [← hw1] at HR HA HfA hsz ⊢
  have Hq := Lib.hid hq
  clear hw1 hq
  have hgq : g ≠ q := by omega
  go_loopw [11] (fun s11 wr => ∃ (i : Nat) (hs : List Int), i ≤ m ∧ s11 = .int .i64 (i : Int) ∧ hs.length = 8 ∧ NumsAt wr 42 q 8 hs ∧ Fr [q] w1 wr ∧ ∀ j, j < i → numAt hs j = stepAt m (rowFrom xs o) j ∧ numAt hs (m + j) = stepAt m (rowFrom xs o) (m + j)) (fun s11 _ => m - (intOf s11).toNat)
  case atStart => exact ⟨0, List.replicate 8 0, by omega, rfl, by simp, HA.out, Fr.refl _ _, by omega⟩
  case round =>
    clear HA
    obtain ⟨i, hs, hi, rfl, hl, hN, hF, hall⟩ := hrel
    have hRr := HR.out.fr hF (by simp; exact hgq)
    by_cases hlt : i < m
    · have eg : decide (i < m) = true := by simpa using hlt
      have ho := Ho.out
      have c0 := (hRr.cell (j := o + 2 * i) (by omega)).1
      have c1 := (hRr.cell (j := o + (2 * i + 1)) (by omega)).1
      have b0 := Hb.out (2 * i) (by omega)
      have b1 := Hb.out (2 * i + 1) (by omega)
      have hs1 := stepAt_low (r := rowFrom xs o) hlt
      have hs2 := stepAt_high (m := m) (r := rowFrom xs o) (x := i)
      rw [show numAt xs (o + 2 * i) = rowFrom xs o (2 * i) from rfl] at c0
      rw [show numAt xs (o + (2 * i + 1)) = rowFrom xs o (2 * i + 1) from rfl] at c1
      obtain ⟨u, hu⟩ : ∃ u, u = rowFrom xs o (2 * i) := ⟨_, rfl⟩
      obtain ⟨v, hv⟩ : ∃ v, v = rowFrom xs o (2 * i + 1) := ⟨_, rfl⟩
      rw [← hu] at c0 b0 hs1 hs2
      rw [← hv] at c1 b1 hs1 hs2
      obtain ⟨J, hJ⟩ : ∃ J, J = 2 * i := ⟨_, rfl⟩
      obtain ⟨J1, hJ1⟩ : ∃ J1, J1 = 2 * i + 1 := ⟨_, rfl⟩
      rw [← hJ] at c0
      rw [← hJ1] at c1
      have e3 : (2 : Int) * (i : Int) = (J : Int) := by omega
      have e4 : (J : Int) + 1 = (J1 : Int) := by omega
      have wuv : IntKind.i64.wrap (u + v) = u + v := IntWalk.i64_in _ (by omega)
      have wuw : IntKind.i64.wrap (u - v) = u - v := IntWalk.i64_in _ (by omega)
      have hJn : J < n := by have := Hn.out; omega
      have hJ1n : J1 < n := by have := Hn.out; omega
      have hhl := hN.lt
      obtain ⟨Y, hY⟩ : ∃ Y, Y = stepAt m (rowFrom xs o) i := ⟨_, rfl⟩
      obtain ⟨Z, hZ⟩ : ∃ Z, Z = stepAt m (rowFrom xs o) (m + i) := ⟨_, rfl⟩
      obtain ⟨K1, hK1⟩ : ∃ K1, K1 = m + i := ⟨_, rfl⟩
      have e5 : (m : Int) + (i : Int) = (K1 : Int) := by omega
      have hK8 : K1 < 8 := by omega
      have hi8 : i < 8 := by omega
      have hall2 : ∀ j, j < i + 1 → numAt ((hs.set i Y).set K1 Z) j = stepAt m (rowFrom xs o) j ∧ numAt ((hs.set i Y).set K1 Z) (m + j) = stepAt m (rowFrom xs o) (m + j) := by
        intro j hj
        rw [num_set (by simp; omega), num_set (by omega), num_set (by simp; omega), num_set (by omega)]
        by_cases hji : j = i
        · subst hji
          rw [if_neg (by omega), if_pos rfl, if_pos (by omega)]
          exact ⟨hY, hZ⟩
        · rw [if_neg (by omega), if_neg hji, if_neg (by omega), if_neg (by omega)]
          exact hall j (by omega)
      have d0 := (hN.cell (j := i) (by omega)).1
      have f0 := (hN.cell (j := i) (by omega)).2
      have d1 := (hN.cell (j := K1) (by omega)).1
      have f1 := (hN.cell (j := K1) (by omega)).2
      have hne : i ≠ K1 := by omega
      rw [← hY] at hs1
      rw [← hZ] at hs2
      have HN := Lib.hid hN; have HF := Lib.hid hF; have Hall := Lib.hid hall2; have Hl := Lib.hid hl; have HY := Lib.hid hs1; have HZ := Lib.hid hs2; have HK1 := Lib.hid hK1
      clear hN hF hall hall2 hl hs1 hs2 hu hv hJ hJ1 hY hZ hK1 hRr ho
      go_upto_region 5 with fail
      go_quiet (fail)
      have HN2 := Lib.hid ((NumsAt.set (Own.drewN HN.out nq : NumsAt (wr.drewN nq) 42 q 8 hs) i Y).set K1 Z)
      have HF2 := Lib.hid (((HF.out.drewN nq).setCell (p := ⟨q, i, none⟩) (.inl (by simp)) (.int .i64 Y)).setCell (p := ⟨q, K1, none⟩) (.inl (by simp)) (.int .i64 Z))
      go_wp2_with fail
      rw [HY.out, HZ.out] at HN2 HF2 Hall
      exact ⟨⟨i + 1, _, by omega, by simp, by simp [Hl.out], HN2.out, HF2.out, Hall.out⟩, by simp [intOf]; omega⟩
    · have eg : decide (i < m) = false := by simpa using hlt
      have him : i = m := by omega
      subst him
      have hout : tab (2 * i) (stepAt i (rowFrom xs o)) = hs.take (2 * i) := by
        apply num_ext
        · rw [tab_length, List.length_take]; omega
        · intro j hj
          rw [tab_length] at hj
          rw [tab_at hj, num_take hj]
          by_cases hji : j < i
          · exact (hall j hji).1.symm
          · have := (hall (j - i) (by omega)).2
            rw [show i + (j - i) = j by omega] at this
            exact this.symm
      have hsrc : Src wr (.slice (some ⟨q, 0, none⟩) n 8) ((tab (2 * i) (stepAt i (rowFrom xs o))).map I64) := by
        have := hN.part (o := 0) (n := n) (c := 8) (by have := Hn.out; omega) (by have := Hn.out; omega)
        have e : tab n (rowFrom hs 0) = tab (2 * i) (stepAt i (rowFrom xs o)) := by
          rw [Hn.out]
          apply num_ext
          · simp [tab_length]
          · intro j hj
            rw [tab_length] at hj
            rw [hout, tab_at hj, num_take hj]
            unfold rowFrom
            rw [Nat.zero_add]
        rw [e] at this
        exact this
      have HRr := Lib.hid hRr; have HSrc := Lib.hid hsrc; have HF := Lib.hid hF
      have e3 : (2 : Int) * (i : Int) = (n : Int) := by have := Hn.out; omega
      have hn8 : n ≤ 8 := by have := Hn.out; omega
      have hlen : (tab (2 * i) (stepAt i (rowFrom xs o))).length = n := by rw [tab_length]; exact Hn.out.symm
      have Hlen := Lib.hid hlen
      have Htake := Lib.hid (show (tab (2 * i) (stepAt i (rowFrom xs o))).take n = tab (2 * i) (stepAt i (rowFrom xs o)) from List.take_of_length_le (by omega))
      have hsl := fun W => slice_arr8 W q n hn8
      clear hRr hsrc hF hN hall hl hout hlen
      go_wp2_with (refine wpList_copy_num _ _ rfl rfl T g C xs o n c (.slice (some ⟨q, 0, none⟩) n 8) (tab (2 * i) (stepAt i (rowFrom xs o))) rfl rfl HRr.out (by have := Ho.out; have := Hn.out; omega) HSrc.out ?_)
      intro w2 hR2 hF2
      rw [Htake.out] at hR2
      have HR2 := Lib.hid hR2; have HF2 := Lib.hid hF2
      clear hR2 hF2
      go_wp2_with fail
      go_end0
      refine ⟨rfl, by rw [Hn.out]; exact HR2.out, ?_⟩
      have hf1 : Fr [] w wr := HfA.out.trans HF.out (by intro x hx; simp at hx; exact .inr (by rw [hx, Hq.out]; exact Nat.le_refl _))
      exact (hf1.mono (S' := [g]) (by simp)).trans HF2.out (by simp)
end Go.Proofs.Ytednjpgibbnieaa

/-
  Contracts of the landed lift: stepBack. Conditions: at most 8 numbers, within 2^42.
-/
namespace Go.Proofs.Ytednjpgibbnieaa
open Go.RowKit

theorem unstepAt_even {m : Nat} {r : Nat → Int} {i : Nat} : unstepAt m r (2 * i) = r i - r (m + i) / 2 + r (m + i) := by
  unfold unstepAt
  rw [show 2 * i / 2 = i by omega, if_pos (by omega)]
theorem unstepAt_odd {m : Nat} {r : Nat → Int} {i : Nat} : unstepAt m r (2 * i + 1) = r i - r (m + i) / 2 := by
  unfold unstepAt
  rw [show (2 * i + 1) / 2 = i by omega, if_neg (by omega), Int.add_zero]

set_option maxRecDepth 20000 in
set_option maxHeartbeats 4000000 in
theorem lstepBack_any (T : TypeId) (g C : Nat) (xs : List Int) (o m c : Nat) (w : World) (hR : NumsAt w T g C xs) (ho : o + 2 * m ≤ xs.length) (hc : 2 * m ≤ c) (hm : m ≤ 4)
    (hb : ∀ j, j < 2 * m → -4398046511104 ≤ rowFrom xs o j ∧ rowFrom xs o j ≤ 4398046511104) :
    Calls Try.prog 35 #[.slice (some ⟨g, o, none⟩) (2 * m) c] w fun e w' => e = .returned (.tuple #[]) ∧ NumsAt w' T g C (inlay xs o (tab (2 * m) (unstepAt m (rowFrom xs o)))) ∧ Fr [g] w w' := by
  have hA := NumsAt.lit w 42 zero8 8 zero8_length (by simp [maxLen])
  have hfA : Fr [] w (w.alloc (.cells (zero8.map I64).toArray 42)) := (Fr.refl _ _).alloc _
  have hR1 := hR.fr hfA (by simp)
  have hgl := hR.lt
  have HR := Lib.hid hR1; have HA := Lib.hid hA; have HfA := Lib.hid hfA; have Hb := Lib.hid hb; have Ho := Lib.hid ho
  rw [zero8_cells] at HR HA HfA
  obtain ⟨n, hn⟩ : ∃ n, n = 2 * m := ⟨_, rfl⟩
  have Hn := Lib.hid hn
  have Hsrc := Lib.hid (hR1.part (o := o) (n := n) (c := c) (by rw [hn]; exact ho) (by rw [hn]; exact hc))
  rw [zero8_cells] at Hsrc
  rw [← hn] at hc ⊢
  have e1 : (n : Int) / 2 = (m : Int) := by omega
  have e2 : n / 2 = m := by omega
  have hsl := fun W => slice_arr8_all W w.heap.size
  clear hA hR hR1 hfA ho hb hn
  go_enter Try.func35, Try.ntmps35
  go_wp2_with (refine wpList_copy_num _ _ rfl rfl 42 w.heap.size 8 zero8 0 8 8 (.slice (some ⟨g, o, none⟩) n c) (tab n (rowFrom xs o)) rfl rfl HA.out (by rw [zero8_length]; omega) Hsrc.out ?_)
  intro w2 hN hF2
  obtain ⟨q, hq⟩ : ∃ q, q = w.heap.size := ⟨_, rfl⟩
  rw [← hq] at hN hF2 hgl hsl HA ⊢
  have Hq := Lib.hid hq
  have hgq : g ≠ q := by omega
  have hR2 := HR.out.fr hF2 (by simp; exact hgq)
  have hf2 : Fr [] w w2 := HfA.out.trans hF2 (by intro x hx; simp at hx; exact .inr (by rw [hx, hq]; exact Nat.le_refl _))
  clear hq HA HR Hsrc hF2 HfA
  obtain ⟨hs, hhs⟩ : ∃ hs, hs = inlay zero8 0 ((tab n (rowFrom xs o)).take 8) := ⟨_, rfl⟩
  have hlt8 : ((tab n (rowFrom xs o)).take 8).length = n := by rw [List.length_take, tab_length]; have := Hn.out; omega
  have hl : hs.length = 8 := by rw [hhs, inlay_length _ _ _ (by rw [hlt8, zero8_length]; have := Hn.out; omega), zero8_length]
  have hcell : ∀ j, j < n → numAt hs j = rowFrom xs o j := by
    intro j hj
    rw [hhs, inlay_num _ _ _ (by rw [hlt8, zero8_length]; have := Hn.out; omega), if_pos (by omega), num_take (by have := Hn.out; omega), Nat.sub_zero, tab_at hj]
  rw [← hhs] at hN
  have HN := Lib.hid hN; have HR2 := Lib.hid hR2; have Hf2 := Lib.hid hf2; have Hl := Lib.hid hl; have Hcell := Lib.hid hcell
  clear hhs hN hR2 hf2 hl hcell hlt8
  go_wp2_with fail
  go_loopw [15] (fun s15 wr => ∃ (i : Nat) (ys : List Int), i ≤ m ∧ s15 = .int .i64 (i : Int) ∧ ys.length = xs.length ∧ NumsAt wr T g C ys ∧ Fr [g] w2 wr ∧ (∀ j, j < 2 * i → numAt ys (o + j) = unstepAt m (rowFrom xs o) j) ∧ ∀ j, j < o ∨ o + 2 * i ≤ j → numAt ys j = numAt xs j) (fun s15 _ => m - (intOf s15).toNat)
  case atStart => exact ⟨0, xs, by omega, rfl, rfl, HR2.out, Fr.refl _ _, by omega, fun _ _ => rfl⟩
  case round =>
    clear HR2
    obtain ⟨i, ys, hi, rfl, hyl, hY, hF, hin, hout⟩ := hrel
    have hNr := HN.out.fr hF (by simp; omega)
    by_cases hlt : i < m
    · have eg : decide (i < m) = true := by simpa using hlt
      have ho := Ho.out
      have c0 := (hNr.cell (j := i) (by have := Hl.out; omega)).1
      have c1 := (hNr.cell (j := m + i) (by have := Hl.out; omega)).1
      rw [Hcell.out i (by have := Hn.out; omega)] at c0
      rw [Hcell.out (m + i) (by have := Hn.out; omega)] at c1
      have b0 := Hb.out i (by omega)
      have b1 := Hb.out (m + i) (by omega)
      have hs1 := unstepAt_even (m := m) (r := rowFrom xs o) (i := i)
      have hs2 := unstepAt_odd (m := m) (r := rowFrom xs o) (i := i)
      obtain ⟨u, hu⟩ : ∃ u, u = rowFrom xs o i := ⟨_, rfl⟩
      obtain ⟨v, hv⟩ : ∃ v, v = rowFrom xs o (m + i) := ⟨_, rfl⟩
      rw [← hu] at c0 b0 hs1 hs2
      rw [← hv] at c1 b1 hs1 hs2
      obtain ⟨J, hJ⟩ : ∃ J, J = 2 * i := ⟨_, rfl⟩
      obtain ⟨J1, hJ1⟩ : ∃ J1, J1 = 2 * i + 1 := ⟨_, rfl⟩
      obtain ⟨K1, hK1⟩ : ∃ K1, K1 = m + i := ⟨_, rfl⟩
      rw [← hK1] at c1
      have e3 : (2 : Int) * (i : Int) = (J : Int) := by omega
      have e4 : (J : Int) + 1 = (J1 : Int) := by omega
      have e5 : (m : Int) + (i : Int) = (K1 : Int) := by omega
      have hK8 : K1 < 8 := by omega
      have hi8 : i < 8 := by omega
      have hJn : J < n := by have := Hn.out; omega
      have hJ1n : J1 < n := by have := Hn.out; omega
      have wv : IntKind.i64.wrap (v + 1) = v + 1 := IntWalk.i64_in _ (by omega)
      obtain ⟨X, hX⟩ : ∃ X, X = (v + 1) / 2 := ⟨_, rfl⟩
      have eX : (v + 1) / 2 = X := hX.symm
      have wa : IntKind.i64.wrap (u + X) = u + X := IntWalk.i64_in _ (by omega)
      have wb : IntKind.i64.wrap (u + X - v) = u + X - v := IntWalk.i64_in _ (by omega)
      have d0 := (hY.cell (j := o + J) (by omega)).1
      have f0 := (hY.cell (j := o + J) (by omega)).2
      have d1 := (hY.cell (j := o + J1) (by omega)).1
      have f1 := (hY.cell (j := o + J1) (by omega)).2
      have hgl2 := hY.lt
      have hne : o + J ≠ o + J1 := by omega
      have y1 : unstepAt m (rowFrom xs o) (2 * i) = u + X := by rw [hs1, hX]; omega
      have y2 : unstepAt m (rowFrom xs o) (2 * i + 1) = u + X - v := by rw [hs2, hX]; omega
      have hin2 : ∀ j, j < 2 * (i + 1) → numAt ((ys.set (o + J) (u + X)).set (o + J1) (u + X - v)) (o + j) = unstepAt m (rowFrom xs o) j := by
        intro j hj
        rw [num_set (by simp; omega), num_set (by omega)]
        by_cases h1 : j = J1
        · rw [if_pos (by omega), h1, hJ1, y2]
        · rw [if_neg (by omega)]
          by_cases h2 : j = J
          · rw [if_pos (by omega), h2, hJ, y1]
          · rw [if_neg (by omega)]
            exact hin j (by omega)
      have hout2 : ∀ j, j < o ∨ o + 2 * (i + 1) ≤ j → numAt ((ys.set (o + J) (u + X)).set (o + J1) (u + X - v)) j = numAt xs j := by
        intro j hj
        rw [num_set (by simp; omega), num_set (by omega), if_neg (by omega), if_neg (by omega)]
        exact hout j (by omega)
      have HY := Lib.hid hY; have HF := Lib.hid hF; have Hin := Lib.hid hin2; have Hout := Lib.hid hout2; have Hyl := Lib.hid hyl
      clear hNr hY hF hin hout hin2 hout2 hyl hs1 hs2 hu hv hJ hJ1 hK1 hX y1 y2 ho
      go_upto_region 6 with fail
      go_quiet (fail)
      have HY2 := Lib.hid ((NumsAt.set (Own.drewN HY.out nq : NumsAt (wr.drewN nq) T g C ys) (o + J) (u + X)).set (o + J1) (u + X - v))
      have HF2 := Lib.hid (((HF.out.drewN nq).setCell (p := ⟨g, o + J, none⟩) (.inl (by simp)) (.int .i64 (u + X))).setCell (p := ⟨g, o + J1, none⟩) (.inl (by simp)) (.int .i64 (u + X - v)))
      go_wp2_with fail
      exact ⟨⟨i + 1, _, by omega, by simp, by simp [Hyl.out], HY2.out, HF2.out, Hin.out, Hout.out⟩, by simp [intOf]; omega⟩
    · have eg : decide (i < m) = false := by simpa using hlt
      have him : i = m := by omega
      subst him
      have hfin : ys = inlay xs o (tab n (unstepAt i (rowFrom xs o))) := inlay_tab_of (by have := Ho.out; have := Hn.out; omega) hyl (fun j hj => hin j (by have := Hn.out; omega)) (fun j hj => hout j (by have := Hn.out; omega))
      rw [hfin] at hY
      have HY := Lib.hid hY; have HF := Lib.hid hF
      clear hY hF hin hout hyl hfin hNr
      go_wp2_with fail
      go_end0
      exact ⟨rfl, HY.out, (Hf2.out.mono (S' := [g]) (by simp)).trans HF.out (by simp)⟩
end Go.Proofs.Ytednjpgibbnieaa

/-
  Contracts of the landed lift: steps, stepsBack. Conditions: rows of 2^k numbers, k at most 3; within 2^40, within 2^38.
-/
namespace Go.Proofs.Ytednjpgibbnieaa
open Go.RowKit

/-! A row on its way, in place. -/
structure Going (k o : Nat) (xs : List Int) (M : Int) (i : Nat) (ys : List Int) : Prop where
  len : ys.length = xs.length
  far : ∀ j, j < o ∨ o + 2 ^ k ≤ j → numAt ys j = numAt xs j
  here : ∀ x, x < 2 ^ k → rowAt k (rowFrom xs o) x = if x < 2 ^ i then rowAt i (rowFrom ys o) x else rowFrom ys o x
  bnd : ∀ j, j < 2 ^ i → -M ≤ rowFrom ys o j ∧ rowFrom ys o j ≤ M
theorem Going.start {k o : Nat} {xs : List Int} {M : Int} (hb : ∀ j, j < 2 ^ k → -M ≤ rowFrom xs o j ∧ rowFrom xs o j ≤ M) : Going k o xs M k xs :=
  ⟨rfl, fun _ _ => rfl, fun x hx => by rw [if_pos hx], hb⟩
theorem Going.next {k o : Nat} {xs ys : List Int} {M : Int} {i : Nat} (h : Going k o xs M (i + 1) ys) (hi : i + 1 ≤ k) (ho : o + 2 ^ k ≤ xs.length) :
    Going k o xs M i (inlay ys o (tab (2 * 2 ^ i) (stepAt (2 ^ i) (rowFrom ys o)))) := by
  have e : 2 ^ (i + 1) = 2 * 2 ^ i := by rw [Nat.pow_succ, Nat.mul_comm]
  have hik : 2 ^ (i + 1) ≤ 2 ^ k := Nat.pow_le_pow_right (by omega) hi
  have hl := h.len
  have hfit : o + 2 * 2 ^ i ≤ ys.length := by omega
  have hrow : ∀ x, x < 2 * 2 ^ i → rowFrom (inlay ys o (tab (2 * 2 ^ i) (stepAt (2 ^ i) (rowFrom ys o)))) o x = stepAt (2 ^ i) (rowFrom ys o) x := by
    intro x hx
    unfold rowFrom
    rw [inlay_tab hfit, if_pos (by omega), Nat.add_sub_cancel_left]
  have hrow2 : ∀ x, 2 * 2 ^ i ≤ x → rowFrom (inlay ys o (tab (2 * 2 ^ i) (stepAt (2 ^ i) (rowFrom ys o)))) o x = rowFrom ys o x := by
    intro x hx
    unfold rowFrom
    rw [inlay_tab hfit, if_neg (by omega)]
  refine ⟨by rw [inlay_tab_length hfit]; exact hl, fun j hj => ?_, fun x hx => ?_, fun j hj => ?_⟩
  · rw [inlay_tab hfit, if_neg (by omega)]
    exact h.far j hj
  · rw [h.here x hx]
    by_cases h1 : x < 2 ^ i
    · rw [if_pos (by omega), if_pos h1, rowAt_succ, if_pos h1]
      refine rowAt_congr i _ _ x h1 fun j hj => ?_
      rw [hrow j (by omega), stepAt_low hj]
    · rw [if_neg h1]
      by_cases h2 : x < 2 ^ (i + 1)
      · rw [if_pos h2, rowAt_succ, if_neg h1, hrow x (by omega)]
        unfold stepAt
        rw [if_neg h1]
      · rw [if_neg h2, hrow2 x (by omega)]
  · rw [hrow j (by omega), stepAt_low hj]
    have a := h.bnd (2 * j) (by omega)
    have b := h.bnd (2 * j + 1) (by omega)
    omega
theorem Going.fin {k o : Nat} {xs ys : List Int} {M : Int} (h : Going k o xs M 0 ys) (ho : o + 2 ^ k ≤ xs.length) : ys = inlay xs o (tab (2 ^ k) (rowAt k (rowFrom xs o))) := by
  refine inlay_tab_of ho h.len (fun j hj => ?_) h.far
  rw [h.here j hj]
  split
  · rfl
  · rfl

/-! And back. -/
structure Back (k o : Nat) (xs : List Int) (i : Nat) (ys : List Int) : Prop where
  len : ys.length = xs.length
  far : ∀ j, j < o ∨ o + 2 ^ k ≤ j → numAt ys j = numAt xs j
  here : ∀ x, x < 2 ^ k → rowFrom ys o x = if x < 2 ^ i then unrowAt i (rowFrom xs o) x else rowFrom xs o x
theorem Back.start (k o : Nat) (xs : List Int) : Back k o xs 0 xs := ⟨rfl, fun _ _ => rfl, fun x hx => by split <;> rfl⟩
theorem Back.next {k o : Nat} {xs ys : List Int} {i : Nat} (h : Back k o xs i ys) (hi : i + 1 ≤ k) (ho : o + 2 ^ k ≤ xs.length) :
    Back k o xs (i + 1) (inlay ys o (tab (2 * 2 ^ i) (unstepAt (2 ^ i) (rowFrom ys o)))) := by
  have e : 2 ^ (i + 1) = 2 * 2 ^ i := by rw [Nat.pow_succ, Nat.mul_comm]
  have hik : 2 ^ (i + 1) ≤ 2 ^ k := Nat.pow_le_pow_right (by omega) hi
  have hl := h.len
  have hfit : o + 2 * 2 ^ i ≤ ys.length := by omega
  refine ⟨by rw [inlay_tab_length hfit]; exact hl, fun j hj => ?_, fun x hx => ?_⟩
  · rw [inlay_tab hfit, if_neg (by omega)]
    exact h.far j hj
  · by_cases h1 : x < 2 ^ (i + 1)
    · rw [if_pos h1]
      have h2 := h.here (x / 2) (by omega)
      have h3 := h.here (2 ^ i + x / 2) (by omega)
      rw [if_pos (by omega)] at h2
      rw [if_neg (by omega)] at h3
      rw [show rowFrom (inlay ys o (tab (2 * 2 ^ i) (unstepAt (2 ^ i) (rowFrom ys o)))) o x = unstepAt (2 ^ i) (rowFrom ys o) x by unfold rowFrom; rw [inlay_tab hfit, if_pos (by omega), Nat.add_sub_cancel_left]]
      rw [unrowAt_succ]
      unfold unstepAt
      rw [h2, h3]
    · rw [if_neg h1]
      have h2 := h.here x hx
      rw [if_neg (by omega)] at h2
      rw [← h2]
      unfold rowFrom
      rw [inlay_tab hfit, if_neg (by omega)]
theorem Back.fin {k o : Nat} {xs ys : List Int} (h : Back k o xs k ys) (ho : o + 2 ^ k ≤ xs.length) : ys = inlay xs o (tab (2 ^ k) (unrowAt k (rowFrom xs o))) := by
  refine inlay_tab_of ho h.len (fun j hj => ?_) h.far
  have := h.here j hj
  rw [if_pos hj] at this
  exact this
theorem Back.bnd {k o : Nat} {xs ys : List Int} {i : Nat} (h : Back k o xs i ys) (hi : i + 1 ≤ k) (hk : k ≤ 3) (hb : ∀ j, j < 2 ^ k → -274877906944 ≤ rowFrom xs o j ∧ rowFrom xs o j ≤ 274877906944) :
    ∀ j, j < 2 * 2 ^ i → -4398046511104 ≤ rowFrom ys o j ∧ rowFrom ys o j ≤ 4398046511104 := by
  intro j hj
  have hik : 2 ^ (i + 1) ≤ 2 ^ k := Nat.pow_le_pow_right (by omega) hi
  have e : 2 ^ (i + 1) = 2 * 2 ^ i := by rw [Nat.pow_succ, Nat.mul_comm]
  rw [h.here j (by omega)]
  split
  · rename_i h1
    have h2 := unrowAt_le i (rowFrom xs o) 274877906944 j h1 (by omega) (fun t ht => hb t (by omega))
    have h3 : ((2 * i + 1 : Nat) : Int) * 274877906944 ≤ 7 * 274877906944 := by omega
    omega
  · have := hb j (by omega)
    omega

theorem enters_as {F : FuncId} {fn : Func} {c : Code} (hf : Try.prog.funcs[F]? = some fn) (hname : (fn.name == "runtime.NumGoroutine") = false) (hb : fn.body = some c) : ∀ (args : Array Value) (w : World), (callFunc F args).run Try.prog w = .ok (.enter F args) w := by
  intro args w
  have h1 : fn.name ≠ "runtime.NumGoroutine" := by simpa using hname
  simp [callFunc, hf, h1, hb, mark]
/-- What a function that changes a row in place does. -/
structure RowFn (F : FuncId) (k : Nat) (tr : (Nat → Int) → Nat → Int) (M : Int) : Prop where
  enters : ∀ (args : Array Value) (w : World), (callFunc F args).run Try.prog w = .ok (.enter F args) w
  run : ∀ (T : TypeId) (g C : Nat) (xs : List Int) (o c : Nat) (w : World), NumsAt w T g C xs → o + 2 ^ k ≤ xs.length → 2 ^ k ≤ c → (∀ j, j < 2 ^ k → -M ≤ rowFrom xs o j ∧ rowFrom xs o j ≤ M) →
    Calls Try.prog F #[.slice (some ⟨g, o, none⟩) (2 ^ k) c] w fun e w' => e = .returned (.tuple #[]) ∧ NumsAt w' T g C (inlay xs o (tab (2 ^ k) (tr (rowFrom xs o)))) ∧ Fr [g] w w'

set_option maxRecDepth 20000 in
set_option maxHeartbeats 4000000 in
theorem lsteps_any (k : Nat) (hk : k ≤ 3) : RowFn 23 k (rowAt k) 1099511627776 := by
  refine ⟨enters_as (F := 23) Try.func23 rfl rfl, ?_⟩
  intro T g C xs o c w hR ho hc hb
  have hG := Going.start hb
  obtain ⟨n, hn⟩ : ∃ n, n = 2 ^ k := ⟨_, rfl⟩
  rw [← hn]
  rw [← hn] at hc
  have HS := Lib.hid fun (Q : Nat) (ys : List Int) (W : World) => lstep_any T g C ys o Q c W
  obtain ⟨R, hRr⟩ : ∃ R, R = inlay xs o (tab n (rowAt k (rowFrom xs o))) := ⟨_, rfl⟩
  rw [← hRr]
  have HRr := Lib.hid hRr; have HR := Lib.hid hR; have HG := Lib.hid hG; have Ho := Lib.hid ho; have Hn := Lib.hid hn
  clear hR hG ho hn hRr hb
  go_enter Try.func23, Try.ntmps23
  go_wp2_with fail
  go_loopw [2] (fun s2 wr => ∃ (i P : Nat) (ys : List Int), i ≤ k ∧ P = 2 ^ i ∧ s2 = .int .i64 (P : Int) ∧ NumsAt wr T g C ys ∧ Fr [g] w wr ∧ Going k o xs 1099511627776 i ys) (fun s2 _ => (intOf s2).toNat)
  case atStart => exact ⟨k, n, xs, by omega, Hn.out, rfl, HR.out, Fr.refl _ _, HG.out⟩
  case round =>
    clear HR HG
    obtain ⟨i, P, ys, hi, hP, rfl, hY, hF, hG⟩ := hrel
    have HF := Lib.hid hF
    cases i with
    | zero =>
      have hP1 : P = 1 := by simpa using hP
      subst hP1
      have hfin := hG.fin Ho.out
      rw [← Hn.out, ← HRr.out] at hfin
      rw [hfin] at hY
      have HY := Lib.hid hY
      clear hY hF hG hfin hP
      go_wp2_with fail
      go_end0
      exact ⟨rfl, HY.out, HF.out⟩
    | succ i =>
      obtain ⟨Q, hQ⟩ : ∃ Q, Q = 2 ^ i := ⟨_, rfl⟩
      have hP2 : P = 2 * Q := by rw [hP, hQ, Nat.pow_succ, Nat.mul_comm]
      have hQ1 : 1 ≤ Q := by rw [hQ]; exact Nat.one_le_two_pow
      have hPn : P ≤ n := by rw [hP, Hn.out]; exact Nat.pow_le_pow_right (by omega) hi
      have hQ4 : Q ≤ 4 := by rw [hQ]; exact Nat.pow_le_pow_right (n := 2) (i := i) (j := 2) (by omega) (by omega)
      have hnx := hG.next hi Ho.out
      have hyl := hG.len
      have hst := HS.out Q ys wr hY (by have := Ho.out; have := Hn.out; omega) (by omega) hQ4 (fun j hj => hG.bnd j (by rw [← hP]; omega))
      rw [← hQ] at hnx
      rw [← hP2] at hst hnx
      have HSt := Lib.hid hst; have Hnx := Lib.hid hnx; have HQ := Lib.hid hQ
      have e1 : (P : Int) / 2 = (Q : Int) := by omega
      have e2 : P / 2 = Q := by omega
      have e3 : decide (2 ≤ (P : Int)) = true := by simp; omega
      have hPc : P ≤ c := by omega
      have hPQ : Q < P := by omega
      clear hY hF hG hyl hst hnx hQ hP hP2
      go_wp2_with fail
      refine HSt.out.mono ?_
      rintro e w2 ⟨rfl, hY2, hF2⟩
      have HY2 := Lib.hid hY2; have HF2 := Lib.hid (HF.out.trans hF2 (by simp))
      clear hY2 hF2
      go_wp2_with fail
      exact ⟨⟨i, Q, _, by omega, HQ.out, rfl, HY2.out, HF2.out, Hnx.out⟩, by simp [intOf]; omega⟩
end Go.Proofs.Ytednjpgibbnieaa

/-
  Contracts of the landed lift: stepsBack. Conditions: rows of 2^k numbers, k at most 3; within 2^38.
-/
namespace Go.Proofs.Ytednjpgibbnieaa
open Go.RowKit

set_option maxRecDepth 20000 in
set_option maxHeartbeats 4000000 in
theorem lstepsBack_any (k : Nat) (hk : k ≤ 3) : RowFn 29 k (unrowAt k) 274877906944 := by
  refine ⟨enters_as (F := 29) Try.func29 rfl rfl, ?_⟩
  intro T g C xs o c w hR ho hc hb
  have hG := Back.start k o xs
  have hbnd := fun i ys (h : Back k o xs i ys) (hi : i + 1 ≤ k) => h.bnd hi hk hb
  obtain ⟨n, hn⟩ : ∃ n, n = 2 ^ k := ⟨_, rfl⟩
  rw [← hn]
  rw [← hn] at hc
  have hn8 : n ≤ 8 := by rw [hn]; exact Nat.pow_le_pow_right (n := 2) (i := k) (j := 3) (by omega) (by omega)
  have HS := Lib.hid fun (Q : Nat) (ys : List Int) (W : World) => lstepBack_any T g C ys o Q c W
  obtain ⟨R, hRr⟩ : ∃ R, R = inlay xs o (tab n (unrowAt k (rowFrom xs o))) := ⟨_, rfl⟩
  rw [← hRr]
  have HRr := Lib.hid hRr; have HR := Lib.hid hR; have HG := Lib.hid hG; have Ho := Lib.hid ho; have Hn := Lib.hid hn; have Hbnd := Lib.hid hbnd
  clear hR hG ho hn hRr hb hbnd
  go_enter Try.func29, Try.ntmps29
  go_wp2_with fail
  go_loopw [2] (fun s2 wr => ∃ (i Q P : Nat) (ys : List Int), i ≤ k ∧ Q = 2 ^ i ∧ P = 2 * Q ∧ s2 = .int .i64 (P : Int) ∧ NumsAt wr T g C ys ∧ Fr [g] w wr ∧ Back k o xs i ys) (fun s2 _ => 2 * n + 1 - (intOf s2).toNat)
  case atStart => exact ⟨0, 1, 2, xs, by omega, rfl, rfl, rfl, HR.out, Fr.refl _ _, HG.out⟩
  case round =>
    clear HR HG
    obtain ⟨i, Q, P, ys, hi, hQ, hP, rfl, hY, hF, hG⟩ := hrel
    have HF := Lib.hid hF
    have hQ1 : 1 ≤ Q := by rw [hQ]; exact Nat.one_le_two_pow
    by_cases hik : i = k
    · subst hik
      have hQn : Q = n := by rw [hQ, Hn.out]
      have hfin := hG.fin Ho.out
      rw [← Hn.out, ← HRr.out] at hfin
      rw [hfin] at hY
      have HY := Lib.hid hY
      have e3 : decide (P ≤ n) = false := by simp; omega
      clear hY hF hG hfin hP hQ hQn
      go_wp2_with fail
      go_end0
      exact ⟨rfl, HY.out, HF.out⟩
    · have hi1 : i + 1 ≤ k := by omega
      have hP2 : 2 ^ (i + 1) = P := by rw [hP, hQ, Nat.pow_succ, Nat.mul_comm]
      have hPn : P ≤ n := by rw [← hP2, Hn.out]; exact Nat.pow_le_pow_right (by omega) hi1
      have hQ4 : Q ≤ 4 := by rw [hQ]; exact Nat.pow_le_pow_right (n := 2) (i := i) (j := 2) (by omega) (by omega)
      have hnx := hG.next hi1 Ho.out
      have hyl := hG.len
      have hst := HS.out Q ys wr hY (by have := Ho.out; have := Hn.out; omega) (by omega) hQ4 (fun j hj => Hbnd.out i ys hG hi1 j (by rw [← hQ]; omega))
      rw [← hQ] at hnx
      rw [← hP] at hst hnx
      have HSt := Lib.hid hst; have Hnx := Lib.hid hnx; have HP2 := Lib.hid hP2.symm
      obtain ⟨P4, hP4⟩ : ∃ P4, P4 = 2 * P := ⟨_, rfl⟩
      have e1 : (P : Int) * 2 = (P4 : Int) := by omega
      have e3 : decide (P ≤ n) = true := by simpa using hPn
      have hPc : P ≤ c := by omega
      have hP1 : 1 ≤ P := by omega
      have HP4 := Lib.hid hP4
      clear hY hF hG hyl hst hnx hQ hP hP2 hP4
      go_wp2_with fail
      refine HSt.out.mono ?_
      rintro e w2 ⟨rfl, hY2, hF2⟩
      have HY2 := Lib.hid hY2; have HF2 := Lib.hid (HF.out.trans hF2 (by simp))
      clear hY2 hF2
      go_wp2_with fail
      exact ⟨⟨i + 1, P, P4, _, by omega, HP2.out, HP4.out, rfl, HY2.out, HF2.out, Hnx.out⟩, by
        show 2 * n + 1 - ((P4 : Int)).toNat < 2 * n + 1 - ((P : Int)).toNat
        have := HP4.out
        omega⟩
end Go.Proofs.Ytednjpgibbnieaa

/-
  Contracts of the landed lift: eachRow. Conditions: a block of 2^k by 2^k numbers, k at most 3, within what the row's function may have.
-/
namespace Go.Proofs.Ytednjpgibbnieaa
open Go.RowKit

set_option maxRecDepth 20000 in
set_option maxHeartbeats 4000000 in
theorem leachRow_any (F : FuncId) (k : Nat) (tr : (Nat → Int) → Nat → Int) (M : Int) (hfn : RowFn F k tr M) (g C : Nat) (xs : List Int) (w : World) (hk : k ≤ 3) (hk1 : 1 ≤ k) (hsd : sideN (2 ^ k * 2 ^ k) = 2 ^ k) (hl : xs.length = 2 ^ k * 2 ^ k) (hR : NumsAt w 3 g C xs)
    (hb : ∀ i, i < 2 ^ k * 2 ^ k → -M ≤ numAt xs i ∧ numAt xs i ≤ M) :
    Calls Try.prog 22 #[.slice (some ⟨g, 0, none⟩) xs.length C, .func (.func F) #[] #[]] w fun e w' => e = .returned (.tuple #[]) ∧ Fr [g] w w' ∧
      ∃ ys, NumsAt w' 3 g C ys ∧ ys.length = xs.length ∧ ∀ x y, x < 2 ^ k → y < 2 ^ k → numAt ys (y * 2 ^ k + x) = tr (rowFrom xs (y * 2 ^ k)) x := by
  have HSd := Lib.hid fun W => lside_any (some ⟨g, 0, none⟩) xs.length C W (by rw [hl]; have := Nat.pow_le_pow_right (n := 2) (by omega) hk; have := Nat.mul_le_mul this this; omega)
  rw [hl, hsd] at HSd
  rw [hl]
  have hC := hR.cap
  rw [hl] at hC
  have hn8 : 2 ^ k ≤ 8 := Nat.pow_le_pow_right (n := 2) (i := k) (j := 3) (by omega) (by omega)
  have HFn := Lib.hid hfn.run
  have hE := hfn.enters
  obtain ⟨n, hn⟩ : ∃ n, n = 2 ^ k := ⟨_, rfl⟩
  rw [← hn] at HSd HFn hl hb hC hn8 ⊢
  obtain ⟨N, hN⟩ : ∃ N, N = n * n := ⟨_, rfl⟩
  rw [← hN] at HSd hl hb hC ⊢
  have hN64 : N ≤ 64 := by rw [hN]; exact Nat.mul_le_mul hn8 hn8
  have hn1 : 1 ≤ n := by rw [hn]; exact Nat.one_le_two_pow
  have HR := Lib.hid hR; have Hl := Lib.hid hl; have Hb := Lib.hid hb; have HN := Lib.hid hN
  clear hR hl hb hn hN hsd hfn
  go_enter Try.func22, Try.ntmps22
  go_wp2_with fail
  refine (HSd.out _).mono ?_
  rintro e w1 ⟨rfl, rfl⟩
  go_wp2_with fail
  go_loopw [9] (fun s9 wr => ∃ (y : Nat) (ys : List Int), y ≤ n ∧ s9 = .int .i64 (y : Int) ∧ NumsAt wr 3 g C ys ∧ Fr [g] w1 wr ∧ ys.length = xs.length ∧ (∀ x y', x < n → y' < y → numAt ys (y' * n + x) = tr (rowFrom xs (y' * n)) x) ∧ ∀ j, y * n ≤ j → numAt ys j = numAt xs j) (fun s9 _ => n - (intOf s9).toNat)
  case atStart => exact ⟨0, xs, by omega, rfl, HR.out, Fr.refl _ _, rfl, by omega, fun _ _ => rfl⟩
  case round =>
    clear HR HSd
    obtain ⟨y, ys, hy, rfl, hY, hF, hyl, hin, hout⟩ := hrel
    have HF := Lib.hid hF
    by_cases hlt : y < n
    · have eg : decide (y < n) = true := by simpa using hlt
      obtain ⟨o, ho⟩ : ∃ o, o = y * n := ⟨_, rfl⟩
      obtain ⟨o1, ho1⟩ : ∃ o1, o1 = (y + 1) * n := ⟨_, rfl⟩
      have ho2 : o1 = o + n := by rw [ho1, ho, Nat.add_mul, Nat.one_mul]
      have hoN : o + n ≤ N := by
        rw [← ho2, ho1, HN.out]
        exact Nat.mul_le_mul_right _ hlt
      have hrow : rowFrom ys o = rowFrom xs o := by
        funext j
        unfold rowFrom
        exact hout _ (by omega)
      have hfn := HFn.out 3 g C ys o (C - o) wr hY (by have := Hl.out; omega) (by omega) (fun j hj => by
        rw [hrow]
        exact Hb.out (o + j) (by omega))
      rw [hrow] at hfn
      have HFnr := Lib.hid hfn
      have e1 : (y : Int) * (n : Int) = (o : Int) := by rw [ho]; simp
      have e2 : ((y : Int) + 1) * (n : Int) = (o1 : Int) := by rw [ho1]; simp
      have e3 : o1 - o = n := by omega
      have hoC : o < C := by omega
      have ho1C : o1 ≤ C := by omega
      have hoo1 : o ≤ o1 := by omega
      have hNo : ¬ C = o := by omega
      have hin2 : ∀ x y', x < n → y' < y + 1 → numAt (inlay ys o (tab n (tr (rowFrom xs o)))) (y' * n + x) = tr (rowFrom xs (y' * n)) x := by
        intro x y' hx hy'
        rw [inlay_tab (by have := Hl.out; omega)]
        by_cases hyy : y' = y
        · subst hyy
          rw [if_pos (by omega), ho, Nat.add_sub_cancel_left]
        · have h3 : (y' + 1) * n ≤ y * n := Nat.mul_le_mul_right _ (by omega)
          rw [Nat.add_mul, Nat.one_mul] at h3
          rw [if_neg (by omega)]
          exact hin x y' hx (by omega)
      have hout2 : ∀ j, (y + 1) * n ≤ j → numAt (inlay ys o (tab n (tr (rowFrom xs o)))) j = numAt xs j := by
        intro j hj
        rw [inlay_tab (by have := Hl.out; omega), if_neg (by omega)]
        exact hout j (by omega)
      have hlen2 : (inlay ys o (tab n (tr (rowFrom xs o)))).length = xs.length := by rw [inlay_tab_length (by have := Hl.out; omega)]; exact hyl
      have Hin := Lib.hid hin2; have Hout := Lib.hid hout2; have Hlen := Lib.hid hlen2
      clear hY hF hyl hin hout hfn hin2 hout2 hlen2 hrow ho ho1 ho2
      go_wp2_with fail
      refine HFnr.out.mono ?_
      rintro e w2 ⟨rfl, hY2, hF2⟩
      have HY2 := Lib.hid hY2; have HF2 := Lib.hid (HF.out.trans hF2 (by simp))
      clear hY2 hF2
      go_wp2_with fail
      exact ⟨⟨y + 1, _, by omega, by simp, HY2.out, HF2.out, Hlen.out, Hin.out, Hout.out⟩, by simp [intOf]; omega⟩
    · have eg : decide (y < n) = false := by simpa using hlt
      have hyn : y = n := by omega
      subst hyn
      have HY := Lib.hid hY; have Hin := Lib.hid hin; have Hyl := Lib.hid hyl
      clear hY hF hin hout hyl
      go_wp2_with fail
      go_end0
      exact ⟨rfl, HF.out, ys, HY.out, Hyl.out.trans Hl.out, Hin.out⟩
end Go.Proofs.Ytednjpgibbnieaa

/-
  Contracts of the landed lift: eachColumn. Conditions: a block of 2^k by 2^k numbers, k at most 3, within what the row's function may have.
-/
namespace Go.Proofs.Ytednjpgibbnieaa
open Go.RowKit

theorem cell_inj {n x y x' y' : Nat} (hx : x < n) (hx' : x' < n) (h : y * n + x = y' * n + x') : y = y' ∧ x = x' := by
  obtain ⟨a1, a2⟩ := divmod (y := y) hx
  obtain ⟨b1, b2⟩ := divmod (y := y') hx'
  rw [h] at a1 a2
  omega
def colOf (xs : List Int) (n x : Nat) : Nat → Int := fun j => numAt xs (j * n + x)

/-- The first columns are changed. -/
structure ColsTo (n : Nat) (tr : (Nat → Int) → Nat → Int) (xs : List Int) (x : Nat) (ys : List Int) : Prop where
  len : ys.length = xs.length
  done : ∀ x' y', x' < x → x' < n → y' < n → numAt ys (y' * n + x') = tr (colOf xs n x') y'
  left : ∀ x' y', x ≤ x' → x' < n → y' < n → numAt ys (y' * n + x') = numAt xs (y' * n + x')
theorem ColsTo.start (n : Nat) (tr : (Nat → Int) → Nat → Int) (xs : List Int) : ColsTo n tr xs 0 xs := ⟨rfl, by omega, fun _ _ _ _ _ => rfl⟩
/-- One column is being laid. -/
structure ColIn (n x : Nat) (r : Nat → Int) (ys : List Int) (y : Nat) (zs : List Int) : Prop where
  len : zs.length = ys.length
  here : ∀ y', y' < n → numAt zs (y' * n + x) = if y' < y then r y' else numAt ys (y' * n + x)
  far : ∀ x' y', x' < n → y' < n → x' ≠ x → numAt zs (y' * n + x') = numAt ys (y' * n + x')
theorem ColIn.start (n x : Nat) (r : Nat → Int) (ys : List Int) : ColIn n x r ys 0 ys := ⟨rfl, fun _ _ => by rw [if_neg (by omega)], fun _ _ _ _ _ => rfl⟩
theorem ColIn.next {n x : Nat} {r : Nat → Int} {ys zs : List Int} {y : Nat} (h : ColIn n x r ys y zs) (hx : x < n) (hy : y < n) (hl : ys.length = n * n) : ColIn n x r ys (y + 1) (zs.set (y * n + x) (r y)) := by
  have hlt : y * n + x < zs.length := by rw [h.len, hl]; exact cell_of hx hy
  refine ⟨by simp [h.len], fun y' hy' => ?_, fun x' y' hx' hy' hne => ?_⟩
  · rw [num_set hlt]
    by_cases hyy : y' = y
    · subst hyy
      rw [if_pos rfl, if_pos (by omega)]
    · rw [if_neg (fun e => hyy (cell_inj hx hx e).1), h.here y' hy']
      by_cases h2 : y' < y
      · rw [if_pos h2, if_pos (by omega)]
      · rw [if_neg h2, if_neg (by omega)]
  · rw [num_set hlt, if_neg (fun e => hne (cell_inj hx' hx e).2)]
    exact h.far x' y' hx' hy' hne
theorem ColIn.fin {n x : Nat} {tr : (Nat → Int) → Nat → Int} {xs ys zs : List Int} {r : Nat → Int} (h : ColIn n x r ys n zs) (hc : ColsTo n tr xs x ys) (hr : ∀ y, y < n → r y = tr (colOf xs n x) y) : ColsTo n tr xs (x + 1) zs := by
  refine ⟨h.len.trans hc.len, fun x' y' hx' hx'n hy' => ?_, fun x' y' hx' hx'n hy' => ?_⟩
  · by_cases hxx : x' = x
    · subst hxx
      rw [h.here y' hy', if_pos hy', hr y' hy']
    · rw [h.far x' y' hx'n hy' hxx]
      exact hc.done x' y' (by omega) hx'n hy'
  · rw [h.far x' y' hx'n hy' (by omega)]
    exact hc.left x' y' (by omega) hx'n hy'

set_option maxRecDepth 20000 in
set_option maxHeartbeats 8000000 in
theorem leachColumn_any (F : FuncId) (k : Nat) (tr : (Nat → Int) → Nat → Int) (M : Int) (hfn : RowFn F k tr M) (hcong : ∀ r s x, x < 2 ^ k → (∀ j, j < 2 ^ k → r j = s j) → tr r x = tr s x) (g C : Nat) (xs : List Int) (w : World) (hk : k ≤ 3) (hk1 : 1 ≤ k) (hsd : sideN (2 ^ k * 2 ^ k) = 2 ^ k) (hl : xs.length = 2 ^ k * 2 ^ k) (hR : NumsAt w 3 g C xs)
    (hb : ∀ i, i < 2 ^ k * 2 ^ k → -M ≤ numAt xs i ∧ numAt xs i ≤ M) :
    Calls Try.prog 24 #[.slice (some ⟨g, 0, none⟩) xs.length C, .func (.func F) #[] #[]] w fun e w' => e = .returned (.tuple #[]) ∧ Fr [g] w w' ∧
      ∃ ys, NumsAt w' 3 g C ys ∧ ys.length = xs.length ∧ ∀ x y, x < 2 ^ k → y < 2 ^ k → numAt ys (y * 2 ^ k + x) = tr (colOf xs (2 ^ k) x) y := by
  have HSd := Lib.hid fun W => lside_any (some ⟨g, 0, none⟩) xs.length C W (by rw [hl]; have := Nat.pow_le_pow_right (n := 2) (by omega) hk; have := Nat.mul_le_mul this this; omega)
  rw [hl, hsd] at HSd
  rw [hl]
  have hC := hR.cap
  rw [hl] at hC
  have hn8 : 2 ^ k ≤ 8 := Nat.pow_le_pow_right (n := 2) (i := k) (j := 3) (by omega) (by omega)
  have HFn := Lib.hid hfn.run
  have hE := hfn.enters
  have Hcong := Lib.hid hcong
  obtain ⟨n, hn⟩ : ∃ n, n = 2 ^ k := ⟨_, rfl⟩
  rw [← hn] at HSd HFn Hcong hl hb hC hn8 ⊢
  obtain ⟨N, hN⟩ : ∃ N, N = n * n := ⟨_, rfl⟩
  rw [← hN] at HSd hl hb hC ⊢
  have hN64 : N ≤ 64 := by rw [hN]; exact Nat.mul_le_mul hn8 hn8
  have hn1 : 1 ≤ n := by rw [hn]; exact Nat.one_le_two_pow
  have hA := NumsAt.lit w 42 zero8 8 zero8_length (by simp [maxLen])
  have hfA : Fr [] w (w.alloc (.cells (zero8.map I64).toArray 42)) := (Fr.refl _ _).alloc _
  have hR1 := hR.fr hfA (by simp)
  have hgl := hR.lt
  rw [zero8_cells] at hA hfA hR1
  have HR := Lib.hid hR1; have HA := Lib.hid hA; have HfA := Lib.hid hfA
  have Hl := Lib.hid hl; have Hb := Lib.hid hb; have HN := Lib.hid hN
  clear hR hR1 hA hfA hl hb hn hN hsd hfn hcong
  go_enter Try.func24, Try.ntmps24
  go_wp2_with fail
  refine (HSd.out _).mono ?_
  rintro e w1 ⟨rfl, rfl⟩
  go_wp2_with fail
  obtain ⟨q, hq⟩ : ∃ q, q = w1.heap.size := ⟨_, rfl⟩
  rw [← hq] at HA hgl ⊢
  obtain ⟨w2, hw2⟩ : ∃ w2, w2 = w1.alloc (.cells #[.int .i64 0, .int .i64 0, .int .i64 0, .int .i64 0, .int .i64 0, .int .i64 0, .int .i64 0, .int .i64 0] 42) := ⟨_, rfl⟩
  rw [← hw2] at HR HA HfA ⊢
  have Hq := Lib.hid hq
  clear hw2 hq HSd
  have hgq : g ≠ q := by omega
  have hqg : q ≠ g := by omega
  go_loopw [12] (fun s12 wr => ∃ (x : Nat) (ys cs : List Int), x ≤ n ∧ s12 = .int .i64 (x : Int) ∧ NumsAt wr 3 g C ys ∧ NumsAt wr 42 q 8 cs ∧ cs.length = 8 ∧ Fr [g, q] w2 wr ∧ ColsTo n tr xs x ys) (fun s12 _ => n - (intOf s12).toNat)
  case atStart => exact ⟨0, xs, zero8, by omega, rfl, HR.out, HA.out, zero8_length, Fr.refl _ _, ColsTo.start n tr xs⟩
  case round =>
    clear HR HA
    obtain ⟨x, ys, cs, hx, rfl, hY, hCs, hcl, hF, hTo⟩ := hrel
    by_cases hlt : x < n
    · have eg : decide (x < n) = true := by simpa using hlt
      have HY := Lib.hid hY; have HCs := Lib.hid hCs; have Hcl := Lib.hid hcl; have HF := Lib.hid hF; have HTo := Lib.hid hTo
      have Hyl := Lib.hid (hTo.len.trans Hl.out)
      clear hY hCs hcl hF hTo
      go_wp2_with fail
      go_loopw [16] (fun s16 wr' => ∃ (y : Nat) (cs' : List Int), y ≤ n ∧ s16 = .int .i64 (y : Int) ∧ NumsAt wr' 42 q 8 cs' ∧ cs'.length = 8 ∧ Fr [q] wr wr' ∧ ∀ j, j < y → numAt cs' j = numAt ys (j * n + x)) (fun s16 _ => n - (intOf s16).toNat)
      case atStart => exact ⟨0, cs, by omega, rfl, HCs.out, Hcl.out, Fr.refl _ _, by omega⟩
      case round =>
        clear HCs Hcl
        obtain ⟨y, cs2, hy, rfl, hCs, hcl, hF1, hin⟩ := hrel
        by_cases hlt2 : y < n
        · have eg2 : decide (y < n) = true := by simpa using hlt2
          obtain ⟨YN, hYN⟩ : ∃ YN, YN = y * n := ⟨_, rfl⟩
          obtain ⟨K1, hK⟩ : ∃ K1, K1 = YN + x := ⟨_, rfl⟩
          have hKN : K1 < N := by rw [hK, hYN, HN.out]; exact cell_of hlt hlt2
          have hYN64 : YN ≤ 64 := by omega
          have eYN : (y : Int) * (n : Int) = (YN : Int) := by rw [hYN]; simp
          have eK : (YN : Int) + (x : Int) = (K1 : Int) := by omega
          have hYr := HY.out.fr hF1 (by simp; exact hgq)
          have c0 := (hYr.cell (j := K1) (by have := Hyl.out; omega)).1
          have d0 := (hCs.cell (j := y) (by omega)).1
          have f0 := (hCs.cell (j := y) (by omega)).2
          have hql := hCs.lt
          obtain ⟨v, hv⟩ : ∃ v, v = numAt ys K1 := ⟨_, rfl⟩
          rw [← hv] at c0
          have hin2 : ∀ j, j < y + 1 → numAt (cs2.set y v) j = numAt ys (j * n + x) := by
            intro j hj
            rw [num_set (by omega)]
            by_cases hjy : j = y
            · subst hjy
              rw [if_pos rfl, hv, hK, hYN]
            · rw [if_neg hjy]
              exact hin j (by omega)
          have HCs := Lib.hid (hCs.set y v); have Hcl := Lib.hid hcl; have HF1 := Lib.hid (hF1.setCell (p := ⟨q, y, none⟩) (.inl (by simp)) (.int .i64 v)); have Hin := Lib.hid hin2
          have hy8 : y < 8 := by omega
          have hKC : K1 < C := by omega
          clear hCs hcl hF1 hin hin2 hYN hK hYr hv
          go_wp2_with fail
          exact ⟨⟨y + 1, _, by omega, by simp, HCs.out, by simp [Hcl.out], HF1.out, Hin.out⟩, by simp [intOf]; omega⟩
        · have eg2 : decide (y < n) = false := by simpa using hlt2
          have hyn : y = n := by omega
          subst hyn
          have hcol : ∀ j, j < y → rowFrom cs2 0 j = colOf xs y x j := by
            intro j hj
            unfold rowFrom colOf
            rw [Nat.zero_add, hin j hj]
            exact HTo.out.left x j (by omega) hlt hj
          have hfn := HFn.out 42 q 8 cs2 0 8 _ hCs (by omega) (by omega) (fun j hj => by
            rw [hcol j hj]
            exact Hb.out _ (by rw [HN.out]; exact cell_of hlt hj))
          have hres : ∀ j, j < y → numAt (inlay cs2 0 (tab y (tr (rowFrom cs2 0)))) j = tr (colOf xs y x) j := by
            intro j hj
            rw [inlay_tab (by omega), if_pos (by omega), Nat.sub_zero]
            exact Hcong.out _ _ j hj hcol
          have hlen2 : (inlay cs2 0 (tab y (tr (rowFrom cs2 0)))).length = 8 := by rw [inlay_tab_length (by omega)]; exact hcl
          have hsl := fun W => slice_arr8 W q y hn8
          obtain ⟨ds, hds⟩ : ∃ ds, ds = inlay cs2 0 (tab y (tr (rowFrom cs2 0))) := ⟨_, rfl⟩
          rw [← hds] at hfn hres hlen2
          have HFnr := Lib.hid hfn; have Hres := Lib.hid hres; have Hdl := Lib.hid hlen2; have HF1 := Lib.hid hF1
          clear hfn hres hlen2 hCs hcl hF1 hin hcol hds
          go_wp2_with fail
          refine HFnr.out.mono ?_
          rintro e w4 ⟨rfl, hD, hF2⟩
          have hF3 := HF1.out.trans hF2 (by simp)
          have hY4 := HY.out.fr hF3 (by simp; exact hgq)
          have HD := Lib.hid hD; have HF3 := Lib.hid hF3; have HY4 := Lib.hid hY4
          clear hD hF2 hF3 hY4 HF1 HFnr
          go_wp2_with fail
          go_loopw [35] (fun s35 wr' => ∃ (z : Nat) (zs : List Int), z ≤ y ∧ s35 = .int .i64 (z : Int) ∧ NumsAt wr' 3 g C zs ∧ Fr [g] w4 wr' ∧ ColIn y x (fun j => numAt ds j) ys z zs) (fun s35 _ => y - (intOf s35).toNat)
          case atStart => exact ⟨0, ys, by omega, rfl, HY4.out, Fr.refl _ _, ColIn.start _ _ _ _⟩
          case round =>
            clear HY4
            obtain ⟨z, zs, hz, rfl, hZ, hF4, hCI⟩ := hrel
            have hDr := HD.out.fr hF4 (by simp; exact hqg)
            have hzl := hCI.len
            by_cases hlt3 : z < y
            · have eg3 : decide (z < y) = true := by simpa using hlt3
              obtain ⟨YN, hYN⟩ : ∃ YN, YN = z * y := ⟨_, rfl⟩
              obtain ⟨K1, hK⟩ : ∃ K1, K1 = YN + x := ⟨_, rfl⟩
              have hKN : K1 < N := by rw [hK, hYN, HN.out]; exact cell_of hlt hlt3
              have hYN64 : YN ≤ 64 := by omega
              have eYN : (z : Int) * (y : Int) = (YN : Int) := by rw [hYN]; simp
              have eK : (YN : Int) + (x : Int) = (K1 : Int) := by omega
              have c0 := (hDr.cell (j := z) (by have := Hdl.out; omega)).1
              have d0 := (hZ.cell (j := K1) (by have := Hyl.out; omega)).1
              have f0 := (hZ.cell (j := K1) (by have := Hyl.out; omega)).2
              have hgl2 := hZ.lt
              have hnx := hCI.next hlt hlt3 (by rw [Hyl.out, HN.out])
              obtain ⟨v, hv⟩ : ∃ v, v = numAt ds z := ⟨_, rfl⟩
              rw [← hv] at c0 hnx
              rw [← hYN, ← hK] at hnx
              have HZ := Lib.hid (hZ.set K1 v); have HF4 := Lib.hid (hF4.setCell (p := ⟨g, K1, none⟩) (.inl (by simp)) (.int .i64 v)); have Hnx := Lib.hid hnx
              have hz8 : z < 8 := by omega
              have hKC : K1 < C := by omega
              clear hZ hF4 hCI hnx hYN hK hDr hv hzl
              go_wp2_with fail
              exact ⟨⟨z + 1, _, by omega, by simp, HZ.out, HF4.out, Hnx.out⟩, by simp [intOf]; omega⟩
            · have eg3 : decide (z < y) = false := by simpa using hlt3
              have hzy : z = y := by omega
              subst hzy
              have hto := hCI.fin HTo.out Hres.out
              have hF5 : Fr [g, q] w2 _ := HF.out.trans ((HF3.out.mono (S' := [g, q]) (by simp)).trans hF4 (by simp)) (by simp)
              have HZ := Lib.hid hZ; have Hto := Lib.hid hto; have HF5 := Lib.hid hF5; have HDr := Lib.hid hDr
              clear hZ hF4 hCI hto hF5 hDr hzl
              go_wp2_with fail
              exact ⟨⟨x + 1, _, ds, by omega, by simp, HZ.out, HDr.out, Hdl.out, HF5.out, Hto.out⟩, by simp [intOf]; omega⟩
    · have eg : decide (x < n) = false := by simpa using hlt
      have hxn : x = n := by omega
      subst hxn
      have HY := Lib.hid hY; have HTo := Lib.hid hTo
      have hf : Fr [g] w1 _ := (HfA.out.mono (S' := [g]) (by simp)).trans hF (by
        intro z hz
        simp at hz
        rcases hz with rfl | rfl
        · exact .inl (by simp)
        · exact .inr (by rw [Hq.out]; exact Nat.le_refl _))
      have Hf := Lib.hid hf
      clear hY hCs hcl hF hTo hf
      go_wp2_with fail
      go_end0
      exact ⟨rfl, Hf.out, ys, HY.out, HTo.out.len.trans Hl.out, fun x' y' hx' hy' => HTo.out.done x' y' hx' hx' hy'⟩
end Go.Proofs.Ytednjpgibbnieaa

/-
  Contracts of the landed lift: Forward. Conditions: rows of bounded length.
-/
namespace Go.Proofs.Ytednjpgibbnieaa
open Go.RowKit

theorem isBlk_no {b : List Int} {m : Int} (h : isBlk b m = false) : sideK b.length = 0 ∨ withinB b m = false := by
  unfold isBlk at h
  by_cases h0 : sideN b.length = 0
  · exact .inl (side_zero h0)
  · have : (sideN b.length == 0) = false := by simpa using h0
    rw [this] at h
    exact .inr (by simpa using h)
theorem isBlk_yes {b : List Int} {m : Int} (h : isBlk b m = true) : sideN b.length ≠ 0 ∧ withinB b m = true := by
  unfold isBlk at h
  simp at h
  exact h
/-- A block is what its places hold. -/
theorem blk_of {k : Nat} {zs : List Int} {f : Nat → Nat → Int} (hl : zs.length = 2 ^ k * 2 ^ k) (h : ∀ x y, x < 2 ^ k → y < 2 ^ k → numAt zs (y * 2 ^ k + x) = f x y) : zs = blkL k f := by
  apply num_ext
  · rw [hl, blkL_length]
  · intro i hi
    rw [hl] at hi
    obtain ⟨hx, hy, he⟩ := by_cell hi
    rw [blkL_get k _ hi, ← h _ _ hx hy, he]
theorem bnd_of {k : Nat} {zs : List Int} {M : Int} (h : ∀ x y, x < 2 ^ k → y < 2 ^ k → -M ≤ numAt zs (y * 2 ^ k + x) ∧ numAt zs (y * 2 ^ k + x) ≤ M) : ∀ i, i < 2 ^ k * 2 ^ k → -M ≤ numAt zs i ∧ numAt zs i ≤ M := by
  intro i hi
  obtain ⟨hx, hy, he⟩ := by_cell hi
  have := h _ _ hx hy
  rw [he] at this
  exact this

set_option maxRecDepth 20000 in
set_option maxHeartbeats 4000000 in
theorem lforward_any (A : Option Addr) (c : Nat) (b : List Int) (w : World) (hs : Src w (.slice A b.length c) (b.map I64)) (hb : b.length ≤ 1000) :
    Calls Try.prog 8 #[.slice A b.length c] w (NumErr w (liftF b)) := by
  have HWi := Lib.hid (lwithin_any 1048576 w)
  have HBl := Lib.hid fun g W (hg : Blk W g 3 #[.int .i64 1048576]) (hf : Fr [] w W) => lblock_any A c b g 1048576 W (hs.fr0 hf) (by omega) hg (by omega) (by omega)
  have HCl := Lib.hid fun W (hf : Fr [] w W) => lclone_any A c b W (hs.fr0 hf) (by omega)
  obtain ⟨R, hR⟩ : ∃ R, R = NumErr w (liftF b) := ⟨_, rfl⟩
  rw [← hR]
  have HR := Lib.hid hR
  cases hw : isBlk b 1048576
  · have hno := isBlk_no hw
    have hres : liftF b = ([], 1) := by unfold liftF; rw [if_pos hno]
    have Hres := Lib.hid hres
    rw [hw] at HBl
    obtain ⟨n, hn⟩ : ∃ n, n = b.length := ⟨_, rfl⟩
    rw [← hn] at HBl ⊢
    clear hs hb hR hn hw hno hres HCl
    go_enter Try.func8, Try.ntmps8
    go_wp2_with fail
    refine HWi.out.mono ?_
    rintro e w1 ⟨q, rfl, hB1, hf1⟩
    have HB1 := Lib.hid hB1; have Hf1 := Lib.hid hf1
    clear hB1 hf1
    go_wp2_with fail
    refine (HBl.out q w1 HB1.out Hf1.out).mono ?_
    rintro e w2 ⟨rfl, rfl⟩
    go_wp2_with fail
    rw [HR.out]
    exact NumErr.none Hres.out Hf1.out
  · obtain ⟨h0, hwi⟩ := isBlk_yes hw
    obtain ⟨k, hk, hP, hl, hk1, hk3⟩ := side_pow h0
    have hres : liftF b = (blkL k (fwdAt k (numAt b)), 0) := by
      unfold liftF
      rw [if_neg, ← hk]
      rintro (h | h)
      · omega
      · rw [hwi] at h; cases h
    have hB0 := within_bnd hwi
    have hsd : sideN (2 ^ k * 2 ^ k) = 2 ^ k := by rw [← hl]; exact hP
    have C1 := fun g C W (hN : NumsAt W 3 g C b) => leachRow_any 23 k (rowAt k) 1099511627776 (lsteps_any k hk3) g C b W hk3 hk1 hsd hl hN (fun i hi => by have := hB0 i (by omega); omega)
    have hmid : ∀ ys : List Int, (∀ x y, x < 2 ^ k → y < 2 ^ k → numAt ys (y * 2 ^ k + x) = rowAt k (rowFrom b (y * 2 ^ k)) x) → ∀ i, i < 2 ^ k * 2 ^ k → -1099511627776 ≤ numAt ys i ∧ numAt ys i ≤ 1099511627776 := by
      intro ys h
      refine bnd_of fun x y hx hy => ?_
      rw [h x y hx hy]
      have := (rowAt_le k (rowFrom b (y * 2 ^ k)) 1048576 x hx fun j hj => hB0 _ (by rw [hl]; exact cell_of hj hy)).1
      omega
    have C2 := fun g C W (ys : List Int) (hN : NumsAt W 3 g C ys) (hyl : ys.length = b.length) (h : ∀ x y, x < 2 ^ k → y < 2 ^ k → numAt ys (y * 2 ^ k + x) = rowAt k (rowFrom b (y * 2 ^ k)) x) => leachColumn_any 23 k (rowAt k) 1099511627776 (lsteps_any k hk3) (fun r s x => rowAt_congr k r s x) g C ys W hk3 hk1 hsd (hyl.trans hl) hN (hmid ys h)
    have hend : ∀ ys zs : List Int, zs.length = b.length → (∀ x y, x < 2 ^ k → y < 2 ^ k → numAt ys (y * 2 ^ k + x) = rowAt k (rowFrom b (y * 2 ^ k)) x) → (∀ x y, x < 2 ^ k → y < 2 ^ k → numAt zs (y * 2 ^ k + x) = rowAt k (colOf ys (2 ^ k) x) y) → (zs, (0 : Int)) = liftF b := by
      intro ys zs hzl h1 h2
      rw [hres]
      congr 1
      refine blk_of (hzl.trans hl) fun x y hx hy => ?_
      rw [h2 x y hx hy]
      unfold fwdAt
      refine rowAt_congr k _ _ y ?_ fun j hj => ?_
      · assumption
      unfold colOf
      rw [h1 x j hx hj]
      rfl
    have hpos : 0 < b.length := by rw [hl]; have := Nat.one_le_two_pow (n := k); exact Nat.mul_pos this this
    rw [hw] at HBl
    have HC1 := Lib.hid C1; have HC2 := Lib.hid C2; have Hend := Lib.hid hend; have Hpos := Lib.hid hpos
    obtain ⟨n, hn⟩ : ∃ n, n = b.length := ⟨_, rfl⟩
    have Hn := Lib.hid hn
    rw [← hn] at HBl HCl ⊢
    rw [← hn] at HC1 HC2
    clear hs hb hR hn hw h0 hwi hk hP hl hk1 hk3 hres hB0 hsd C1 C2 hmid hend hpos
    go_enter Try.func8, Try.ntmps8
    go_wp2_with fail
    refine HWi.out.mono ?_
    rintro e w1 ⟨q, rfl, hB1, hf1⟩
    have HB1 := Lib.hid hB1; have Hf1 := Lib.hid hf1
    clear hB1 hf1
    go_wp2_with fail
    refine (HBl.out q w1 HB1.out Hf1.out).mono ?_
    rintro e w2 ⟨rfl, rfl⟩
    go_wp2_with fail
    refine (HCl.out _ Hf1.out).mono ?_
    rintro e w3 ⟨B, d, rfl, hM⟩
    rw [Hn.out] at hM
    obtain ⟨g, rfl, -, hg, hN⟩ := hM.at_ Hpos.out
    have HM := Lib.hid hM; have Hg := Lib.hid hg; have HN := Lib.hid hN
    clear hM hg hN
    go_wp2_with fail
    refine (HC1.out g d w3 HN.out).mono ?_
    rintro e w4 ⟨rfl, hf4, ys, hY, hyl, hmid⟩
    have Hf4 := Lib.hid hf4; have HY := Lib.hid hY; have Hyl := Lib.hid hyl; have Hmid := Lib.hid hmid
    clear hf4 hY hyl hmid
    go_wp2_with fail
    have hc2 := HC2.out g d w4 ys HY.out Hyl.out Hmid.out
    rw [Hyl.out] at hc2
    refine hc2.mono ?_
    rintro e w5 ⟨rfl, hf5, zs, hZ, hzl, hfin⟩
    have hzb : zs.length = b.length := hzl.trans Hn.out
    have hpair := Hend.out ys zs hzb Hmid.out hfin
    have hf35 := Hf4.out.trans hf5 (by simp)
    have hf : Fr [] _ w5 := HM.out.fr.trans hf35 (by intro z hz; simp at hz; rw [hz]; exact .inr Hg.out)
    have HZ := Lib.hid hZ; have Hzl := Lib.hid hzl; have Hpair := Lib.hid hpair; have Hf := Lib.hid (Hf1.out.trans hf (by simp))
    clear hf5 hZ hzl hfin hzb hpair hf35 hf hc2
    go_wp2_with fail
    rw [HR.out]
    unfold NumErr
    rw [← Hpair.out]
    refine ⟨some ⟨g, 0, none⟩, d, by simp only [Hzl.out]; rfl, ?_, Hf.out⟩
    exact HZ.out.src
end Go.Proofs.Ytednjpgibbnieaa

/-
  Contracts of the landed lift: Back. Conditions: rows of bounded length.
-/
namespace Go.Proofs.Ytednjpgibbnieaa
open Go.RowKit

set_option maxRecDepth 20000 in
set_option maxHeartbeats 4000000 in
theorem lback_any (A : Option Addr) (c : Nat) (b : List Int) (w : World) (hs : Src w (.slice A b.length c) (b.map I64)) (hb : b.length ≤ 1000) :
    Calls Try.prog 10 #[.slice A b.length c] w (NumErr w (liftB b)) := by
  have HWi := Lib.hid (lwithin_any 67108864 w)
  have HBl := Lib.hid fun g W (hg : Blk W g 3 #[.int .i64 67108864]) (hf : Fr [] w W) => lblock_any A c b g 67108864 W (hs.fr0 hf) (by omega) hg (by omega) (by omega)
  have HCl := Lib.hid fun W (hf : Fr [] w W) => lclone_any A c b W (hs.fr0 hf) (by omega)
  obtain ⟨R, hR⟩ : ∃ R, R = NumErr w (liftB b) := ⟨_, rfl⟩
  rw [← hR]
  have HR := Lib.hid hR
  cases hw : isBlk b 67108864
  · have hno := isBlk_no hw
    have hres : liftB b = ([], 1) := by unfold liftB; rw [if_pos hno]
    have Hres := Lib.hid hres
    rw [hw] at HBl
    obtain ⟨n, hn⟩ : ∃ n, n = b.length := ⟨_, rfl⟩
    rw [← hn] at HBl ⊢
    clear hs hb hR hn hw hno hres HCl
    go_enter Try.func10, Try.ntmps10
    go_wp2_with fail
    refine HWi.out.mono ?_
    rintro e w1 ⟨q, rfl, hB1, hf1⟩
    have HB1 := Lib.hid hB1; have Hf1 := Lib.hid hf1
    clear hB1 hf1
    go_wp2_with fail
    refine (HBl.out q w1 HB1.out Hf1.out).mono ?_
    rintro e w2 ⟨rfl, rfl⟩
    go_wp2_with fail
    rw [HR.out]
    exact NumErr.none Hres.out Hf1.out
  · obtain ⟨h0, hwi⟩ := isBlk_yes hw
    obtain ⟨k, hk, hP, hl, hk1, hk3⟩ := side_pow h0
    have hres : liftB b = (blkL k (bckAt k (numAt b)), 0) := by
      unfold liftB
      rw [if_neg, ← hk]
      rintro (h | h)
      · omega
      · rw [hwi] at h; cases h
    have hB0 := within_bnd hwi
    have hsd : sideN (2 ^ k * 2 ^ k) = 2 ^ k := by rw [← hl]; exact hP
    have C1 := fun g C W (hN : NumsAt W 3 g C b) => leachColumn_any 29 k (unrowAt k) 274877906944 (lstepsBack_any k hk3) (fun r s x => unrowAt_congr k r s x) g C b W hk3 hk1 hsd hl hN (fun i hi => by have := hB0 i (by omega); omega)
    have hmid : ∀ ys : List Int, (∀ x y, x < 2 ^ k → y < 2 ^ k → numAt ys (y * 2 ^ k + x) = unrowAt k (colOf b (2 ^ k) x) y) → ∀ i, i < 2 ^ k * 2 ^ k → -274877906944 ≤ numAt ys i ∧ numAt ys i ≤ 274877906944 := by
      intro ys h
      refine bnd_of fun x y hx hy => ?_
      rw [h x y hx hy]
      have h1 := unrowAt_le k (colOf b (2 ^ k) x) 67108864 y hy (by omega) fun j hj => hB0 _ (by rw [hl]; exact cell_of hx hj)
      have h2 : ((2 * k + 1 : Nat) : Int) * 67108864 ≤ 7 * 67108864 := by omega
      omega
    have C2 := fun g C W (ys : List Int) (hN : NumsAt W 3 g C ys) (hyl : ys.length = b.length) (h : ∀ x y, x < 2 ^ k → y < 2 ^ k → numAt ys (y * 2 ^ k + x) = unrowAt k (colOf b (2 ^ k) x) y) => leachRow_any 29 k (unrowAt k) 274877906944 (lstepsBack_any k hk3) g C ys W hk3 hk1 hsd (hyl.trans hl) hN (hmid ys h)
    have hend : ∀ ys zs : List Int, zs.length = b.length → (∀ x y, x < 2 ^ k → y < 2 ^ k → numAt ys (y * 2 ^ k + x) = unrowAt k (colOf b (2 ^ k) x) y) → (∀ x y, x < 2 ^ k → y < 2 ^ k → numAt zs (y * 2 ^ k + x) = unrowAt k (rowFrom ys (y * 2 ^ k)) x) → (zs, (0 : Int)) = liftB b := by
      intro ys zs hzl h1 h2
      rw [hres]
      congr 1
      refine blk_of (hzl.trans hl) fun x y hx hy => ?_
      rw [h2 x y hx hy]
      unfold bckAt
      refine unrowAt_congr k _ _ x ?_ fun j hj => ?_
      · assumption
      unfold rowFrom
      rw [h1 j y hj hy]
      rfl
    have hpos : 0 < b.length := by rw [hl]; have := Nat.one_le_two_pow (n := k); exact Nat.mul_pos this this
    rw [hw] at HBl
    have HC1 := Lib.hid C1; have HC2 := Lib.hid C2; have Hend := Lib.hid hend; have Hpos := Lib.hid hpos
    obtain ⟨n, hn⟩ : ∃ n, n = b.length := ⟨_, rfl⟩
    have Hn := Lib.hid hn
    rw [← hn] at HBl HCl ⊢
    rw [← hn] at HC1 HC2
    clear hs hb hR hn hw h0 hwi hk hP hl hk1 hk3 hres hB0 hsd C1 C2 hmid hend hpos
    go_enter Try.func10, Try.ntmps10
    go_wp2_with fail
    refine HWi.out.mono ?_
    rintro e w1 ⟨q, rfl, hB1, hf1⟩
    have HB1 := Lib.hid hB1; have Hf1 := Lib.hid hf1
    clear hB1 hf1
    go_wp2_with fail
    refine (HBl.out q w1 HB1.out Hf1.out).mono ?_
    rintro e w2 ⟨rfl, rfl⟩
    go_wp2_with fail
    refine (HCl.out _ Hf1.out).mono ?_
    rintro e w3 ⟨B, d, rfl, hM⟩
    rw [Hn.out] at hM
    obtain ⟨g, rfl, -, hg, hN⟩ := hM.at_ Hpos.out
    have HM := Lib.hid hM; have Hg := Lib.hid hg; have HN := Lib.hid hN
    clear hM hg hN
    go_wp2_with fail
    refine (HC1.out g d w3 HN.out).mono ?_
    rintro e w4 ⟨rfl, hf4, ys, hY, hyl, hmid⟩
    have Hf4 := Lib.hid hf4; have HY := Lib.hid hY; have Hyl := Lib.hid hyl; have Hmid := Lib.hid hmid
    clear hf4 hY hyl hmid
    go_wp2_with fail
    have hc2 := HC2.out g d w4 ys HY.out Hyl.out Hmid.out
    rw [Hyl.out] at hc2
    refine hc2.mono ?_
    rintro e w5 ⟨rfl, hf5, zs, hZ, hzl, hfin⟩
    have hzb : zs.length = b.length := hzl.trans Hn.out
    have hpair := Hend.out ys zs hzb Hmid.out hfin
    have hf35 := Hf4.out.trans hf5 (by simp)
    have hf : Fr [] _ w5 := HM.out.fr.trans hf35 (by intro z hz; simp at hz; rw [hz]; exact .inr Hg.out)
    have HZ := Lib.hid hZ; have Hzl := Lib.hid hzl; have Hpair := Lib.hid hpair; have Hf := Lib.hid (Hf1.out.trans hf (by simp))
    clear hf5 hZ hzl hfin hzb hpair hf35 hf hc2
    go_wp2_with fail
    rw [HR.out]
    unfold NumErr
    rw [← Hpair.out]
    refine ⟨some ⟨g, 0, none⟩, d, by simp only [Hzl.out]; rfl, ?_, Hf.out⟩
    exact HZ.out.src
end Go.Proofs.Ytednjpgibbnieaa

/-
  Contracts of the landed lift: Order. Condition: the number is an int's.
-/
namespace Go.Proofs.Ytednjpgibbnieaa
open Go.RowKit

theorem lorder_bad (n : Int) (w : World) (h4 : n ≠ 4) (h8 : n ≠ 8) :
    Calls Try.prog 15 #[.int .i64 n] w (NumsPost w []) := by
  have t4 : (n != 4) = true := by simpa using h4
  have t8 : (n != 8) = true := by simpa using h8
  clear h4 h8
  go_enter Try.func15, Try.ntmps15
  go_wp2_with fail
  go_ret
  exact ⟨none, 0, rfl, .inl ⟨rfl, rfl⟩, Fr.refl _ _⟩

set_option maxRecDepth 20000 in
set_option maxHeartbeats 8000000 in
theorem lorder_good (N : Nat) (w : World) (hN : N = 4 ∨ N = 8) :
    Calls Try.prog 15 #[.int .i64 (N : Int)] w (NumsPost w (ints (orderN N))) := by
  have hN8 : N ≤ 8 := by omega
  have hN4 : 4 ≤ N := by omega
  obtain ⟨b4, hb4⟩ : ∃ b, b = ((N : Int) != 4) := ⟨_, rfl⟩
  obtain ⟨b8, hb8⟩ : ∃ b, b = ((N : Int) != 8) := ⟨_, rfl⟩
  have hbb : b4 = false ∨ (b4 = true ∧ b8 = false) := by
    rcases hN with rfl | rfl
    · exact .inl hb4
    · exact .inr ⟨hb4, hb8⟩
  have t4 : ((N : Int) != 4) = b4 := hb4.symm
  have t8 : ((N : Int) != 8) = b8 := hb8.symm
  obtain ⟨T, hT⟩ : ∃ T, T = 2 * N := ⟨_, rfl⟩
  obtain ⟨E, hE⟩ : ∃ E, E = 2 * N - 1 := ⟨_, rfl⟩
  obtain ⟨NN, hNN⟩ : ∃ NN, NN = N * N := ⟨_, rfl⟩
  have eT : 2 * (N : Int) = (T : Int) := by omega
  have eE : (T : Int) - 1 = (E : Int) := by omega
  have eNN : (N : Int) * (N : Int) = (NN : Int) := by rw [hNN]; simp
  have hNN64 : NN ≤ 64 := by rw [hNN]; exact Nat.mul_le_mul hN8 hN8
  have wT : IntKind.i64.wrap (T : Int) = (T : Int) := IntWalk.i64_in _ (by omega)
  have wE : IntKind.i64.wrap (E : Int) = (E : Int) := IntWalk.i64_in _ (by omega)
  have wNN : IntKind.i64.wrap (NN : Int) = (NN : Int) := IntWalk.i64_in _ (by omega)
  rw [orderN_to, ← hE]
  obtain ⟨R, hR⟩ : ∃ R, R = NumsPost w (ints (orderTo N E)) := ⟨_, rfl⟩
  have HR := Lib.hid hR
  rw [← hR]
  have hE15 : E ≤ 15 := by omega
  have HT := Lib.hid (And.intro hT hE)
  obtain ⟨i0, hi0, hz0, hs0, hb0⟩ := info_parts info_num
  clear hN hb4 hb8 hR hT hE hNN
  rcases hbb with rfl | ⟨rfl, rfl⟩
  all_goals
    go_enter Try.func15, Try.ntmps15
    go_wp2_with (at_make; refine wpList_make_own _ rfl _ _ 22 rfl 0 3 i0 _ 1 Try.underlying22 hi0 hz0 hs0 _ _ _ NN rfl rfl rfl (by rw [hb0]; omega) (by simp only [maxLen]; omega) (Nat.zero_le _) ?_)
    intro w2 hO hG
    have hM : MineN w w2 (.slice (some ⟨w.heap.size, 0, none⟩) 0 NN) [] := by
      refine ⟨hO, (Fr.refl _ _).grown hG (fun k hk => by cases hk), fun k hk => ?_⟩
      have : w.heap.size = k := by simpa [Value.ownBlock] using hk
      omega
    obtain ⟨g, hg⟩ : ∃ g, g = w.heap.size := ⟨_, rfl⟩
    rw [← hg] at hM ⊢
    have HM := Lib.hid hM
    clear hO hG hM hg hi0 hz0 hs0 hb0
    go_wp2_with fail
    go_loopw [3, 20] (fun s3 s20 wr => ∃ (s : Nat) (B : Option Addr) (d : Nat), s ≤ E ∧ s20 = .int .i64 (s : Int) ∧ s3 = .slice B (orderTo N s).length d ∧ MineN w wr (.slice B (orderTo N s).length d) (ints (orderTo N s))) (fun _ s20 _ => E - (intOf s20).toNat)
    case atStart => exact ⟨0, some ⟨g, 0, none⟩, NN, by omega, rfl, rfl, HM.out⟩
    case round =>
      clear HM
      obtain ⟨s, B, d, hs, rfl, rfl, hM⟩ := hrel
      by_cases hlt : s < E
      · have eg : decide (s < E) = true := by simpa using hlt
        obtain ⟨O, hO⟩ : ∃ O, O = orderTo N s := ⟨_, rfl⟩
        have hOl : O.length ≤ 1000 := by
          rw [hO]
          have h1 := orderTo_len N s
          have h2 : s * N ≤ 15 * 8 := Nat.mul_le_mul (by omega) hN8
          omega
        rw [← hO] at hM ⊢
        have HM := Lib.hid hM; have HO := Lib.hid hO
        clear hM hO
        go_wp2_with fail
        go_loopw [3, 24] (fun s3 s24 wr => ∃ (y : Nat) (B : Option Addr) (d : Nat), y ≤ N ∧ s24 = .int .i64 (y : Int) ∧ s3 = .slice B (O ++ diagTo N s y).length d ∧ MineN w wr (.slice B (O ++ diagTo N s y).length d) (ints (O ++ diagTo N s y))) (fun _ s24 _ => N - (intOf s24).toNat)
        case atStart => exact ⟨0, B, d, by omega, rfl, by simp [diagTo], by simpa [diagTo] using HM.out⟩
        case round =>
          clear HM
          obtain ⟨y, B, d, hy, rfl, rfl, hM⟩ := hrel
          have hdl := diagTo_len N s y
          have hsuc := diagTo_succ N s y
          obtain ⟨Q, hQ⟩ : ∃ Q, Q = O ++ diagTo N s y := ⟨_, rfl⟩
          have hQl : Q.length ≤ 1010 := by rw [hQ, List.length_append]; omega
          rw [← hQ] at hM ⊢
          have HQ := Lib.hid hQ; have Hsuc := Lib.hid hsuc; have HM := Lib.hid hM
          clear hQ hsuc hdl hM
          by_cases hlt2 : y < N
          · have eg2 : decide (y < N) = true := by simpa using hlt2
            have wsy : IntKind.i64.wrap ((s : Int) - (y : Int)) = (s : Int) - (y : Int) := IntWalk.i64_in _ (by omega)
            by_cases hin : y ≤ s ∧ s - y < N
            · obtain ⟨X, hX⟩ : ∃ X, X = s - y := ⟨_, rfl⟩
              have eX : (s : Int) - (y : Int) = (X : Int) := by omega
              have wX : IntKind.i64.wrap (X : Int) = (X : Int) := IntWalk.i64_in _ (by omega)
              have eXN : decide (X < N) = true := by simp; omega
              obtain ⟨YN, hYN⟩ : ∃ YN, YN = y * N := ⟨_, rfl⟩
              obtain ⟨K, hK⟩ : ∃ K, K = YN + X := ⟨_, rfl⟩
              have hYNl : YN ≤ 64 := by rw [hYN]; exact Nat.mul_le_mul (show y ≤ 8 by omega) hN8
              have eYN : (y : Int) * (N : Int) = (YN : Int) := by rw [hYN]; simp
              have eK : (YN : Int) + (X : Int) = (K : Int) := by rw [hK]; simp
              have wYN : IntKind.i64.wrap (YN : Int) = (YN : Int) := IntWalk.i64_in _ (by omega)
              have wK : IntKind.i64.wrap (K : Int) = (K : Int) := IntWalk.i64_in _ (by omega)
              have hnew : O ++ diagTo N s (y + 1) = Q ++ [K] := by
                rw [HQ.out, Hsuc.out, if_pos hin, List.append_assoc, hK, hYN, hX]
              have hnl : (O ++ diagTo N s (y + 1)).length = Q.length + 1 := by rw [hnew]; simp
              have hni : ints (O ++ diagTo N s (y + 1)) = ints Q ++ [(K : Int)] := by rw [hnew, ints_append]; rfl
              have Hnl := Lib.hid hnl; have Hni := Lib.hid hni; have Hil := Lib.hid (ints_length Q)
              clear hnew hnl hni hK hYN hX hin wsy
              go_wp2_with (at_builtin; refine wp_append_num _ _ (.slice B Q.length d) (ints Q) (.slice (some ⟨wr.heap.size, 0, none⟩) 1 1) [(K : Int)] rfl rfl rfl rfl (HM.out.own.alloc _) (Src.one (by simp [go_sem]; rfl)) (by rw [Hil.out]; simp; omega) ?_)
              intro B2 d2 w3 hO3 hG3
              have hM3 := MineN.appended (ms := [(K : Int)]) (HM.out.fr0 ((Fr.refl _ _).alloc (.cells #[.int .i64 (K : Int)] 3))) (by rw [List.map_append]; exact hO3) hG3
              rw [← Hni.out] at hM3
              rw [Hil.out] at hM3 ⊢
              have HM3 := Lib.hid hM3
              clear hO3 hG3 hM3
              go_wp2_with fail
              exact ⟨⟨y + 1, B2, d2, by omega, by simp, by rw [Hnl.out], by rw [Hnl.out]; exact HM3.out⟩, by simp [intOf]; omega⟩
            · have hsame : O ++ diagTo N s (y + 1) = Q := by rw [HQ.out, Hsuc.out, if_neg hin, List.append_nil]
              have Hsame := Lib.hid hsame
              have hex : (s : Int) - (y : Int) < 0 ∨ (0 ≤ (s : Int) - (y : Int) ∧ (N : Int) ≤ (s : Int) - (y : Int)) := by omega
              clear hsame hin
              rcases hex with h1 | ⟨h1, h2⟩
              · have e1 : decide (0 ≤ (s : Int) - (y : Int)) = false := decide_eq_false (by omega)
                go_wp2_with fail
                exact ⟨⟨y + 1, B, d, by omega, by simp, by rw [Hsame.out], by rw [Hsame.out]; exact HM.out⟩, by simp [intOf]; omega⟩
              · have e1 : decide (0 ≤ (s : Int) - (y : Int)) = true := decide_eq_true (by omega)
                have e2 : decide ((s : Int) - (y : Int) < (N : Int)) = false := decide_eq_false (by omega)
                go_wp2_with fail
                exact ⟨⟨y + 1, B, d, by omega, by simp, by rw [Hsame.out], by rw [Hsame.out]; exact HM.out⟩, by simp [intOf]; omega⟩
          · have eg2 : decide (y < N) = false := by simpa using hlt2
            have hyN : y = N := by omega
            have hnew : orderTo N (s + 1) = Q := by rw [orderTo_succ, HQ.out, HO.out, hyN]
            have Hnew := Lib.hid hnew
            clear hnew hyN
            go_wp2_with fail
            exact ⟨⟨s + 1, B, d, by omega, by simp, by rw [Hnew.out], by rw [Hnew.out]; exact HM.out⟩, by simp [intOf]; omega⟩
      · have eg : decide (s < E) = false := by simpa using hlt
        have hsE : s = E := by omega
        rw [hsE] at hM ⊢
        have HM := Lib.hid hM
        clear hM hsE
        go_wp2_with fail
        rw [HR.out]
        have hil := ints_length (orderTo N E)
        refine ⟨B, d, by rw [hil]; rfl, ?_, HM.out.fr⟩
        rw [hil]
        exact HM.out.src
theorem lorder_any (n : Int) (w : World) : Calls Try.prog 15 #[.int .i64 n] w (NumsPost w (ints (orderL n))) := by
  by_cases h4 : n = 4
  · subst h4
    exact lorder_good 4 w (.inl rfl)
  · by_cases h8 : n = 8
    · subst h8
      exact lorder_good 8 w (.inr rfl)
    · have : orderL n = [] := by unfold orderL; rw [if_neg (by omega)]
      rw [this]
      exact lorder_bad n w h4 h8
end Go.Proofs.Ytednjpgibbnieaa

/-
  Contracts of the landed lift: Sort, Unsort. Conditions: rows of bounded length.
-/
namespace Go.Proofs.Ytednjpgibbnieaa
open Go.RowKit

set_option maxRecDepth 20000 in
set_option maxHeartbeats 4000000 in
theorem lsort_any (A : Option Addr) (c : Nat) (b : List Int) (w : World) (hs : Src w (.slice A b.length c) (b.map I64)) (hb : b.length ≤ 1000) :
    Calls Try.prog 13 #[.slice A b.length c] w (NumsNew w (sortL b)) := by
  have HSd := Lib.hid fun w => lside_any A b.length c w (by omega)
  have HOr := Lib.hid fun w => lorder_any (sideN b.length : Int) w
  obtain ⟨L, hL⟩ : ∃ L, L = orderL (sideN b.length) := ⟨_, rfl⟩
  have honce : L = [] ∨ Once L b.length := by
    rcases once_of b.length with ⟨e, -⟩ | h
    · exact .inl (by rw [hL, e])
    · exact .inr (by rw [hL]; exact h)
  have hLl : L.length ≤ b.length := by rw [hL]; exact once_len _
  have hres : sortL b = L.map (numAt b) := by unfold sortL; rw [hL]
  rw [← hL] at HOr
  have Hres := Lib.hid hres
  obtain ⟨R, hR⟩ : ∃ R, R = NumsNew w (sortL b) := ⟨_, rfl⟩
  rw [← hR]
  have HR := Lib.hid hR
  have HOn := Lib.hid honce; have HS := Lib.hid hs
  obtain ⟨n, hn⟩ : ∃ n, n = b.length := ⟨_, rfl⟩
  have Hn := Lib.hid hn; have Hil := Lib.hid (ints_length L)
  obtain ⟨m, hm⟩ : ∃ m, m = L.length := ⟨_, rfl⟩
  have Hm := Lib.hid hm
  have hmn : m ≤ 1000 := by omega
  have hmn2 : m ≤ n := by omega
  rw [← hn] at HSd HOr ⊢
  obtain ⟨i0, hi0, hz0, hs0, hb0⟩ := info_parts info_num
  clear hs hb hL honce hLl hres hn hm hR
  go_enter Try.func13, Try.ntmps13
  go_wp2_with fail
  refine (HSd.out _).mono ?_
  rintro e w1 ⟨rfl, rfl⟩
  go_wp2_with fail
  refine (HOr.out _).mono ?_
  rintro e w2 ⟨A2, c2, rfl, hs2, hf2⟩
  rw [Hil.out, ← Hm.out] at hs2 ⊢
  have HS2 := Lib.hid hs2; have HF2 := Lib.hid hf2
  clear hs2 hf2 HSd HOr
  go_wp2_with (at_make; refine wpList_make_mine _ _ 22 3 i0 _ 8 _ _ m rfl rfl Try.underlying22 hi0 hz0 hs0 hb0 rfl rfl rfl (by omega) (by simp only [maxLen]; omega) ?_)
  intro w3 hO hF3 hlt3
  have hM : MineN w2 w3 (.slice (some ⟨w2.heap.size, 0, none⟩) m m) (List.replicate m 0) := by
    refine ⟨?_, hF3, fun k hk => ?_⟩
    · rw [List.map_replicate]; exact hO
    · have : w2.heap.size = k := by simpa [Value.ownBlock] using hk
      omega
  obtain ⟨g, hg⟩ : ∃ g, g = w2.heap.size := ⟨_, rfl⟩
  rw [← hg] at hM ⊢
  have HM := Lib.hid hM
  clear hO hF3 hlt3 hM hg hi0 hz0 hs0 hb0
  go_wp2_with fail
  go_loopw [15] (fun s15 wr => ∃ (i : Nat) (xs : List Int), i ≤ m ∧ s15 = .int .i64 (i : Int) ∧ MineN w2 wr (.slice (some ⟨g, 0, none⟩) m m) xs ∧ xs.length = m ∧ ∀ j, j < i → numAt xs j = numAt b (L.getD j 0)) (fun s15 _ => m - (intOf s15).toNat)
  case atStart => exact ⟨0, _, by omega, rfl, HM.out, by simp, fun j hj => absurd hj (by omega)⟩
  case round =>
    clear HM
    obtain ⟨i, xs, hi, rfl, hM, hPl⟩ := hrel
    by_cases hlt : i < m
    · have eg : decide (i < m) = true := by simpa using hlt
      have hiL : i < L.length := by have := Hm.out; omega
      have hon : Once L b.length := by
        rcases HOn.out with h | h
        · rw [h] at hiL; simp at hiL
        · exact h
      have hLb := hon.len
      have hib : i < b.length := by omega
      obtain ⟨la, rfl, cx⟩ := (HS2.out.fr0 hM.fr).num (k := i) (by have := Hil.out; omega)
      rw [ints_at hiL] at cx
      obtain ⟨K, hK⟩ : ∃ K, K = L.getD i 0 := ⟨_, rfl⟩
      have hKl := hon.lt i hib
      rw [← hK] at cx hKl
      obtain ⟨ba, rfl, cy⟩ := (HS.out.fr0 (HF2.out.trans hM.fr (by simp))).num hKl
      obtain ⟨v, hv⟩ : ∃ v, v = b.getD K 0 := ⟨_, rfl⟩
      rw [← hv] at cy
      have hset : (xs.set i v).length = m ∧ ∀ j, j < i + 1 → numAt (xs.set i v) j = numAt b (L.getD j 0) := by
        refine ⟨by rw [List.length_set]; exact hPl.1, fun j hj => ?_⟩
        rw [num_set (by rw [hPl.1]; exact hlt)]
        by_cases hji : j = i
        · subst hji
          rw [if_pos rfl, ← hK, hv]
          rfl
        · rw [if_neg hji]
          exact hPl.2 j (by omega)
      have hKn : K < n := by have := Hn.out; omega
      have hKm : K < m := by have := Hm.out; omega
      have hin : i < n := by have := Hn.out; omega
      obtain ⟨g', hg', -, hgl, cz, fz, -, hst⟩ := hM.cell (j := i) (by rw [hPl.1]; omega)
      have hge := Option.some.inj hg'
      injection hge with hge
      subst hge
      have HM3 := Lib.hid (hst v); have HP3 := Lib.hid hset
      clear hM hPl hset hK hv hKl hiL hon hLb hib hst hg'
      go_wp2_with fail
      exact ⟨⟨i + 1, _, by omega, by simp, HM3.out, HP3.out⟩, by simp [intOf]; omega⟩
    · have eg : decide (i < m) = false := by simpa using hlt
      have him : i = m := by omega
      have hfin : xs = sortL b := by
        rw [Hres.out]
        apply num_ext
        · rw [hPl.1, List.length_map]; exact Hm.out
        · intro j hj
          rw [hPl.1] at hj
          have hjL : j < L.length := by have := Hm.out; omega
          rw [hPl.2 j (by omega)]
          unfold numAt
          rw [List.getD_eq_getElem?_getD (l := L.map _), List.getElem?_map, List.getD_eq_getElem?_getD (l := L), List.getElem?_eq_getElem hjL]
          rfl
      have hxl : xs.length = m := hPl.1
      rw [hfin] at hM hxl
      have HM := Lib.hid hM; have Hxl := Lib.hid hxl
      clear hM hxl hPl hfin him
      go_wp2_with fail
      rw [HR.out]
      refine ⟨some ⟨g, 0, none⟩, m, by rw [Hxl.out]; rfl, ?_⟩
      rw [Hxl.out]
      exact HM.out.from_ HF2.out
set_option maxRecDepth 20000 in
set_option maxHeartbeats 4000000 in
theorem lunsort_any (A : Option Addr) (c : Nat) (b : List Int) (w : World) (hs : Src w (.slice A b.length c) (b.map I64)) (hb : b.length ≤ 1000) :
    Calls Try.prog 14 #[.slice A b.length c] w (NumsNew w (unsortL b)) := by
  have HSd := Lib.hid fun w => lside_any A b.length c w (by omega)
  have HOr := Lib.hid fun w => lorder_any (sideN b.length : Int) w
  obtain ⟨L, hL⟩ : ∃ L, L = orderL (sideN b.length) := ⟨_, rfl⟩
  have honce : L = [] ∨ Once L b.length := by
    rcases once_of b.length with ⟨e, -⟩ | h
    · exact .inl (by rw [hL, e])
    · exact .inr (by rw [hL]; exact h)
  have hLl : L.length ≤ b.length := by rw [hL]; exact once_len _
  have hres : unsortL b = (List.range L.length).map fun p => numAt b (L.idxOf p) := by unfold unsortL; rw [hL]
  rw [← hL] at HOr
  have Hres := Lib.hid hres
  obtain ⟨R, hR⟩ : ∃ R, R = NumsNew w (unsortL b) := ⟨_, rfl⟩
  rw [← hR]
  have HR := Lib.hid hR
  have HOn := Lib.hid honce; have HS := Lib.hid hs
  obtain ⟨n, hn⟩ : ∃ n, n = b.length := ⟨_, rfl⟩
  have Hn := Lib.hid hn; have Hil := Lib.hid (ints_length L)
  obtain ⟨m, hm⟩ : ∃ m, m = L.length := ⟨_, rfl⟩
  have Hm := Lib.hid hm
  have hmn : m ≤ 1000 := by omega
  have hmn2 : m ≤ n := by omega
  rw [← hn] at HSd HOr ⊢
  obtain ⟨i0, hi0, hz0, hs0, hb0⟩ := info_parts info_num
  clear hs hb hL honce hLl hres hn hm hR
  go_enter Try.func14, Try.ntmps14
  go_wp2_with fail
  refine (HSd.out _).mono ?_
  rintro e w1 ⟨rfl, rfl⟩
  go_wp2_with fail
  refine (HOr.out _).mono ?_
  rintro e w2 ⟨A2, c2, rfl, hs2, hf2⟩
  rw [Hil.out, ← Hm.out] at hs2 ⊢
  have HS2 := Lib.hid hs2; have HF2 := Lib.hid hf2
  clear hs2 hf2 HSd HOr
  go_wp2_with (at_make; refine wpList_make_mine _ _ 22 3 i0 _ 8 _ _ m rfl rfl Try.underlying22 hi0 hz0 hs0 hb0 rfl rfl rfl (by omega) (by simp only [maxLen]; omega) ?_)
  intro w3 hO hF3 hlt3
  have hM : MineN w2 w3 (.slice (some ⟨w2.heap.size, 0, none⟩) m m) (List.replicate m 0) := by
    refine ⟨?_, hF3, fun k hk => ?_⟩
    · rw [List.map_replicate]; exact hO
    · have : w2.heap.size = k := by simpa [Value.ownBlock] using hk
      omega
  obtain ⟨g, hg⟩ : ∃ g, g = w2.heap.size := ⟨_, rfl⟩
  rw [← hg] at hM ⊢
  have HM := Lib.hid hM
  clear hO hF3 hlt3 hM hg hi0 hz0 hs0 hb0
  go_wp2_with fail
  go_loopw [15] (fun s15 wr => ∃ (i : Nat) (xs : List Int), i ≤ m ∧ s15 = .int .i64 (i : Int) ∧ MineN w2 wr (.slice (some ⟨g, 0, none⟩) m m) xs ∧ Placed L b xs i) (fun s15 _ => m - (intOf s15).toNat)
  case atStart => exact ⟨0, _, by omega, rfl, HM.out, by simp [Hm.out], fun j hj => absurd hj (by omega)⟩
  case round =>
    clear HM
    obtain ⟨i, xs, hi, rfl, hM, hPl⟩ := hrel
    by_cases hlt : i < m
    · have eg : decide (i < m) = true := by simpa using hlt
      have hiL : i < L.length := by have := Hm.out; omega
      have hon : Once L b.length := by
        rcases HOn.out with h | h
        · rw [h] at hiL; simp at hiL
        · exact h
      have hLb := hon.len
      have hib : i < b.length := by omega
      obtain ⟨la, rfl, cx⟩ := (HS2.out.fr0 hM.fr).num (k := i) (by have := Hil.out; omega)
      rw [ints_at hiL] at cx
      have hset := hPl.set hon hib
      obtain ⟨K, hK⟩ : ∃ K, K = L.getD i 0 := ⟨_, rfl⟩
      have hKl := hon.lt i hib
      rw [← hK] at cx hKl hset
      obtain ⟨ba, rfl, cy⟩ := (HS.out.fr0 (HF2.out.trans hM.fr (by simp))).num hib
      obtain ⟨v, hv⟩ : ∃ v, v = b.getD i 0 := ⟨_, rfl⟩
      rw [show numAt b i = v by rw [hv]; rfl] at hset
      rw [← hv] at cy
      have hKn : K < n := by have := Hn.out; omega
      have hKm : K < m := by have := Hm.out; omega
      have hin : i < n := by have := Hn.out; omega
      obtain ⟨g', hg', -, hgl, cz, fz, -, hst⟩ := hM.cell (j := K) (by rw [hPl.1]; omega)
      have hge := Option.some.inj hg'
      injection hge with hge
      subst hge
      have HM3 := Lib.hid (hst v); have HP3 := Lib.hid hset
      clear hM hPl hset hK hv hKl hiL hon hLb hib hst hg'
      go_wp2_with fail
      exact ⟨⟨i + 1, _, by omega, by simp, HM3.out, HP3.out⟩, by simp [intOf]; omega⟩
    · have eg : decide (i < m) = false := by simpa using hlt
      have him : i = m := by omega
      have hfin : xs = unsortL b := by
        rw [Hres.out]
        rcases HOn.out with h | h
        · have := hPl.1
          rw [h] at this ⊢
          simp at this ⊢
          exact this
        · have hh : Placed L b xs b.length := by rw [← h.len, ← Hm.out, ← him]; exact hPl
          exact hh.full h
      have hxl : xs.length = m := by rw [hPl.1]; exact Hm.out.symm
      rw [hfin] at hM hxl
      have HM := Lib.hid hM; have Hxl := Lib.hid hxl
      clear hM hxl hPl hfin him
      go_wp2_with fail
      rw [HR.out]
      refine ⟨some ⟨g, 0, none⟩, m, by rw [Hxl.out]; rfl, ?_⟩
      rw [Hxl.out]
      exact HM.out.from_ HF2.out
end Go.Proofs.Ytednjpgibbnieaa

/-
  The landed lift keeps its contracts.
-/
namespace Go.Proofs.Ytednjpgibbnieaa

theorem liftI : LiftSpec where
  fwd := fun w A c b hs hb _ => lforward_any A c b w hs hb
  bck := fun w A c b hs hb _ => lback_any A c b w hs hb
  order := fun w n _ => lorder_any n w
  sortN := fun w A c b hs hb _ => lsort_any A c b w hs hb
  unsort := fun w A c b hs hb _ => (lunsort_any A c b w hs hb).mono fun _ _ h => h.post
end Go.Proofs.Ytednjpgibbnieaa

/-
  Closed facts of this program that every row asks; no condition.
-/
namespace Go.Proofs.Ytednjpgibbnieaa
theorem own_knob : ownKnob Try.prog.godebug = none := by kernel_rfl
theorem laid_out : laidOutB Try.prog = true := by kernel_rfl
end Go.Proofs.Ytednjpgibbnieaa
