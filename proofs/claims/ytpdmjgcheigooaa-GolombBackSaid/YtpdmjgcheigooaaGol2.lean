/-
  Contracts of package golomb's functions that put and get (Put, PutSigned, noughtsAhead, Get, GetSigned); conditions: the lengths are bounded as named.
-/
import Derived.Test.YtpdmjgcheigooaaGol1
namespace Go.Proofs.Ytpdmjgcheigooaa
open Go.RowKit

theorem gput_nil (v : Int) (w : World) :
    Calls Try.prog 17 #[.pointer none, .int .u64 v] w fun e w' => e = .returned (.int .i64 1) ∧ w' = w := by
  go_enter Try.func17, Try.ntmps17
  go_wp2_with fail
  go_ret
  exact ⟨rfl, rfl⟩

theorem gput_big (p v : Nat) (w : World) (h : 4294967294 < v) :
    Calls Try.prog 17 #[.pointer (some ⟨p, 0, none⟩), .int .u64 (v : Int)] w fun e w' => e = .returned (.int .i64 1) ∧ w' = w := by
  go_enter Try.func17, Try.ntmps17
  go_wp2_with fail
  go_ret
  exact ⟨rfl, rfl⟩

theorem gput_ok (p : Nat) (v : Value) (L : List Bool) (a : Nat) (w : World) (h : Wr w p v L) (ha : a ≤ 4294967294) (hL : L.length ≤ 100000000000) :
    Calls Try.prog 17 #[.pointer (some ⟨p, 0, none⟩), .int .u64 (a : Int)] w fun e w' => e = .returned (.int .i64 0) ∧
      ∃ v', Wr w' p v' (L ++ code a) ∧ WFr p v v' w w' := by
  have HC := Lib.hid (glen_any a w ha)
  have HP := Lib.hid (put_ok p v L (a + 1) (clen a) w h (by have := clen_le ha; omega) (lt_clen a) hL)
  clear h
  go_enter Try.func17, Try.ntmps17
  go_wp2_with fail
  refine HC.out.mono ?_
  rintro e w' ⟨rfl, rfl⟩
  go_wp2_with fail
  refine HP.out.mono ?_
  rintro e w2 ⟨rfl, hh⟩
  go_wp2_with fail
  go_ret
  exact ⟨rfl, hh⟩

/-- What a put of a number answers, and the bits behind it. -/
def gput (L : List Bool) (a : Nat) : Int × List Bool := if 4294967294 < a then (1, L) else (0, L ++ code a)
/-- What a put of a number with a sign answers, and the bits behind it. -/
def gputS (L : List Bool) (x : Int) : Int × List Bool := if folds x then (0, L ++ code (folded x)) else (1, L)
theorem gput_len (L : List Bool) (a : Nat) : (gput L a).2.length ≤ L.length + 64 := by
  unfold gput
  split
  · simp
  · have := clen_le (v := a) (by omega)
    simp; omega
theorem gputS_len (L : List Bool) (x : Int) : (gputS L x).2.length ≤ L.length + 64 := by
  unfold gputS
  split
  · rename_i h
    have := clen_le (folded_le h)
    simp; omega
  · simp

theorem gput_total (p : Nat) (v : Value) (L : List Bool) (a : Nat) (w : World) (h : Wr w p v L) (hL : L.length ≤ 100000000000) :
    Calls Try.prog 17 #[.pointer (some ⟨p, 0, none⟩), .int .u64 (a : Int)] w fun e w' => e = .returned (.int .i64 (gput L a).1) ∧ ∃ v', Wr w' p v' (gput L a).2 ∧ WFr p v v' w w' := by
  unfold gput
  by_cases h1 : 4294967294 < a
  · rw [if_pos h1]
    exact (gput_big p a w h1).mono fun e w' ⟨he, hw⟩ => ⟨he, v, by rw [hw]; exact h, by rw [hw]; exact WFr.same (Fr.refl _ _)⟩
  · rw [if_neg h1]
    exact gput_ok p v L a w h (by omega) hL

theorem gputS_nil (x : Int) (w : World) :
    Calls Try.prog 19 #[.pointer none, .int .i64 x] w fun e w' => e = .returned (.int .i64 1) ∧ w' = w := by
  by_cases hx : folds x
  · have HC := Lib.hid (gfold_in x w hx)
    go_enter Try.func19, Try.ntmps19
    go_wp2_with fail
    refine HC.out.mono ?_
    rintro e w' ⟨rfl, rfl⟩
    go_wp2_with fail
    refine (gput_nil _ _).mono ?_
    rintro e w' ⟨rfl, rfl⟩
    go_wp2_with fail
    go_ret
    exact ⟨rfl, rfl⟩
  · have HC := Lib.hid (gfold_out x w hx)
    go_enter Try.func19, Try.ntmps19
    go_wp2_with fail
    refine HC.out.mono ?_
    rintro e w' ⟨rfl, rfl⟩
    go_wp2_with fail
    go_ret
    exact ⟨rfl, rfl⟩

theorem gputS_total (p : Nat) (v : Value) (L : List Bool) (x : Int) (w : World) (h : Wr w p v L) (hL : L.length ≤ 100000000000) :
    Calls Try.prog 19 #[.pointer (some ⟨p, 0, none⟩), .int .i64 x] w fun e w' => e = .returned (.int .i64 (gputS L x).1) ∧ ∃ v', Wr w' p v' (gputS L x).2 ∧ WFr p v v' w w' := by
  unfold gputS
  by_cases hx : folds x
  · rw [if_pos hx]
    have HC := Lib.hid (gfold_in x w hx)
    have HP := Lib.hid (gput_ok p v L (folded x) w h (folded_le hx) hL)
    clear h
    go_enter Try.func19, Try.ntmps19
    go_wp2_with fail
    refine HC.out.mono ?_
    rintro e w' ⟨rfl, rfl⟩
    go_wp2_with fail
    refine HP.out.mono ?_
    rintro e w2 ⟨rfl, hh⟩
    go_wp2_with fail
    go_ret
    exact ⟨rfl, hh⟩
  · rw [if_neg hx]
    have HC := Lib.hid (gfold_out x w hx)
    have Hh := Lib.hid h; clear h
    go_enter Try.func19, Try.ntmps19
    go_wp2_with fail
    refine HC.out.mono ?_
    rintro e w' ⟨rfl, rfl⟩
    go_wp2_with fail
    go_ret
    exact ⟨rfl, v, Hh.out, WFr.same (Fr.refl _ _)⟩

theorem getD_drop (l : List Bool) (a k : Nat) : (l.drop a).getD k false = l.getD (a + k) false := by
  simp [List.getD_eq_getElem?_getD]
theorem number_one (l : List Bool) (a : Nat) (h : a + 1 ≤ l.length) : number ((l.drop a).take 1) = (l.getD a false).toNat := by
  have := number_take_succ (l.drop a) 0 (by simp; omega)
  rw [this, getD_drop]
  simp [number]

/-- A copy of a reader in a block of its own. -/
theorem Rd.copy {w : World} {q : Nat} {v : Value} {bs : List UInt8} {a : Nat} (h : Rd w q v bs a) : Rd (w.alloc (.cells #[v, .int .i64 (a : Int)] 70)) w.heap.size v bs a := by
  obtain ⟨-, hO, ha, -⟩ := h
  exact ⟨Blk.new _ _ _, hO.alloc _, ha, fun e => by have := hO.lt _ e; omega⟩

/-- How many bits 0 come first, and the error. -/
def ahead (d : List Bool) : Nat × Int := if 32 ≤ zeros d then (0, 21) else if zeros d < d.length then (zeros d, 0) else (0, 11)

/-- Of a reader's value the bits 0 that come next. -/
theorem noughts_any (q0 : Nat) (v : Value) (bs : List UInt8) (a : Nat) (w : World) (h : Rd w q0 v bs a) (hl : bs.length ≤ 1000000000000) :
    Calls Try.prog 37 #[.agg #[v, .int .i64 (a : Int)]] w fun e w' =>
      e = .returned (.tuple #[.int .i64 ((ahead ((rowOf bs).drop a)).1 : Int), .int .i64 (ahead ((rowOf bs).drop a)).2]) ∧ Fr [] w w' := by
  have hR := h.copy
  have ha := h.2.2.1
  obtain ⟨A, c, rfl⟩ := h.slice
  clear h
  obtain ⟨d, hd⟩ : ∃ d, d = (rowOf bs).drop a := ⟨_, rfl⟩
  have hdl : d.length = 8 * bs.length - a := by rw [hd]; simp
  rw [← hd]
  have Hd := Lib.hid hd; clear hd
  have Hdl := Lib.hid hdl; clear hdl
  have HR := Lib.hid hR; clear hR
  go_enter Try.func37, Try.ntmps37
  go_wp2_with fail
  go_loopw [7] (fun s7 wr => ∃ n : Nat, n ≤ 32 ∧ s7 = .int .i64 (n : Int) ∧ n ≤ zeros d ∧ Rd wr w.heap.size (.slice A bs.length c) bs (a + n) ∧ Fr [] w wr) (fun s7 _ => 32 - (intOf s7).toNat)
  case atStart => exact ⟨0, by omega, rfl, by omega, HR.out, (Fr.refl _ _).alloc _⟩
  case round =>
    obtain ⟨n, hn, rfl, hz, hR, hF⟩ := hrel
    by_cases hn2 : n < 32
    · by_cases hlt : n < d.length
      · have hnl : a + n + 1 ≤ 8 * bs.length := by have := Hdl.out; omega
        have HG := Lib.hid (get_ok w.heap.size _ bs (a + n) 1 wr hR hl (by omega) hnl)
        obtain ⟨b, hb⟩ : ∃ b, b = d.getD n false := ⟨_, rfl⟩
        have hnum : number (((rowOf bs).drop (a + n)).take 1) = b.toNat := by
          rw [number_one _ _ (by simp; omega), ← getD_drop, ← Hd.out, hb]
        rw [hnum] at HG
        clear hnum hR
        have hzl := Lib.hid (zeros_le d)
        cases b
        · have hz1 : n + 1 ≤ zeros d := by
            refine le_zeros d (n + 1) (by omega) fun k hk => ?_
            rcases Nat.lt_or_ge k n with h | h
            · exact zeros_at d k (by omega)
            · obtain rfl : k = n := by omega
              exact hb.symm
          clear hb
          go_wp2_with fail
          refine HG.out.mono ?_
          rintro e w2 ⟨rfl, hR2, hF2⟩
          have HR2 := Lib.hid hR2; clear hR2
          go_wp2_with fail
          go_roundw
          case rel => exact ⟨n + 1, by omega, by go_num, hz1, HR2.out, hF.trans hF2 (by simp)⟩
          case measure => simp [intOf]; omega
        · have hz1 : zeros d = n := zeros_eq d n (fun k hk => zeros_at d k (by omega)) hb.symm
          clear hb
          have HZ := Lib.hid hz1; clear hz1 hz
          go_wp2_with fail
          refine HG.out.mono ?_
          rintro e w2 ⟨rfl, hR2, hF2⟩
          clear hR2
          go_wp2_with fail
          go_ret2
          refine ⟨?_, hF.trans hF2 (by simp)⟩
          rw [show ahead d = (n, 0) by unfold ahead; rw [HZ.out, if_neg (by omega), if_pos hlt]]
          rfl
      · have hzl := zeros_le d
        have hz1 : zeros d = n := by omega
        have hnl : 8 * bs.length < a + n + 1 := by have := Hdl.out; omega
        have HG := Lib.hid (get_short w.heap.size _ bs (a + n) 1 wr hR hl (by omega) hnl)
        have HZ := Lib.hid hz1
        clear hR hzl hz hz1
        go_wp2_with fail
        refine HG.out.mono ?_
        rintro e w2 ⟨rfl, rfl⟩
        go_wp2_with fail
        go_ret2
        refine ⟨?_, hF.drew⟩
        rw [show ahead d = (0, 11) by unfold ahead; rw [HZ.out, if_neg (by omega), if_neg hlt]]
        rfl
    · obtain rfl : n = 32 := by omega
      clear hR
      go_wp2_with fail
      go_ret2
      refine ⟨?_, hF⟩
      rw [show ahead d = (0, 21) by unfold ahead; rw [if_pos hz]]
      rfl

theorem gget_nil (w : World) :
    Calls Try.prog 27 #[.pointer none] w fun e w' => e = .returned (.tuple #[.int .u64 0, .int .i64 1]) ∧ w' = w := by
  go_enter Try.func27, Try.ntmps27
  go_wp2_with fail
  go_ret2
  exact ⟨rfl, rfl⟩

theorem ggetS_nil (w : World) :
    Calls Try.prog 25 #[.pointer none] w fun e w' => e = .returned (.tuple #[.int .i64 0, .int .i64 1]) ∧ w' = w := by
  go_enter Try.func25, Try.ntmps25
  go_wp2_with fail
  refine (gget_nil _).mono ?_
  rintro e w' ⟨rfl, rfl⟩
  go_wp2_with fail
  go_ret2
  exact ⟨rfl, rfl⟩

/-- A get that finds no code: the reader is where it was. -/
theorem gget_fails (q : Nat) (v : Value) (bs : List UInt8) (a : Nat) (w : World) (h : Rd w q v bs a) (hl : bs.length ≤ 1000000000000) (E : Int) (hE : E ≠ 0) (h2 : (ahead ((rowOf bs).drop a)).2 = E) :
    Calls Try.prog 27 #[.pointer (some ⟨q, 0, none⟩)] w fun e w' => e = .returned (.tuple #[.int .u64 0, .int .i64 E]) ∧ Fr [] w w' := by
  have HN := Lib.hid (noughts_any q v bs a w h hl)
  rw [h2] at HN
  have c0 := h.1.cell 0
  have c1 := h.1.cell 1
  have cz := h.lt
  simp at c0 c1
  have e0 : (E != 0) = true := by simpa using hE
  clear h h2
  go_enter Try.func27, Try.ntmps27
  go_wp2_with fail
  refine HN.out.mono ?_
  rintro e w2 ⟨rfl, hF⟩
  go_wp2_with fail
  go_ret2
  exact ⟨rfl, hF⟩

theorem gget_total (q : Nat) (v : Value) (bs : List UInt8) (a : Nat) (w : World) (h : Rd w q v bs a) (hl : bs.length ≤ 1000000000000) :
    Calls Try.prog 27 #[.pointer (some ⟨q, 0, none⟩)] w fun e w' =>
      e = .returned (.tuple #[.int .u64 ((gget (rowOf bs) a).1 : Int), .int .i64 (gget (rowOf bs) a).2.1]) ∧ Rd w' q v bs (gget (rowOf bs) a).2.2 ∧ Fr [q] w w' := by
  have ha := h.2.2.1
  obtain ⟨d, hd⟩ : ∃ d, d = (rowOf bs).drop a := ⟨_, rfl⟩
  have hdl : d.length = 8 * bs.length - a := by rw [hd]; simp
  have hz := zeros_le d
  by_cases h32 : 32 ≤ zeros d
  · have e1 : gget (rowOf bs) a = (0, 21, a) := by unfold gget; rw [← hd, if_pos h32]
    rw [e1]
    exact (gget_fails q v bs a w h hl 21 (by omega) (by unfold ahead; rw [← hd, if_pos h32])).mono fun e w' ⟨he, hw⟩ => ⟨he, h.fr hw (by simp) (by simp), hw.mono (by simp)⟩
  by_cases hz1 : zeros d < d.length
  · have e2 : ahead ((rowOf bs).drop a) = (zeros d, 0) := by unfold ahead; rw [← hd, if_neg h32, if_pos hz1]
    have HN := Lib.hid (noughts_any q v bs a w h hl)
    rw [e2] at HN
    have HW := fun w => Lib.hid (codeWidth_any (zeros d) w (by omega))
    have c0 := h.1.cell 0
    have c1 := h.1.cell 1
    have cz := h.lt
    simp at c0 c1
    have Hh := Lib.hid h; clear h
    have Hd := Lib.hid hd; clear hd
    obtain ⟨z, hzz⟩ : ∃ z, z = zeros d := ⟨_, rfl⟩
    rw [← hzz] at HN HW h32 hz1 hz
    by_cases hlen : a + (2 * z + 1) ≤ 8 * bs.length
    · obtain ⟨N, hN⟩ : ∃ N, N = number (((rowOf bs).drop a).take (2 * z + 1)) := ⟨_, rfl⟩
      have e1 : gget (rowOf bs) a = (N - 1, 0, a + (2 * z + 1)) := by
        unfold gget
        rw [← Hd.out, ← hzz, if_neg h32, if_neg (by rw [rowOf_length]; omega), Hd.out, hN]
      rw [e1]
      have hb := got_bounds d z hzz.symm (by omega)
      rw [Hd.out, ← hN] at hb
      have hb2 : 2 ^ (z + 1) ≤ 2 ^ 32 := Nat.pow_le_pow_right (by omega) (by omega)
      have n1 : 1 ≤ N := hb.1
      have n2 : N < 4294967296 := by omega
      clear hb hb2 e1
      have HNn := Lib.hid hN; clear hN
      have Hzz := Lib.hid hzz; clear hzz
      go_enter Try.func27, Try.ntmps27
      go_wp2_with fail
      refine HN.out.mono ?_
      rintro e w2 ⟨rfl, hF⟩
      have HG := Lib.hid (get_ok q v bs a (2 * z + 1) w2 (Hh.out.fr hF (by simp) (by simp)) hl (by omega) (by omega))
      rw [← HNn.out] at HG
      go_wp2_with fail
      refine (HW _).out.mono ?_
      rintro e w3 ⟨rfl, rfl⟩
      go_wp2_with fail
      refine HG.out.mono ?_
      rintro e w4 ⟨rfl, hR, hF2⟩
      have HR := Lib.hid hR; clear hR
      go_wp2_with fail
      go_ret2
      refine ⟨?_, HR.out, (hF.mono (by simp)).trans hF2 (by simp)⟩
      show Ending.returned (.tuple #[.int .u64 ((N : Int) - 1), .int .i64 0]) = _
      rw [show (N : Int) - 1 = ((N - 1 : Nat) : Int) by omega]
    · have e1 : gget (rowOf bs) a = (0, 11, a) := by
        unfold gget
        rw [← Hd.out, ← hzz, if_neg h32, if_pos (by rw [rowOf_length]; omega)]
      rw [e1]
      clear e1
      have Hzz := Lib.hid hzz; clear hzz
      go_enter Try.func27, Try.ntmps27
      go_wp2_with fail
      refine HN.out.mono ?_
      rintro e w2 ⟨rfl, hF⟩
      have HG := Lib.hid (get_short q v bs a (2 * z + 1) w2 (Hh.out.fr hF (by simp) (by simp)) hl (by omega) (by omega))
      go_wp2_with fail
      refine (HW _).out.mono ?_
      rintro e w3 ⟨rfl, rfl⟩
      go_wp2_with fail
      refine HG.out.mono ?_
      rintro e w4 ⟨rfl, rfl⟩
      go_wp2_with fail
      go_ret2
      exact ⟨rfl, Hh.out.fr (hF.drew) (by simp) (by simp), hF.drew.mono (by simp)⟩
  · have e1 : gget (rowOf bs) a = (0, 11, a) := by unfold gget; rw [← hd, if_neg h32, if_pos (by rw [rowOf_length]; omega)]
    rw [e1]
    exact (gget_fails q v bs a w h hl 11 (by omega) (by unfold ahead; rw [← hd, if_neg h32, if_neg hz1])).mono fun e w' ⟨he, hw⟩ => ⟨he, h.fr hw (by simp) (by simp), hw.mono (by simp)⟩

/-- What a get of a number with a sign answers, the error, and where the reader is behind it. -/
def ggetS (l : List Bool) (i : Nat) : Int × Int × Nat := if (gget l i).2.1 = 0 then (unfolded (gget l i).1, 0, (gget l i).2.2) else (0, (gget l i).2.1, (gget l i).2.2)

theorem ggetS_total (q : Nat) (v : Value) (bs : List UInt8) (a : Nat) (w : World) (h : Rd w q v bs a) (hl : bs.length ≤ 1000000000000) :
    Calls Try.prog 25 #[.pointer (some ⟨q, 0, none⟩)] w fun e w' =>
      e = .returned (.tuple #[.int .i64 (ggetS (rowOf bs) a).1, .int .i64 (ggetS (rowOf bs) a).2.1]) ∧ Rd w' q v bs (ggetS (rowOf bs) a).2.2 ∧ Fr [q] w w' := by
  have HG := Lib.hid (gget_total q v bs a w h hl)
  have hn := gget_num (rowOf bs) a
  unfold ggetS
  generalize gget (rowOf bs) a = g at HG hn ⊢
  obtain ⟨x, E, i⟩ := g
  simp only at HG hn ⊢
  clear h
  by_cases hE : E = 0
  · subst hE
    have HU := fun w => Lib.hid (gunfold_any x w hn)
    rw [if_pos rfl]
    go_enter Try.func25, Try.ntmps25
    go_wp2_with fail
    refine HG.out.mono ?_
    rintro e w2 ⟨rfl, hh⟩
    have HH := Lib.hid hh; clear hh
    go_wp2_with fail
    refine (HU _).out.mono ?_
    rintro e w3 ⟨rfl, rfl⟩
    go_wp2_with fail
    go_ret2
    exact ⟨rfl, HH.out⟩
  · rw [if_neg hE]
    have e0 : (E != 0) = true := by simpa using hE
    go_enter Try.func25, Try.ntmps25
    go_wp2_with fail
    refine HG.out.mono ?_
    rintro e w2 ⟨rfl, hh⟩
    have HH := Lib.hid hh; clear hh
    go_wp2_with fail
    go_ret2
    exact ⟨rfl, HH.out⟩
end Go.Proofs.Ytpdmjgcheigooaa
