/-
  The law BitsPieces answers true whatever its input, and leaves its arguments as they were; no condition.
-/
import Derived.Test.YtgdfjoionaedgaaBits8
import Derived.Test.YtgdfjoionaedgaaStr
import Derived.Test.YtgdfjoionaedgaaLaw
import Derived.Deep.DeepCutAuto
import Derived.Test.YtgdfjoionaedgaaRegion
namespace Go.Proofs.Ytgdfjoionaedgaa
open Go.RowKit

/-- The law's first test: its input is none of those that it speaks of. -/
def piecesOut (n : Nat) (a n0 n1 : Int) : Prop := 300 < n ∨ a < 0 ∨ n0 < 0 ∨ n1 < 0 ∨ 64 < n0 ∨ 64 - n0 < n1 ∨ 8 * (n : Int) - n0 - n1 < a

set_option maxRecDepth 100000 in
theorem pieces_out (Ab : Option Addr) (n cb : Nat) (a n0 n1 : Int) (w : World) (hn : n ≤ 9223372036854775807) (hout : piecesOut n a n0 n1) :
    Calls Try.prog 6 #[.slice Ab n cb, .int .i64 a, .agg #[.int .i64 n0, .int .i64 n1]] w fun e w' => e = .returned (.bool true) ∧ Fr [] w w' := by
  unfold piecesOut at hout
  by_cases h1 : 300 < n
  · have e1 : decide ((300 : Int) < (n : Int)) = true := by simp; omega
    clear hout
    go_enter Try.func6, Try.ntmps6
    go_wp2_with fail
    refine (alive_any _).mono ?_
    rintro e w3 ⟨rfl, hF3⟩
    go_wp2_with fail
    go_ret
    exact ⟨rfl, ((Fr.refl [] w).alloc _).trans hF3 (by simp)⟩
  have e1 : decide ((300 : Int) < (n : Int)) = false := by simp; omega
  by_cases h2 : a < 0
  · have e2 : decide (a < 0) = true := by simpa using h2
    clear hout
    go_enter Try.func6, Try.ntmps6
    go_wp2_with fail
    refine (alive_any _).mono ?_
    rintro e w3 ⟨rfl, hF3⟩
    go_wp2_with fail
    go_ret
    exact ⟨rfl, ((Fr.refl [] w).alloc _).trans hF3 (by simp)⟩
  have e2 : decide (a < 0) = false := by simpa using h2
  by_cases h3 : n0 < 0
  · have e3 : decide (n0 < 0) = true := by simpa using h3
    clear hout
    go_enter Try.func6, Try.ntmps6
    go_wp2_with fail
    refine (alive_any _).mono ?_
    rintro e w3 ⟨rfl, hF3⟩
    go_wp2_with fail
    go_ret
    exact ⟨rfl, ((Fr.refl [] w).alloc _).trans hF3 (by simp)⟩
  have e3 : decide (n0 < 0) = false := by simpa using h3
  by_cases h4 : n1 < 0
  · have e4 : decide (n1 < 0) = true := by simpa using h4
    clear hout
    go_enter Try.func6, Try.ntmps6
    go_wp2_with fail
    refine (alive_any _).mono ?_
    rintro e w3 ⟨rfl, hF3⟩
    go_wp2_with fail
    go_ret
    exact ⟨rfl, ((Fr.refl [] w).alloc _).trans hF3 (by simp)⟩
  have e4 : decide (n1 < 0) = false := by simpa using h4
  by_cases h5 : 64 < n0
  · have e5 : decide (64 < n0) = true := by simpa using h5
    clear hout
    go_enter Try.func6, Try.ntmps6
    go_wp2_with fail
    refine (alive_any _).mono ?_
    rintro e w3 ⟨rfl, hF3⟩
    go_wp2_with fail
    go_ret
    exact ⟨rfl, ((Fr.refl [] w).alloc _).trans hF3 (by simp)⟩
  have e5 : decide (64 < n0) = false := by simp; omega
  by_cases h6 : 64 - n0 < n1
  · have e6 : decide (64 - n0 < n1) = true := by simpa using h6
    clear hout
    go_enter Try.func6, Try.ntmps6
    go_wp2_with fail
    refine (alive_any _).mono ?_
    rintro e w3 ⟨rfl, hF3⟩
    go_wp2_with fail
    go_ret
    exact ⟨rfl, ((Fr.refl [] w).alloc _).trans hF3 (by simp)⟩
  have e6 : decide (64 - n0 < n1) = false := by simp; omega
  have h7 : 8 * (n : Int) - n0 - n1 < a := by omega
  have e7 : decide (8 * (n : Int) - n0 - n1 < a) = true := by simpa using h7
  clear hout
  go_enter Try.func6, Try.ntmps6
  go_wp2_with fail
  refine (alive_any _).mono ?_
  rintro e w3 ⟨rfl, hF3⟩
  go_wp2_with fail
  go_ret
  exact ⟨rfl, ((Fr.refl [] w).alloc _).trans hF3 (by simp)⟩

/-- A number of some bits is what comes of its first ones and its last ones. -/
theorem pieces_number (D : List Bool) (n0 n1 : Nat) (h : n0 + n1 ≤ D.length) : number (D.take (n0 + n1)) = number (D.take n0) * 2 ^ n1 + number ((D.drop n0).take n1) := by
  rw [take_add', number_app]
  congr 3
  simp; omega

theorem pieces_digits (D : List Bool) (n0 n1 : Nat) (h : n0 + n1 ≤ D.length) :
    digits (number (D.take (n0 + n1))) (n0 + n1) = digits (number (D.take n0)) n0 ++ digits (number ((D.drop n0).take n1)) n1 := by
  have e1 := digits_number (D.take (n0 + n1))
  have e2 := digits_number (D.take n0)
  have e3 := digits_number ((D.drop n0).take n1)
  rw [show (D.take (n0 + n1)).length = n0 + n1 by simp; omega] at e1
  rw [show (D.take n0).length = n0 by simp; omega] at e2
  rw [show ((D.drop n0).take n1).length = n1 by simp; omega] at e3
  rw [e1, e2, e3, take_add']

/-- Two readers of the same bytes; they lie apart, in memory that is new since w0; and the two widths, in a block of their own. -/
structure Twin (w0 w : World) (x : Nat) (c0 c1 : Value) (p : Nat) (v : Value) (q : Nat) (u : Value) (bs : List UInt8) (i j : Nat) : Prop where
  a : Rd w p v bs i
  b : Rd w q u bs j
  sep : Sep p v q u
  np : w0.heap.size ≤ p
  nq : w0.heap.size ≤ q
  xp : x ≠ p
  xq : x ≠ q
  arr : Blk w x 49 #[c0, c1]
  fr : Fr [] w0 w

section
variable {w0 w w' : World} {x p q : Nat} {c0 c1 v u : Value} {bs : List UInt8} {i j i2 : Nat}
theorem one_away {p q : Nat} {v u : Value} (h : Sep p v q u) : q ∉ [p] ∧ ∀ k, u.ownBlock = some k → k ∉ [p] := by
  refine ⟨by simp; exact h.1.symm, fun k hk hm => ?_⟩
  simp at hm; subst hm; exact h.2.1 hk
theorem Twin.fr0 (h : Twin w0 w x c0 c1 p v q u bs i j) (hf : Fr [] w w') : Twin w0 w' x c0 c1 p v q u bs i j :=
  ⟨h.a.fr hf (by simp) (by simp), h.b.fr hf (by simp) (by simp), h.sep, h.np, h.nq, h.xp, h.xq, h.arr.fr hf (by simp), h.fr.trans hf (by simp)⟩
theorem Twin.stepA (h : Twin w0 w x c0 c1 p v q u bs i j) (hf : Fr [p] w w') (hA : Rd w' p v bs i2) : Twin w0 w' x c0 c1 p v q u bs i2 j :=
  ⟨hA, h.b.fr hf (one_away h.sep).1 (one_away h.sep).2, h.sep, h.np, h.nq, h.xp, h.xq, h.arr.fr hf (by simpa using h.xp), h.fr.trans hf (by intro y hy; simp at hy; subst hy; exact .inr h.np)⟩
theorem Twin.stepB (h : Twin w0 w x c0 c1 p v q u bs i j) (hf : Fr [q] w w') (hB : Rd w' q u bs i2) : Twin w0 w' x c0 c1 p v q u bs i i2 :=
  ⟨h.a.fr hf (one_away h.sep.symm).1 (one_away h.sep.symm).2, hB, h.sep, h.np, h.nq, h.xp, h.xq, h.arr.fr hf (by simpa using h.xq), h.fr.trans hf (by intro y hy; simp at hy; subst hy; exact .inr h.nq)⟩
end

/-- Two writers, apart, in memory that is new since wB. -/
structure Pens (wB w : World) (p : Nat) (v : Value) (L : List Bool) (q : Nat) (u : Value) (M : List Bool) : Prop where
  a : Wr w p v L
  b : Wr w q u M
  sep : Sep p v q u
  na : NewSince wB p v
  nb : NewSince wB q u
  fr : Fr [] wB w
section
variable {wB w w' : World} {p q : Nat} {v u v2 u2 : Value} {L M L2 : List Bool}
theorem Pens.stepA (h : Pens wB w p v L q u M) (g : WFr p v v2 w w') (hA : Wr w' p v2 L2) : Pens wB w' p v2 L2 q u M := by
  obtain ⟨f, ns⟩ := g.since h.fr h.na
  exact ⟨hA, h.b.fr g.1 h.sep.out.1 h.sep.out.2, h.sep.step g h.b.lt h.b.lt2, ns, h.nb, f⟩
theorem Pens.stepB (h : Pens wB w p v L q u M) (g : WFr q u u2 w w') (hB : Wr w' q u2 L2) : Pens wB w' p v L q u2 L2 := by
  obtain ⟨f, ns⟩ := g.since h.fr h.nb
  exact ⟨h.a.fr g.1 h.sep.symm.out.1 h.sep.symm.out.2, hB, (h.sep.symm.step g h.a.lt h.a.lt2).symm, h.na, ns, f⟩
theorem Pens.fr0 (h : Pens wB w p v L q u M) (hf : Fr [] w w') : Pens wB w' p v L q u M :=
  ⟨h.a.fr hf (by simp) (by simp), h.b.fr hf (by simp) (by simp), h.sep, h.na, h.nb, h.fr.trans hf (by simp)⟩
end

/-- Both, and all that they left alone. -/
def Both (w wB W : World) (x : Nat) (c0 c1 : Value) (p : Nat) (v : Value) (q : Nat) (u : Value) (bs : List UInt8) (K : Nat) (p2 : Nat) (v2 : Value) (q2 : Nat) (u2 : Value) (L : List Bool) : Prop :=
  Twin w W x c0 c1 p v q u bs K K ∧ Pens wB W p2 v2 L q2 u2 L
theorem Both.fr0 {w wB W W' : World} {x : Nat} {c0 c1 : Value} {p : Nat} {v : Value} {q : Nat} {u : Value} {bs : List UInt8} {K : Nat} {p2 : Nat} {v2 : Value} {q2 : Nat} {u2 : Value} {L : List Bool}
    (h : Both w wB W x c0 c1 p v q u bs K p2 v2 q2 u2 L) (hf : Fr [] W W') : Both w wB W' x c0 c1 p v q u bs K p2 v2 q2 u2 L := ⟨h.1.fr0 hf, h.2.fr0 hf⟩

theorem bytes_known (w : World) (p : Nat) (v : Value) (L : List Bool) (bp : List UInt8) (hp : PackOf bp L) (h : Wr w p v L) (hL : L.length ≤ 1000000000000) :
    Calls Try.prog 15 #[.pointer (some ⟨p, 0, none⟩)] w fun e w' => NewRow w bp e w' :=
  (bytes_row w p v L h hL).mono fun _ _ ⟨_, h1, h2⟩ => h1.unique hp ▸ h2
theorem wlen_known (w : World) (p : Nat) (v : Value) (L : List Bool) (k : Nat) (hk : L.length = k) (h : Wr w p v L) :
    Calls Try.prog 14 #[.pointer (some ⟨p, 0, none⟩)] w fun e w' => e = .returned (.int .i64 (k : Int)) ∧ w' = w := hk ▸ wlen_any w p v L h

attribute [local go_sem ↓] cv_rule

set_option maxRecDepth 100000 in
set_option maxHeartbeats 4000000 in
theorem pieces_in (Ab : Option Addr) (n cb a n0 n1 : Nat) (bs : List UInt8) (w : World) (hb : Src w (.slice Ab n cb) (bs.map B8)) (hn : bs.length = n) (h300 : n ≤ 300) (h0 : n0 + n1 ≤ 64) (ha : a + n0 + n1 ≤ 8 * n) :
    Calls Try.prog 6 #[.slice Ab n cb, .int .i64 (a : Int), .agg #[.int .i64 (n0 : Int), .int .i64 (n1 : Int)]] w fun e w' => e = .returned (.bool true) ∧ Fr [] w w' := by
  have Hn := Lib.hid hn; clear hn
  have HS := Lib.hid hb; clear hb
  have e1 : decide ((300 : Int) < (n : Int)) = false := by simp; omega
  have e2 : decide ((a : Int) < 0) = false := by simp
  have e3 : decide ((n0 : Int) < 0) = false := by simp
  have e4 : decide ((n1 : Int) < 0) = false := by simp
  have e5 : decide ((64 : Int) < (n0 : Int)) = false := by simp; omega
  have e6 : decide ((64 : Int) - (n0 : Int) < (n1 : Int)) = false := by simp; omega
  have e7 : decide (8 * (n : Int) - (n0 : Int) - (n1 : Int) < (a : Int)) = false := by simp; omega
  go_enter Try.func6, Try.ntmps6
  go_wp2_with fail
  clear e1 e2 e3 e4 e5 e6 e7
  have hA0 : Blk (w.alloc (.cells #[.int .i64 (n0 : Int), .int .i64 (n1 : Int)] 49)) w.heap.size 49 #[.int .i64 (n0 : Int), .int .i64 (n1 : Int)] := Blk.new w _ _
  have hF0 : Fr [] w (w.alloc (.cells #[.int .i64 (n0 : Int), .int .i64 (n1 : Int)] 49)) := (Fr.refl _ _).alloc _
  obtain ⟨x, hx⟩ : ∃ x, x = w.heap.size := ⟨_, rfl⟩
  obtain ⟨wa, hwa⟩ : ∃ wa, wa = w.alloc (.cells #[.int .i64 (n0 : Int), .int .i64 (n1 : Int)] 49) := ⟨_, rfl⟩
  rw [← hwa] at hA0 hF0 ⊢
  rw [← hx] at hA0 ⊢
  clear hwa
  refine (open_any _ bs wa (HS.out.fr0 hF0) (by rw [Hn.out]; omega)).mono ?_
  rintro e wb ⟨p, v, rfl, hR1, hF1, hp1, hv1⟩
  have HR1 := Lib.hid hR1; clear hR1
  have Hv1 := Lib.hid hv1; clear hv1
  go_wp2_with fail
  refine (open_any _ bs wb (HS.out.fr0 (hF0.trans hF1 (by simp))) (by rw [Hn.out]; omega)).mono ?_
  rintro e wc ⟨q, u, rfl, hR2, hF2, hp2, hv2⟩
  have hT0 : Twin w wc x (.int .i64 (n0 : Int)) (.int .i64 (n1 : Int)) p v q u bs 0 0 := by
    have l1 := HR1.out.lt
    have l2 := HR1.out.lt2
    have l3 := hF0.size
    have l4 := hF1.size
    have l5 := hA0.lt
    refine ⟨HR1.out.fr hF2 (by simp) (by simp), hR2, ⟨by omega, ?_, ?_, ?_⟩, by omega, by omega, by omega, by omega, (hA0.fr hF1 (by simp)).fr hF2 (by simp), (hF0.trans hF1 (by simp)).trans hF2 (by simp)⟩
    · intro e; have := hv2 _ e; omega
    · intro e; have := l2 _ e; omega
    · intro k e1 e2; have := l2 _ e1; have := hv2 _ e2; omega
  have HT0 := Lib.hid hT0
  clear hT0 hR2 hF1 hF2 hp1 hp2 hv2 HR1 Hv1 hA0 hF0
  subst hx
  go_wp2_with fail
  go_loopw [9] (fun s9 wr => ∃ i : Nat, i ≤ a ∧ s9 = .int .i64 (i : Int) ∧ Twin w wr w.heap.size (.int .i64 (n0 : Int)) (.int .i64 (n1 : Int)) p v q u bs i i) (fun s9 _ => a - (intOf s9).toNat)
  case atStart => exact ⟨0, Nat.zero_le _, rfl, HT0.out⟩
  case round =>
    obtain ⟨i, hi, rfl, hT⟩ := hrel
    have HT := Lib.hid hT; clear hT
    by_cases hlt : i < a
    · go_wp2_with fail
      refine (get_ok p v bs i 1 _ HT.out.a (by rw [Hn.out]; omega) (by omega) (by rw [Hn.out]; omega)).mono ?_
      rintro e wA ⟨rfl, hA, fA⟩
      have HT1 := Lib.hid (HT.out.stepA fA hA)
      clear hA fA
      go_wp2_with fail
      refine (get_ok q u bs i 1 _ HT1.out.b (by rw [Hn.out]; omega) (by omega) (by rw [Hn.out]; omega)).mono ?_
      rintro e wB ⟨rfl, hB, fB⟩
      have HT2 := Lib.hid (HT1.out.stepB fB hB)
      clear hB fB HT HT1
      go_wp2_with fail
      go_roundw
      case rel => exact ⟨i + 1, by omega, by go_num, HT2.out⟩
      case measure => simp [intOf]; omega
    · obtain rfl : i = a := by omega
      have c0 := HT.out.arr.cell 0
      have c1 := HT.out.arr.cell 1
      simp at c0 c1
      clear hlt hi HT0
      have hbl : 8 * bs.length = 8 * n := by rw [Hn.out]
      obtain ⟨D, hD⟩ : ∃ D, D = (rowOf bs).drop i := ⟨_, rfl⟩
      have hDl : n0 + n1 ≤ D.length := by rw [hD, List.length_drop, rowOf_length]; omega
      obtain ⟨X, hX⟩ : ∃ X, X = number (D.take (n0 + n1)) := ⟨_, rfl⟩
      obtain ⟨Y, hY⟩ : ∃ Y, Y = number (D.take n0) := ⟨_, rfl⟩
      obtain ⟨Z, hZ⟩ : ∃ Z, Z = number ((D.drop n0).take n1) := ⟨_, rfl⟩
      have eXYZ : X = Y * 2 ^ n1 + Z := by rw [hX, hY, hZ]; exact pieces_number D n0 n1 hDl
      have eDig : digits X (n0 + n1) = digits Y n0 ++ digits Z n1 := by rw [hX, hY, hZ]; exact pieces_digits D n0 n1 hDl
      have lX : X < 2 ^ (n0 + n1) := by
        have h1 := number_lt (D.take (n0 + n1))
        rwa [← hX, show (D.take (n0 + n1)).length = n0 + n1 by simp; omega] at h1
      have lY : Y < 2 ^ n0 := by
        have h1 := number_lt (D.take n0)
        rwa [← hY, show (D.take n0).length = n0 by simp; omega] at h1
      have lZ : Z < 2 ^ n1 := by
        have h1 := number_lt ((D.drop n0).take n1)
        rwa [← hZ, show ((D.drop n0).take n1).length = n1 by simp; omega] at h1
      have HX := Lib.hid hX; clear hX
      have HY := Lib.hid hY; clear hY
      have HZ := Lib.hid hZ; clear hZ
      have HD := Lib.hid hD; clear hD
      have HXYZ := Lib.hid eXYZ; clear eXYZ
      have HDig := Lib.hid eDig; clear eDig
      go_wp2_with fail
      have g1 : Calls Try.prog 20 #[.pointer (some ⟨p, 0, none⟩), .int .i64 ((n0 : Int) + (n1 : Int))] wr fun e w' =>
          e = .returned (.tuple #[.int .u64 (X : Int), .int .i64 0]) ∧ Rd w' p v bs (i + (n0 + n1)) ∧ Fr [p] wr w' := by
        rw [← Int.natCast_add, HX.out, HD.out]
        exact get_ok p v bs i (n0 + n1) wr HT.out.a (by rw [Hn.out]; omega) h0 (by omega)
      refine g1.mono ?_
      rintro e wA ⟨rfl, hA, fA⟩
      have HT1 := Lib.hid (HT.out.stepA fA hA)
      clear hA fA g1 c0 c1
      have c0 := HT1.out.arr.cell 0
      have c1 := HT1.out.arr.cell 1
      simp at c0 c1
      go_wp2_with fail
      have g1 : Calls Try.prog 20 #[.pointer (some ⟨q, 0, none⟩), .int .i64 (n0 : Int)] wA fun e w' =>
          e = .returned (.tuple #[.int .u64 (Y : Int), .int .i64 0]) ∧ Rd w' q u bs (i + n0) ∧ Fr [q] wA w' := by
        rw [HY.out, HD.out]
        exact get_ok q u bs i n0 wA HT1.out.b (by rw [Hn.out]; omega) (by omega) (by omega)
      refine g1.mono ?_
      rintro e wB ⟨rfl, hB, fB⟩
      have HT2 := Lib.hid (HT1.out.stepB fB hB)
      clear hB fB g1 c0 c1
      have c0 := HT2.out.arr.cell 0
      have c1 := HT2.out.arr.cell 1
      simp at c0 c1
      go_wp2_with fail
      have g1 : Calls Try.prog 20 #[.pointer (some ⟨q, 0, none⟩), .int .i64 (n1 : Int)] wB fun e w' =>
          e = .returned (.tuple #[.int .u64 (Z : Int), .int .i64 0]) ∧ Rd w' q u bs (i + n0 + n1) ∧ Fr [q] wB w' := by
        rw [HZ.out, HD.out, List.drop_drop]
        exact get_ok q u bs (i + n0) n1 wB HT2.out.b (by rw [Hn.out]; omega) (by omega) (by omega)
      refine g1.mono ?_
      rintro e wg ⟨rfl, hB, fB⟩
      have hT3 := HT2.out.stepB fB hB
      obtain ⟨ka, hK⟩ : ∃ ka, ka = i + (n0 + n1) := ⟨_, rfl⟩
      rw [show i + n0 + n1 = ka by omega, ← hK] at hT3
      have HT3 := Lib.hid hT3
      clear hB fB g1 c0 c1 hT3 hK HT HT1 HT2 HX HY HZ HD hDl
      go_wp2_with fail
      refine (new_any wg).mono ?_
      rintro e wh ⟨rfl, hwh⟩
      have hW1 : Wr wh wg.heap.size (.slice none 0 0) [] := by rw [hwh]; exact Wr.new wg
      have hF1 : Fr [] wg wh := by rw [hwh]; exact (Fr.refl _ _).alloc _
      clear hwh
      have HW1 := Lib.hid hW1; clear hW1
      go_wp2_with fail
      refine (new_any wh).mono ?_
      rintro e wk ⟨rfl, hwk⟩
      have hF2 : Fr [] wh wk := by rw [hwk]; exact (Fr.refl _ _).alloc _
      have hP0 : Pens wg wk wg.heap.size (.slice none 0 0) [] wh.heap.size (.slice none 0 0) [] := by
        have l1 := HW1.out.lt
        refine ⟨HW1.out.fr hF2 (by simp) (by simp), by rw [hwk]; exact Wr.new wh, ⟨by omega, by simp [Value.ownBlock], by simp [Value.ownBlock], by simp [Value.ownBlock]⟩, ⟨Nat.le_refl _, by simp [Value.ownBlock]⟩, ⟨by omega, by simp [Value.ownBlock]⟩, hF1.trans hF2 (by simp)⟩
      clear hwk
      obtain ⟨p2, hp2⟩ : ∃ p2, p2 = wg.heap.size := ⟨_, rfl⟩
      obtain ⟨q2, hq2⟩ : ∃ q2, q2 = wh.heap.size := ⟨_, rfl⟩
      rw [← hp2, ← hq2] at hP0
      rw [← hp2, ← hq2]
      have HP0 := Lib.hid hP0
      have hTk := HT3.out.fr0 hP0.fr
      have c0 := hTk.arr.cell 0
      have c1 := hTk.arr.cell 1
      simp at c0 c1
      clear hP0 hTk hp2 hq2 hF1 hF2 HW1
      go_wp2_with fail
      have g1 : Calls Try.prog 10 #[.pointer (some ⟨p2, 0, none⟩), .int .u64 (X : Int), .int .i64 ((n0 : Int) + (n1 : Int))] wk fun e w' =>
          e = .returned (.int .i64 0) ∧ ∃ v', Wr w' p2 v' ([] ++ digits X (n0 + n1)) ∧ WFr p2 (.slice none 0 0) v' wk w' := by
        rw [← Int.natCast_add]
        exact put_ok p2 _ [] X (n0 + n1) wk HP0.out.a h0 lX (by simp)
      refine g1.mono ?_
      rintro e wA ⟨rfl, v2, hA, fA⟩
      have HP1 := Lib.hid (HP0.out.stepA fA hA)
      clear hA fA g1 c0 c1 HP0
      have hTk := HT3.out.fr0 HP1.out.fr
      have c0 := hTk.arr.cell 0
      have c1 := hTk.arr.cell 1
      simp at c0 c1
      clear hTk
      go_wp2_with fail
      refine (put_ok q2 _ [] Y n0 wA HP1.out.b (by omega) lY (by simp)).mono ?_
      rintro e wB ⟨rfl, u2, hB, fB⟩
      have HP2 := Lib.hid (HP1.out.stepB fB hB)
      clear hB fB c0 c1 HP1
      have hTk := HT3.out.fr0 HP2.out.fr
      have c0 := hTk.arr.cell 0
      have c1 := hTk.arr.cell 1
      simp at c0 c1
      clear hTk
      go_wp2_with fail
      refine (put_ok q2 _ _ Z n1 wB HP2.out.b (by omega) lZ (by simp; omega)).mono ?_
      rintro e wC ⟨rfl, u3, hB, fB⟩
      have hP3 := HP2.out.stepB fB hB
      clear hB fB c0 c1 HP2
      rw [List.nil_append, List.nil_append, ← HDig.out] at hP3
      obtain ⟨L, hL⟩ : ∃ L, L = digits X (n0 + n1) := ⟨_, rfl⟩
      rw [← hL] at hP3
      have hLl : L.length = n0 + n1 := by rw [hL]; simp
      clear hL HDig
      have HBo : Hid (Both w wg wC w.heap.size (.int .i64 (n0 : Int)) (.int .i64 (n1 : Int)) p v q u bs ka p2 v2 q2 u3 L) := Lib.hid ⟨HT3.out.fr0 hP3.fr, hP3⟩
      clear hP3 HT3
      obtain ⟨bp, hbp⟩ : ∃ bp, PackOf bp L := by
        obtain ⟨bp, -, -, h, -⟩ := HBo.out.2.a
        exact ⟨bp, h⟩
      have HL := Lib.hid hLl; clear hLl
      have Hbp := Lib.hid hbp; clear hbp
      go_upto_region 18 with fail
      have kL : wC.cell? ⟨w.heap.size, 1, none⟩ = some (.int .i64 (n1 : Int)) := HBo.out.1.arr.cell 1
      have eC : IntKind.u64.wrap (n1 : Int) = (n1 : Int) := IntWalk.u64_in _ (by omega)
      have eS : IntKind.u64.wrap ((Y : Int) * 2 ^ n1) = (Y : Int) * 2 ^ n1 := (shl_or Y Z n1 n0 h0 lY lZ).1
      have eO : bits BinOp.or IntKind.u64 ((Y : Int) * 2 ^ n1) (Z : Int) = (X : Int) := by rw [(shl_or Y Z n1 n0 h0 lY lZ).2, ← HXYZ.out]
      have eX : ((X : Int) == (X : Int)) = true := by simp
      have eK : ((ka : Int) == (ka : Int)) = true := by simp
      obtain ⟨k, hk⟩ : ∃ k, L.length = k := ⟨_, rfl⟩
      have ek : ((k : Int) == (k : Int)) = true := by simp
      have hkk : k ≤ 64 := by have := HL.out; omega
      have Hk := Lib.hid hk; clear hk
      clear lX lY lZ hbl HXYZ HL
      have HB0 := Lib.hid (HBo.out.fr0 (Fr.refl [] wC).drew)
      have hfin0 : Fr [] w wC.drew := HB0.out.1.fr
      refine wp_region_held_drew (S := fun W => W.cell? ⟨w.heap.size, 1, none⟩ = some (.int .i64 (n1 : Int))) (by kernel_rfl) ?_ (fun hHeld => ?_)
      · (repeat' (first | trivial | assumption | refine ⟨?_, ?_⟩))
      refine wpAnyH_ready (rs := [0]) (by kernel_rfl) (by simp) ?_
      refine AllReadyH_pick rfl (fun K hK => ?_) (AllReadyH.nil)
      · go_simp
        refine (alive_any _).mono ?_
        rintro e wL ⟨rfl, fL⟩
        have hL := HB0.out.fr0 fL
        have kL1 : wL.cell? ⟨w.heap.size, 1, none⟩ = some (.int .i64 (n1 : Int)) := hL.1.arr.cell 1
        have HB1 := Lib.hid hL
        clear hL HB0
        go_wp2_with fail
        refine hK.out _ _ ?_ (fun hHeld => ?_)
        · (repeat' (first | trivial | assumption | refine ⟨?_, ?_⟩))
        clear hK K
        (try simp only [Act.put, List.setIfInBounds_toArray, List.set_cons_zero, List.set_cons_succ])
        refine wpAnyH_pick 1 (v := ?v1) rfl (by kernel_rfl) (by kernel_rfl) (by kernel_rfl) (fun _ _ _ h => h) (by assumption) (by rfl) ?hy1 ?rest1
        case hy1 => (intro w hSw; (try dsimp only at hSw); go_simp) <;> (with_reducible rfl)
        (try simp only [Act.put, List.setIfInBounds_toArray, List.set_cons_zero, List.set_cons_succ])
        refine wpAnyH_pick 2 (v := ?v2) rfl (by kernel_rfl) (by kernel_rfl) (by kernel_rfl) (fun _ _ _ h => h) (by assumption) (by rfl) ?hy2 ?rest2
        case hy2 => (intro w hSw; (try dsimp only at hSw); go_simp) <;> (with_reducible rfl)
        (try simp only [Act.put, List.setIfInBounds_toArray, List.set_cons_zero, List.set_cons_succ])
        refine wpAnyH_pick 3 (v := ?v3) rfl (by kernel_rfl) (by kernel_rfl) (by kernel_rfl) (fun _ _ _ h => h) (by assumption) (by rfl) ?hy3 ?rest3
        case hy3 => (intro w hSw; (try dsimp only at hSw); go_simp) <;> (with_reducible rfl)
        (try simp only [Act.put, List.setIfInBounds_toArray, List.set_cons_zero, List.set_cons_succ])
        refine wpAnyH_pick 4 (v := ?v4) rfl (by kernel_rfl) (by kernel_rfl) (by kernel_rfl) (fun _ _ _ h => h) (by assumption) (by rfl) ?hy4 ?rest4
        case hy4 => (intro w hSw; (try dsimp only at hSw); go_simp) <;> (with_reducible rfl)
        (try simp only [Act.put, List.setIfInBounds_toArray, List.set_cons_zero, List.set_cons_succ])
        refine wpAnyH_pick 5 (v := ?v5) rfl (by kernel_rfl) (by kernel_rfl) (by kernel_rfl) (fun _ _ _ h => h) (by assumption) (by rfl) ?hy5 ?rest5
        case hy5 => (intro w hSw; (try dsimp only at hSw); go_simp) <;> (with_reducible rfl)
        (try simp only [Act.put, List.setIfInBounds_toArray, List.set_cons_zero, List.set_cons_succ])
        refine wpAnyH_pick 6 (v := ?v6) rfl (by kernel_rfl) (by kernel_rfl) (by kernel_rfl) (fun _ _ _ h => h) (by assumption) (by rfl) ?hy6 ?rest6
        case hy6 => (intro w hSw; (try dsimp only at hSw); go_simp) <;> (with_reducible rfl)
        (try simp only [Act.put, List.setIfInBounds_toArray, List.set_cons_zero, List.set_cons_succ])
        refine wpAnyH_pick 7 (v := ?v7) rfl (by kernel_rfl) (by kernel_rfl) (by kernel_rfl) (fun _ _ _ h => h) (by assumption) (by rfl) ?hy7 ?rest7
        case hy7 => (intro w hSw; (try dsimp only at hSw); go_simp) <;> (with_reducible rfl)
        (try simp only [Act.put, List.setIfInBounds_toArray, List.set_cons_zero, List.set_cons_succ])
        refine wpAnyH_pick 8 (v := ?v8) rfl (by kernel_rfl) (by kernel_rfl) (by kernel_rfl) (fun _ _ _ h => h) (by assumption) (by rfl) ?hy8 ?rest8
        case hy8 => (intro w hSw; (try dsimp only at hSw); go_simp) <;> (with_reducible rfl)
        (try simp only [Act.put, List.setIfInBounds_toArray, List.set_cons_zero, List.set_cons_succ])
        refine wpAnyH_pick 9 (v := ?v9) rfl (by kernel_rfl) (by kernel_rfl) (by kernel_rfl) (fun _ _ _ h => h) (by assumption) (by rfl) ?hy9 ?rest9
        case hy9 => (intro w hSw; (try dsimp only at hSw); go_simp) <;> (with_reducible rfl)
        (try simp only [Act.put, List.setIfInBounds_toArray, List.set_cons_zero, List.set_cons_succ])
        refine wpAnyH_pick 10 (v := ?v10) rfl (by kernel_rfl) (by kernel_rfl) (by kernel_rfl) (fun _ _ _ h => h) (by assumption) (by rfl) ?hy10 ?rest10
        case hy10 => (intro w hSw; (try dsimp only at hSw); go_simp) <;> (with_reducible rfl)
        (try simp only [Act.put, List.setIfInBounds_toArray, List.set_cons_zero, List.set_cons_succ])
        refine wpAnyH_pick 11 (v := ?v11) rfl (by kernel_rfl) (by kernel_rfl) (by kernel_rfl) (fun _ _ _ h => h) (by assumption) (by rfl) ?hy11 ?rest11
        case hy11 => (intro w hSw; (try dsimp only at hSw); go_simp) <;> (with_reducible rfl)
        (try simp only [Act.put, List.setIfInBounds_toArray, List.set_cons_zero, List.set_cons_succ])
        refine wpAnyH_pick 12 (v := ?v12) rfl (by kernel_rfl) (by kernel_rfl) (by kernel_rfl) (fun _ _ _ h => h) (by assumption) (by rfl) ?hy12 ?rest12
        case hy12 => (intro w hSw; (try dsimp only at hSw); go_simp) <;> (with_reducible rfl)
        (try simp only [Act.put, List.setIfInBounds_toArray, List.set_cons_zero, List.set_cons_succ])
        refine wpAnyH_pick 13 (v := ?v13) rfl (by kernel_rfl) (by kernel_rfl) (by kernel_rfl) (fun _ _ _ h => h) (by assumption) (by rfl) ?hy13 ?rest13
        case hy13 => (intro w hSw; (try dsimp only at hSw); go_simp) <;> (with_reducible rfl)
        (try simp only [Act.put, List.setIfInBounds_toArray, List.set_cons_zero, List.set_cons_succ])
        refine wpAnyH_pick 14 (v := ?v14) rfl (by kernel_rfl) (by kernel_rfl) (by kernel_rfl) (fun _ _ _ h => h) (by assumption) (by rfl) ?hy14 ?rest14
        case hy14 => (intro w hSw; (try dsimp only at hSw); go_simp) <;> (with_reducible rfl)
        (try simp only [Act.put, List.setIfInBounds_toArray, List.set_cons_zero, List.set_cons_succ])
        refine wpAnyH_pick 15 (v := ?v15) rfl (by kernel_rfl) (by kernel_rfl) (by kernel_rfl) (fun _ _ _ h => h) (by assumption) (by rfl) ?hy15 ?rest15
        case hy15 => (intro w hSw; (try dsimp only at hSw); go_simp) <;> (with_reducible rfl)
        (try simp only [Act.put, List.setIfInBounds_toArray, List.set_cons_zero, List.set_cons_succ])
        refine wpAnyH_pick 16 (v := ?v16) rfl (by kernel_rfl) (by kernel_rfl) (by kernel_rfl) (fun _ _ _ h => h) (by assumption) (by rfl) ?hy16 ?rest16
        case hy16 => (intro w hSw; (try dsimp only at hSw); go_simp) <;> (with_reducible rfl)
        (try simp only [Act.put, List.setIfInBounds_toArray, List.set_cons_zero, List.set_cons_succ])
        refine wpAnyH_pick 17 (v := ?v17) rfl (by kernel_rfl) (by kernel_rfl) (by kernel_rfl) (fun _ _ _ h => h) (by assumption) (by rfl) ?hy17 ?rest17
        case hy17 => (intro w hSw; (try dsimp only at hSw); go_simp) <;> (with_reducible rfl)
        (try simp only [Act.put, List.setIfInBounds_toArray, List.set_cons_zero, List.set_cons_succ])
        refine wpAnyH_pick 18 (v := ?v18) rfl (by kernel_rfl) (by kernel_rfl) (by kernel_rfl) (fun _ _ _ h => h) (by assumption) (by rfl) ?hy18 ?rest18
        case hy18 => (intro w hSw; (try dsimp only at hSw); go_simp) <;> (with_reducible rfl)
        (try simp only [Act.put, List.setIfInBounds_toArray, List.set_cons_zero, List.set_cons_succ])
        refine wpAnyH_pick 19 (v := ?v19) rfl (by kernel_rfl) (by kernel_rfl) (by kernel_rfl) (fun _ _ _ h => h) (by assumption) (by rfl) ?hy19 ?rest19
        case hy19 => (intro w hSw; (try dsimp only at hSw); go_simp) <;> (with_reducible rfl)
        (try simp only [Act.put, List.setIfInBounds_toArray, List.set_cons_zero, List.set_cons_succ])
        refine wpAnyH_pick 20 (v := ?v20) rfl (by kernel_rfl) (by kernel_rfl) (by kernel_rfl) (fun _ _ _ h => h) (by assumption) (by rfl) ?hy20 ?rest20
        case hy20 => (intro w hSw; (try dsimp only at hSw); go_simp) <;> (with_reducible rfl)
        (try simp only [Act.put, List.setIfInBounds_toArray, List.set_cons_zero, List.set_cons_succ])
        refine wpAnyH_pick 21 (v := ?v21) rfl (by kernel_rfl) (by kernel_rfl) (by kernel_rfl) (fun _ _ _ h => h) (by assumption) (by rfl) ?hy21 ?rest21
        case hy21 => (intro w hSw; (try dsimp only at hSw); go_simp) <;> (with_reducible rfl)
        (try simp only [Act.put, List.setIfInBounds_toArray, List.set_cons_zero, List.set_cons_succ])
        refine wpAnyH_pick 22 (v := ?v22) rfl (by kernel_rfl) (by kernel_rfl) (by kernel_rfl) (fun _ _ _ h => h) (by assumption) (by rfl) ?hy22 ?rest22
        case hy22 => (intro w hSw; (try dsimp only at hSw); go_simp) <;> (with_reducible rfl)
        (try simp only [Act.put, List.setIfInBounds_toArray, List.set_cons_zero, List.set_cons_succ])
        refine wpAnyH_pick 23 (v := ?v23) rfl (by kernel_rfl) (by kernel_rfl) (by kernel_rfl) (fun _ _ _ h => h) (by assumption) (by rfl) ?hy23 ?rest23
        case hy23 => (intro w hSw; (try dsimp only at hSw); go_simp) <;> (with_reducible rfl)
        (try simp only [Act.put, List.setIfInBounds_toArray, List.set_cons_zero, List.set_cons_succ])
        refine wpAnyH_pick 24 (v := ?v24) rfl (by kernel_rfl) (by kernel_rfl) (by kernel_rfl) (fun _ _ _ h => h) (by assumption) (by rfl) ?hy24 ?rest24
        case hy24 => (intro w hSw; (try dsimp only at hSw); go_simp) <;> (with_reducible rfl)
        (try simp only [Act.put, List.setIfInBounds_toArray, List.set_cons_zero, List.set_cons_succ])
        refine wpAnyH_pick 25 (v := ?v25) rfl (by kernel_rfl) (by kernel_rfl) (by kernel_rfl) (fun _ _ _ h => h) (by assumption) (by rfl) ?hy25 ?rest25
        case hy25 => (intro w hSw; (try dsimp only at hSw); go_simp) <;> (with_reducible rfl)
        (try simp only [Act.put, List.setIfInBounds_toArray, List.set_cons_zero, List.set_cons_succ])
        refine wpAnyH_pick 27 (v := ?v26) rfl (by kernel_rfl) (by kernel_rfl) (by kernel_rfl) (fun _ _ _ h => h) (by assumption) (by rfl) ?hy26 ?rest26
        case hy26 => (intro w hSw; (try dsimp only at hSw); go_simp) <;> (with_reducible rfl)
        (try simp only [Act.put, List.setIfInBounds_toArray, List.set_cons_zero, List.set_cons_succ])
        refine wpAnyH_ready (rs := [26]) (by kernel_rfl) (by simp) ?_
        refine AllReadyH_pick rfl (fun K hK => ?_) (AllReadyH.nil)
        · go_simp
          first
            | (refine (at_any _ p v bs ka HB1.out.1.a).mono ?_)
            | (refine (at_any _ q u bs ka HB1.out.1.b).mono ?_)
          rintro e wQ ⟨rfl, rfl⟩
          go_wp2_with fail
          refine hK.out _ _ ?_ (fun hHeld => ?_)
          · (repeat' (first | trivial | assumption | refine ⟨?_, ?_⟩))
          clear hK K
          (try simp only [Act.put, List.setIfInBounds_toArray, List.set_cons_zero, List.set_cons_succ])
          refine wpAnyH_ready (rs := [28]) (by kernel_rfl) (by simp) ?_
          refine AllReadyH_pick rfl (fun K hK => ?_) (AllReadyH.nil)
          · go_simp
            first
              | (refine (at_any _ p v bs ka HB1.out.1.a).mono ?_)
              | (refine (at_any _ q u bs ka HB1.out.1.b).mono ?_)
            rintro e wQ ⟨rfl, rfl⟩
            go_wp2_with fail
            refine hK.out _ _ ?_ (fun hHeld => ?_)
            · (repeat' (first | trivial | assumption | refine ⟨?_, ?_⟩))
            clear hK K
            (try simp only [Act.put, List.setIfInBounds_toArray, List.set_cons_zero, List.set_cons_succ])
            refine wpAnyH_pick 29 (v := ?v27) rfl (by kernel_rfl) (by kernel_rfl) (by kernel_rfl) (fun _ _ _ h => h) (by assumption) (by rfl) ?hy27 ?rest27
            case hy27 => (intro w hSw; (try dsimp only at hSw); go_simp) <;> (with_reducible rfl)
            (try simp only [Act.put, List.setIfInBounds_toArray, List.set_cons_zero, List.set_cons_succ])
            refine wpAnyH_pick 30 (v := ?v28) rfl (by kernel_rfl) (by kernel_rfl) (by kernel_rfl) (fun _ _ _ h => h) (by assumption) (by rfl) ?hy28 ?rest28
            case hy28 => (intro w hSw; (try dsimp only at hSw); go_simp) <;> (with_reducible rfl)
            (try simp only [Act.put, List.setIfInBounds_toArray, List.set_cons_zero, List.set_cons_succ])
            refine wpAnyH_pick 31 (v := ?v29) rfl (by kernel_rfl) (by kernel_rfl) (by kernel_rfl) (fun _ _ _ h => h) (by assumption) (by rfl) ?hy29 ?rest29
            case hy29 => (intro w hSw; (try dsimp only at hSw); go_simp) <;> (with_reducible rfl)
            (try simp only [Act.put, List.setIfInBounds_toArray, List.set_cons_zero, List.set_cons_succ])
            refine wpAnyH_pick 32 (v := ?v30) rfl (by kernel_rfl) (by kernel_rfl) (by kernel_rfl) (fun _ _ _ h => h) (by assumption) (by rfl) ?hy30 ?rest30
            case hy30 => (intro w hSw; (try dsimp only at hSw); go_simp) <;> (with_reducible rfl)
            (try simp only [Act.put, List.setIfInBounds_toArray, List.set_cons_zero, List.set_cons_succ])
            refine wpAnyH_pick 34 (v := ?v31) rfl (by kernel_rfl) (by kernel_rfl) (by kernel_rfl) (fun _ _ _ h => h) (by assumption) (by rfl) ?hy31 ?rest31
            case hy31 => (intro w hSw; (try dsimp only at hSw); go_simp) <;> (with_reducible rfl)
            (try simp only [Act.put, List.setIfInBounds_toArray, List.set_cons_zero, List.set_cons_succ])
            refine wpAnyH_ready (rs := [33]) (by kernel_rfl) (by simp) ?_
            refine AllReadyH_pick rfl (fun K hK => ?_) (AllReadyH.nil)
            · go_simp
              first
                | (refine (wlen_known _ p2 v2 L k Hk.out HB1.out.2.a).mono ?_)
                | (refine (wlen_known _ q2 u3 L k Hk.out HB1.out.2.b).mono ?_)
              rintro e wQ ⟨rfl, rfl⟩
              go_wp2_with fail
              refine hK.out _ _ ?_ (fun hHeld => ?_)
              · (repeat' (first | trivial | assumption | refine ⟨?_, ?_⟩))
              clear hK K
              (try simp only [Act.put, List.setIfInBounds_toArray, List.set_cons_zero, List.set_cons_succ])
              refine wpAnyH_ready (rs := [35]) (by kernel_rfl) (by simp) ?_
              refine AllReadyH_pick rfl (fun K hK => ?_) (AllReadyH.nil)
              · go_simp
                first
                  | (refine (wlen_known _ p2 v2 L k Hk.out HB1.out.2.a).mono ?_)
                  | (refine (wlen_known _ q2 u3 L k Hk.out HB1.out.2.b).mono ?_)
                rintro e wQ ⟨rfl, rfl⟩
                go_wp2_with fail
                refine hK.out _ _ ?_ (fun hHeld => ?_)
                · (repeat' (first | trivial | assumption | refine ⟨?_, ?_⟩))
                clear hK K
                (try simp only [Act.put, List.setIfInBounds_toArray, List.set_cons_zero, List.set_cons_succ])
                refine wpAnyH_pick 36 (v := ?v32) rfl (by kernel_rfl) (by kernel_rfl) (by kernel_rfl) (fun _ _ _ h => h) (by assumption) (by rfl) ?hy32 ?rest32
                case hy32 => (intro w hSw; (try dsimp only at hSw); go_simp) <;> (with_reducible rfl)
                (try simp only [Act.put, List.setIfInBounds_toArray, List.set_cons_zero, List.set_cons_succ])
                refine wpAnyH_pick 37 (v := ?v33) rfl (by kernel_rfl) (by kernel_rfl) (by kernel_rfl) (fun _ _ _ h => h) (by assumption) (by rfl) ?hy33 ?rest33
                case hy33 => (intro w hSw; (try dsimp only at hSw); go_simp) <;> (with_reducible rfl)
                (try simp only [Act.put, List.setIfInBounds_toArray, List.set_cons_zero, List.set_cons_succ])
                refine wpAnyH_pick 38 (v := ?v34) rfl (by kernel_rfl) (by kernel_rfl) (by kernel_rfl) (fun _ _ _ h => h) (by assumption) (by rfl) ?hy34 ?rest34
                case hy34 => (intro w hSw; (try dsimp only at hSw); go_simp) <;> (with_reducible rfl)
                (try simp only [Act.put, List.setIfInBounds_toArray, List.set_cons_zero, List.set_cons_succ])
                refine wpAnyH_pick 39 (v := ?v35) rfl (by kernel_rfl) (by kernel_rfl) (by kernel_rfl) (fun _ _ _ h => h) (by assumption) (by rfl) ?hy35 ?rest35
                case hy35 => (intro w hSw; (try dsimp only at hSw); go_simp) <;> (with_reducible rfl)
                (try simp only [Act.put, List.setIfInBounds_toArray, List.set_cons_zero, List.set_cons_succ])
                refine wpAnyH_pick 42 (v := ?v36) rfl (by kernel_rfl) (by kernel_rfl) (by kernel_rfl) (fun _ _ _ h => h) (by assumption) (by rfl) ?hy36 ?rest36
                case hy36 => (intro w hSw; (try dsimp only at hSw); go_simp) <;> (with_reducible rfl)
                (try simp only [Act.put, List.setIfInBounds_toArray, List.set_cons_zero, List.set_cons_succ])
                refine wpAnyH_ready (rs := [40]) (by kernel_rfl) (by simp) ?_
                refine AllReadyH_pick rfl (fun K hK => ?_) (AllReadyH.nil)
                · go_simp
                  first
                    | (refine (bytes_known _ p2 v2 L bp Hbp.out HB1.out.2.a (by rw [Hk.out]; omega)).mono ?_)
                    | (refine (bytes_known _ q2 u3 L bp Hbp.out HB2.out.2.b (by rw [Hk.out]; omega)).mono ?_)
                  rintro e wB ⟨vB, rfl, hOB, hFB, -⟩
                  have HB2 := Lib.hid (Both.fr0 (by first | exact HB2.out | exact HB1.out) hFB)
                  have kB1 : wB.cell? ⟨w.heap.size, 1, none⟩ = some (.int .i64 (n1 : Int)) := HB2.out.1.arr.cell 1
                  have sB := run_cv hOB.src
                  try (have sP := run_cv (HOB1.out.src.fr0 hFB))
                  have HOB1 := Lib.hid hOB
                  go_wp2_with fail
                  refine hK.out _ _ ?_ (fun hHeld => ?_)
                  · (repeat' (first | trivial | assumption | refine ⟨?_, ?_⟩))
                  clear hK K
                  (try simp only [Act.put, List.setIfInBounds_toArray, List.set_cons_zero, List.set_cons_succ])
                  refine wpAnyH_add (fun W => (cv vB).run Try.prog W = .ok (.string (strOf bp)) W) _ _ _ _ ?_
                  have hHeld2 := And.intro hHeld sB
                  refine wpAnyH_pick 41 (v := ?v37) rfl (by kernel_rfl) (by kernel_rfl) (by kernel_rfl) (fun _ _ _ h => h) (by assumption) (by rfl) ?hy37 ?rest37
                  case hy37 => (intro w hSw; (try dsimp only at hSw); go_simp) <;> (with_reducible rfl)
                  (try simp only [Act.put, List.setIfInBounds_toArray, List.set_cons_zero, List.set_cons_succ])
                  refine wpAnyH_ready (rs := [43]) (by kernel_rfl) (by simp) ?_
                  refine AllReadyH_pick rfl (fun K hK => ?_) (AllReadyH.nil)
                  · go_simp
                    first
                      | (refine (bytes_known _ p2 v2 L bp Hbp.out HB1.out.2.a (by rw [Hk.out]; omega)).mono ?_)
                      | (refine (bytes_known _ q2 u3 L bp Hbp.out HB2.out.2.b (by rw [Hk.out]; omega)).mono ?_)
                    rintro e wB ⟨vB, rfl, hOB, hFB, -⟩
                    have HB2 := Lib.hid (Both.fr0 (by first | exact HB2.out | exact HB1.out) hFB)
                    have kB1 : wB.cell? ⟨w.heap.size, 1, none⟩ = some (.int .i64 (n1 : Int)) := HB2.out.1.arr.cell 1
                    have sB := run_cv hOB.src
                    try (have sP := run_cv (HOB1.out.src.fr0 hFB))
                    have HOB1 := Lib.hid hOB
                    go_wp2_with fail
                    refine hK.out _ _ ?_ (fun hHeld => ?_)
                    · (repeat' (first | trivial | assumption | refine ⟨?_, ?_⟩))
                    clear hK K
                    (try simp only [Act.put, List.setIfInBounds_toArray, List.set_cons_zero, List.set_cons_succ])
                    refine wpAnyH_add (fun W => (cv vB).run Try.prog W = .ok (.string (strOf bp)) W) _ _ _ _ ?_
                    have hHeld2 := And.intro hHeld sB
                    refine wpAnyH_pick 44 (v := ?v38) rfl (by kernel_rfl) (by kernel_rfl) (by kernel_rfl) (fun _ _ _ h => h) (by assumption) (by rfl) ?hy38 ?rest38
                    case hy38 => (intro w hSw; (try dsimp only at hSw); go_simp) <;> (with_reducible rfl)
                    (try simp only [Act.put, List.setIfInBounds_toArray, List.set_cons_zero, List.set_cons_succ])
                    refine wpAnyH_pick 45 (v := ?v39) rfl (by kernel_rfl) (by kernel_rfl) (by kernel_rfl) (fun _ _ _ h => h) (by assumption) (by rfl) ?hy39 ?rest39
                    case hy39 => (intro w hSw; (try dsimp only at hSw); go_simp) <;> (with_reducible rfl)
                    (try simp only [Act.put, List.setIfInBounds_toArray, List.set_cons_zero, List.set_cons_succ])
                    refine wpAnyH_pick 46 (v := ?v40) rfl (by kernel_rfl) (by kernel_rfl) (by kernel_rfl) (fun _ _ _ h => h) (by assumption) (by rfl) ?hy40 ?rest40
                    case hy40 => (intro w hSw; (try dsimp only at hSw); go_simp) <;> (with_reducible rfl)
                    (try simp only [Act.put, List.setIfInBounds_toArray, List.set_cons_zero, List.set_cons_succ])
                    refine wpAnyH_pick 47 (v := ?v41) rfl (by kernel_rfl) (by kernel_rfl) (by kernel_rfl) (fun _ _ _ h => h) (by assumption) (by rfl) ?hy41 ?rest41
                    case hy41 => (intro w hSw; (try dsimp only at hSw); go_simp) <;> (with_reducible rfl)
                    (try simp only [Act.put, List.setIfInBounds_toArray, List.set_cons_zero, List.set_cons_succ])
                    refine wpAnyH_done (by kernel_rfl) ?_ _
                    have fin := HB2.out.1.fr
                    go_wp2_with fail
                    go_ret
                    exact ⟨rfl, fin⟩
end Go.Proofs.Ytgdfjoionaedgaa
