/-
  The law BitsReads answers true whatever its input, and leaves its arguments as they were; no condition.
-/
import Derived.Test.YtgdfjoionaedgaaBits8
import Derived.Test.YtgdfjoionaedgaaStr
import Derived.Test.YtgdfjoionaedgaaActs
import Derived.Deep.DeepCutAuto
import Derived.Test.YtgdfjoionaedgaaRegion
namespace Go.Proofs.Ytgdfjoionaedgaa
open Go.RowKit

/-- The reader and the document's have the bytes bs and are at bit a; they lie apart, in memory that is new since w0. -/
structure Reads2 (w0 w : World) (p : Nat) (v : Value) (q : Nat) (u : Value) (bs : List UInt8) (a b : Nat) : Prop where
  a : Rd w p v bs a
  b : Rr w q u (rowOf bs) b
  sep : Sep p v q u
  np : w0.heap.size ≤ p
  nq : w0.heap.size ≤ q
  fr : Fr [] w0 w

section
variable {w0 w w' : World} {p q : Nat} {v u : Value} {bs : List UInt8} {a b a2 b2 : Nat}
theorem one_out {p q : Nat} {v u : Value} (h : Sep p v q u) : q ∉ [p] ∧ ∀ k, u.ownBlock = some k → k ∉ [p] := by
  refine ⟨by simp; exact h.1.symm, fun k hk hm => ?_⟩
  simp at hm; subst hm; exact h.2.1 hk
theorem Reads2.fr0 (h : Reads2 w0 w p v q u bs a b) (hf : Fr [] w w') : Reads2 w0 w' p v q u bs a b :=
  ⟨h.a.fr hf (by simp) (by simp), h.b.fr hf (by simp) (by simp), h.sep, h.np, h.nq, h.fr.trans hf (by simp)⟩
theorem Reads2.drew (h : Reads2 w0 w p v q u bs a b) : Reads2 w0 w.drew p v q u bs a b := h.fr0 (Fr.refl _ _).drew
theorem Reads2.stepA (h : Reads2 w0 w p v q u bs a b) (hf : Fr [p] w w') (hA : Rd w' p v bs a2) : Reads2 w0 w' p v q u bs a2 b :=
  ⟨hA, h.b.fr hf (one_out h.sep).1 (one_out h.sep).2, h.sep, h.np, h.nq, h.fr.trans hf (by intro x hx; simp at hx; subst hx; exact .inr h.np)⟩
theorem Reads2.stepB (h : Reads2 w0 w p v q u bs a b) (hf : Fr [q] w w') (hB : Rr w' q u (rowOf bs) b2) : Reads2 w0 w' p v q u bs a b2 :=
  ⟨h.a.fr hf (one_out h.sep.symm).1 (one_out h.sep.symm).2, hB, h.sep, h.np, h.nq, h.fr.trans hf (by intro x hx; simp at hx; subst hx; exact .inr h.nq)⟩
end

theorem rest_new (w : World) (q : Nat) (v : Value) (bs : List UInt8) (a : Nat) (h : Rd w q v bs a) (hn : bs.length ≤ 1000) :
    Calls Try.prog 26 #[.pointer (some ⟨q, 0, none⟩)] w fun e w' => NewRow w (bs.drop ((a + 7) / 8)) e w' :=
  (rest_any w q v bs a h (by omega)).mono fun _ _ h => h.row

theorem rrest_new (w : World) (q : Nat) (u : Value) (bs : List UInt8) (a : Nat) (h : Rr w q u (rowOf bs) a) (hn : bs.length ≤ 1000) :
    Calls Try.prog 27 #[.pointer (some ⟨q, 0, none⟩)] w fun e w' => NewRow w (bs.drop ((a + 7) / 8)) e w' :=
  (rrest_any q u (rowOf bs) a w h (by simp; omega) (by simp)).mono fun _ _ ⟨b2, h1, h2⟩ => by
    have h3 := (PackOf.row bs).drop ((a + 7) / 8)
    rw [show (a + 7) / 8 * 8 = 8 * ((a + 7) / 8) by omega] at h1
    obtain rfl := h1.unique h3
    exact h2

theorem left_at (w : World) (q : Nat) (v : Value) (bs : List UInt8) (a N : Nat) (h : Rd w q v bs a) (hn : bs.length ≤ 1000) (hN : N = 8 * bs.length) :
    Calls Try.prog 25 #[.pointer (some ⟨q, 0, none⟩)] w fun e w' => e = .returned (.int .i64 ((N : Int) - (a : Int))) ∧ Fr [] w w' :=
  (left_any w q v bs a h (by omega)).mono fun _ _ ⟨h1, h2⟩ => ⟨by rw [h1]; have := h.2.2.1; congr 2; omega, by rw [h2]; exact (Fr.refl _ _).drew⟩

/-- .. and the act that is looked at, in a block of its own. -/
def Act2 (w0 w : World) (x : Nat) (k n : Int) (m : Nat) (p : Nat) (v : Value) (q : Nat) (u : Value) (bs : List UInt8) (a b : Nat) : Prop :=
  Reads2 w0 w p v q u bs a b ∧ Blk w x 31 #[.int .i64 k, .int .i64 n, .int .u64 (m : Int)] ∧ x ≠ p ∧ x ≠ q

theorem Act2.new {w0 w : World} {x : Nat} {k n : Int} {m p q : Nat} {v u : Value} {bs : List UInt8} {a b : Nat} {wt : World} (h : Reads2 w0 w p v q u bs a b) (hx : x = w.heap.size) (hw : wt = w.alloc (.cells #[.int .i64 k, .int .i64 n, .int .u64 (m : Int)] 31)) : Act2 w0 wt x k n m p v q u bs a b := by
  subst hx hw
  have hp := h.a.lt
  have hq := h.b.lt
  exact ⟨h.fr0 ((Fr.refl _ _).alloc _), Blk.new _ _ _, by omega, by omega⟩
section
variable {w0 w w' : World} {x : Nat} {k n : Int} {m p q : Nat} {v u : Value} {bs : List UInt8} {a b a2 b2 : Nat}
theorem Act2.stepA (h : Act2 w0 w x k n m p v q u bs a b) (hf : Fr [p] w w') (hA : Rd w' p v bs a2) : Act2 w0 w' x k n m p v q u bs a2 b := ⟨h.1.stepA hf hA, h.2.1.fr hf (by simpa using h.2.2.1), h.2.2⟩
theorem Act2.stepB (h : Act2 w0 w x k n m p v q u bs a b) (hf : Fr [q] w w') (hB : Rr w' q u (rowOf bs) b2) : Act2 w0 w' x k n m p v q u bs a b2 := ⟨h.1.stepB hf hB, h.2.1.fr hf (by simpa using h.2.2.2), h.2.2⟩
end

theorem reads_long (Ab A : Option Addr) (n cb len cap : Nat) (w : World) (hn : 300 < n) (hnm : n ≤ 9223372036854775807) :
    Calls Try.prog 4 #[.slice Ab n cb, .slice A len cap] w fun e w' => e = .returned (.bool true) ∧ Fr [] w w' := by
  go_enter Try.func4, Try.ntmps4
  go_wp2_with fail
  refine (alive_any w).mono ?_
  rintro e w3 ⟨rfl, hF3⟩
  go_wp2_with fail
  go_ret
  exact ⟨rfl, hF3⟩

attribute [local go_sem ↓] cv_rule

set_option maxRecDepth 100000 in
set_option maxHeartbeats 4000000 in
theorem reads_any (Ab A : Option Addr) (n cb len cap : Nat) (bs : List UInt8) (acts : List (Int × Int × Nat)) (w : World) (hb : Src w (.slice Ab n cb) (bs.map B8)) (hn : bs.length = n) (hA : Acts w A len acts) (hm : len ≤ 9223372036854775807) (h300 : n ≤ 300) :
    Calls Try.prog 4 #[.slice Ab n cb, .slice A len cap] w fun e w' => e = .returned (.bool true) ∧ Fr [] w w' := by
  have Hn := Lib.hid hn; clear hn
  have HS := Lib.hid hb; clear hb
  go_enter Try.func4, Try.ntmps4
  go_wp2_with fail
  refine (open_any _ bs w HS.out (by rw [Hn.out]; omega)).mono ?_
  rintro e w1 ⟨p, v, rfl, hR1, hF1, hp1, hv1⟩
  have HR1 := Lib.hid hR1; clear hR1
  have Hv1 := Lib.hid hv1; clear hv1
  go_wp2_with fail
  refine (ropen_any _ bs w1 (HS.out.fr0 hF1) (by rw [Hn.out]; omega)).mono ?_
  rintro e w2 ⟨q, u, rfl, hR2, hF2, hq2, hu2⟩
  have hI : Reads2 w w2 p v q u bs 0 0 := by
    have h1 := HR1.out.lt
    have h2 := HR1.out.lt2
    refine ⟨HR1.out.fr hF2 (by simp) (by simp), hR2, ⟨by omega, fun h => by have := hu2 _ h; omega, fun h => by have := h2 _ h; omega, fun k hk hk2 => by have := h2 _ hk; have := hu2 _ hk2; omega⟩, hp1, by have := hF1.size; omega, hF1.trans hF2 (by simp)⟩
  have hbl : bs.length ≤ 300 := by rw [Hn.out]; exact h300
  obtain ⟨N, hN⟩ : ∃ N, N = 8 * bs.length := ⟨_, rfl⟩
  have hNl : N ≤ 2400 := by omega
  obtain ⟨A2, c2, rfl, -⟩ : ∃ A2 c2, u = .slice A2 N c2 ∧ True := by
    obtain ⟨A2, c2, rfl, -⟩ := hI.b.slice
    exact ⟨A2, c2, by rw [rowOf_length, ← hN], trivial⟩
  have HN := Lib.hid hN; clear hN
  have HI := Lib.hid hI
  clear hI hR2 hF1 hF2 hp1 hq2 hu2 HR1 Hv1
  go_wp2_with fail
  go_loopw [7] (fun s7 wr => ∃ (i a : Nat), i ≤ len ∧ i ≤ 200 ∧ s7 = .int .i64 (i : Int) ∧ Reads2 w wr p v q (.slice A2 N c2) bs a a) (fun s7 _ => 200 - (intOf s7).toNat)
  case atStart => exact ⟨0, 0, by omega, by omega, rfl, HI.out⟩
  case round =>
    obtain ⟨i, a, hi1, hi2, rfl, hB⟩ := hrel
    by_cases hlt : i < len ∧ i < 200
    · obtain ⟨hlt1, hlt2⟩ := hlt
      have hA2 := hA.fr hB.fr
      obtain ⟨⟨k, m, y⟩, hact⟩ : ∃ x, acts[i]? = some x := ⟨_, List.getElem?_eq_getElem (by have := hA.1; omega)⟩
      obtain ⟨hy, b, o, rfl, e1, e2, e3⟩ := hA2.2 i k m y hact
      clear hact hA2
      have HB := Lib.hid hB; clear hB
      have eg : decide (i < len) = true := by simpa using hlt1
      have eg2 : decide ((i : Int) < 200) = true := by simp; omega
      go_upto_region 9 with fail
      obtain ⟨x, hx⟩ : ∃ x, x = wr.heap.size := ⟨_, rfl⟩
      obtain ⟨wt, hwt⟩ : ∃ wt, wt = wr.alloc (.cells #[.int .i64 k, .int .i64 m, .int .u64 (y : Int)] 31) := ⟨_, rfl⟩
      rw [← hwt, ← hx]
      have hT : Act2 w wt x k m y p v q (.slice A2 N c2) bs a a := Act2.new HB.out hx hwt
      have c0 := hT.2.1.cell 0
      have c1 := hT.2.1.cell 1
      simp at c0 c1
      clear hx hwt e1 e2 e3
      have HT := Lib.hid hT; clear hT
      go_upto_if 37 with fail
      go_cut [37] (fun _ wc => ∃ (a : Nat), Act2 w wc x k m y p v q (.slice A2 N c2) bs a a)
      case first =>
        by_cases hk : k = 3
        · have ek : (k == 3) = true := by simpa using hk
          have Hk := Lib.hid hk; clear hk
          go_wp2_with fail
          refine (get_total p v bs a m _ HT.out.1.a (by omega)).mono ?_
          rintro e wA ⟨rfl, hA', fA⟩
          have hT2 := HT.out.stepA fA hA'
          have c0' := hT2.2.1.cell 0
          have c1' := hT2.2.1.cell 1
          simp at c0' c1'
          have HT2 := Lib.hid hT2
          clear hT2 c0 c1 hA' fA
          go_wp2_with fail
          refine (rget_total q _ (rowOf bs) a m _ HT2.out.1.b (by simp; omega)).mono ?_
          rintro e wR ⟨rfl, hR', fR⟩
          have HT3 := Lib.hid (HT2.out.stepB fR hR')
          clear hR' fR c0' c1'
          go_wp2_with fail
          go_meet
          case rel => exact ⟨_, HT3.out⟩
        · have ek : (k == 3) = false := by simpa using hk
          have Hk := Lib.hid hk; clear hk
          go_wp2_with fail
          go_meet
          case rel => exact ⟨a, HT.out⟩
      case rest =>
        obtain ⟨a, hT⟩ := hcut
        clear c0 c1 HT
        have c0 := hT.2.1.cell 0
        simp at c0
        have HT := Lib.hid hT; clear hT
        go_upto_region 14 with fail
        go_cut [69] (fun s69 wc => ∃ (a : Nat), s69 = .bool false ∧ Act2 w wc x k m y p v q (.slice A2 N c2) bs a a)
        case first =>
          by_cases hk : k = 4
          · have ek : (k == 4) = true := by simpa using hk
            have Hk := Lib.hid hk; clear hk
            go_wp2_with fail
            refine (ralign_total p v bs a _ HT.out.1.a (by omega)).mono ?_
            rintro e wA ⟨rfl, hA', fA⟩
            have HT2 := Lib.hid (HT.out.stepA fA hA')
            clear c0 hA' fA
            go_wp2_with fail
            refine (rralign_total q _ (rowOf bs) a _ HT2.out.1.b (by simp; omega) (by simp)).mono ?_
            rintro e wR ⟨rfl, hR', fR⟩
            have HT3 := Lib.hid (HT2.out.stepB fR hR')
            clear hR' fR
            go_wp2_with fail
            go_meet
            case rel => exact ⟨_, rfl, HT3.out⟩
          · have ek : (k == 4) = false := by simpa using hk
            have Hk := Lib.hid hk; clear hk
            go_wp2_with fail
            go_meet
            case rel => exact ⟨a, rfl, HT.out⟩
        case rest =>
          obtain ⟨a, rfl, hT⟩ := hcut
          clear c0 HT
          have HB2 := Lib.hid hT.1; clear hT
          go_upto_region 16 with fail
          go_cut [100] (fun s100 wc => s100 = .bool false ∧ Reads2 w wc p v q (.slice A2 N c2) bs a a)
          case first =>
            have HD := Lib.hid HB2.out.drew
            have k0 := HD.out.b.1.cell 0
            have k1 := HD.out.b.1.cell 1
            simp at k0 k1
            have hal : a ≤ N := by have := HB2.out.b.2.2.1; rw [rowOf_length, ← HN.out] at this; exact this
            have esub : IntKind.i64.wrap ((N : Int) - (a : Int)) = (N : Int) - (a : Int) := IntWalk.i64_in _ (by omega)
            have hbl2 : bs.length ≤ 1000 := by omega
            refine wp_region_held_drew (S := fun W => W.cell? ⟨q, 0, none⟩ = some (.slice A2 N c2) ∧ W.cell? ⟨q, 1, none⟩ = some (.int .i64 (a : Int))) (by kernel_rfl) ?_ (fun hHeld => ?_)
            · (repeat' (first | assumption | refine ⟨?_, ?_⟩))
            refine wpAnyH_pick 0 (v := ?v1) rfl (by kernel_rfl) (by kernel_rfl) (by kernel_rfl) (fun _ _ _ h => h) (by assumption) (by rfl) ?hy1 ?rest1
            case hy1 => (intro w hSw; (try dsimp only at hSw); go_simp) <;> (with_reducible rfl)
            (try simp only [Act.put, List.setIfInBounds_toArray, List.set_cons_zero, List.set_cons_succ])
            refine wpAnyH_pick 2 (v := ?v2) rfl (by kernel_rfl) (by kernel_rfl) (by kernel_rfl) (fun _ _ _ h => h) (by assumption) (by rfl) ?hy2 ?rest2
            case hy2 => (intro w hSw; (try dsimp only at hSw); go_simp) <;> (with_reducible rfl)
            (try simp only [Act.put, List.setIfInBounds_toArray, List.set_cons_zero, List.set_cons_succ])
            refine wpAnyH_pick 3 (v := ?v3) rfl (by kernel_rfl) (by kernel_rfl) (by kernel_rfl) (fun _ _ _ h => h) (by assumption) (by rfl) ?hy3 ?rest3
            case hy3 => (intro w hSw; (try dsimp only at hSw); go_simp) <;> (with_reducible rfl)
            (try simp only [Act.put, List.setIfInBounds_toArray, List.set_cons_zero, List.set_cons_succ])
            refine wpAnyH_pick 4 (v := ?v4) rfl (by kernel_rfl) (by kernel_rfl) (by kernel_rfl) (fun _ _ _ h => h) (by assumption) (by rfl) ?hy4 ?rest4
            case hy4 => (intro w hSw; (try dsimp only at hSw); go_simp) <;> (with_reducible rfl)
            (try simp only [Act.put, List.setIfInBounds_toArray, List.set_cons_zero, List.set_cons_succ])
            refine wpAnyH_pick 5 (v := ?v5) rfl (by kernel_rfl) (by kernel_rfl) (by kernel_rfl) (fun _ _ _ h => h) (by assumption) (by rfl) ?hy5 ?rest5
            case hy5 => (intro w hSw; (try dsimp only at hSw); go_simp) <;> (with_reducible rfl)
            (try simp only [Act.put, List.setIfInBounds_toArray, List.set_cons_zero, List.set_cons_succ])
            refine wpAnyH_ready (rs := [1]) (by kernel_rfl) (by simp) ?_
            refine AllReadyH_pick rfl (fun K hK => ?_) (AllReadyH.nil)
            · go_simp
              refine (at_any _ p v bs a HD.out.a).mono ?_
              rintro e wL ⟨rfl, rfl⟩
              go_wp2_with fail
              refine hK.out _ _ ?_ (fun hHeld => ?_)
              · (repeat' (first | assumption | refine ⟨?_, ?_⟩))
              clear hK K
              (try simp only [Act.put, List.setIfInBounds_toArray, List.set_cons_zero, List.set_cons_succ])
              refine wpAnyH_pick 6 (v := ?v6) rfl (by kernel_rfl) (by kernel_rfl) (by kernel_rfl) (fun _ _ _ h => h) (by assumption) (by rfl) ?hy6 ?rest6
              case hy6 => (intro w hSw; (try dsimp only at hSw); go_simp) <;> (with_reducible rfl)
              (try simp only [Act.put, List.setIfInBounds_toArray, List.set_cons_zero, List.set_cons_succ])
              refine wpAnyH_pick 7 (v := ?v7) rfl (by kernel_rfl) (by kernel_rfl) (by kernel_rfl) (fun _ _ _ h => h) (by assumption) (by rfl) ?hy7 ?rest7
              case hy7 => (intro w hSw; (try dsimp only at hSw); go_simp) <;> (with_reducible rfl)
              (try simp only [Act.put, List.setIfInBounds_toArray, List.set_cons_zero, List.set_cons_succ])
              refine wpAnyH_pick 8 (v := ?v8) rfl (by kernel_rfl) (by kernel_rfl) (by kernel_rfl) (fun _ _ _ h => h) (by assumption) (by rfl) ?hy8 ?rest8
              case hy8 => (intro w hSw; (try dsimp only at hSw); go_simp) <;> (with_reducible rfl)
              (try simp only [Act.put, List.setIfInBounds_toArray, List.set_cons_zero, List.set_cons_succ])
              refine wpAnyH_pick 10 (v := ?v9) rfl (by kernel_rfl) (by kernel_rfl) (by kernel_rfl) (fun _ _ _ h => h) (by assumption) (by rfl) ?hy9 ?rest9
              case hy9 => (intro w hSw; (try dsimp only at hSw); go_simp) <;> (with_reducible rfl)
              (try simp only [Act.put, List.setIfInBounds_toArray, List.set_cons_zero, List.set_cons_succ])
              refine wpAnyH_pick 11 (v := ?v10) rfl (by kernel_rfl) (by kernel_rfl) (by kernel_rfl) (fun _ _ _ h => h) (by assumption) (by rfl) ?hy10 ?rest10
              case hy10 => (intro w hSw; (try dsimp only at hSw); go_simp) <;> (with_reducible rfl)
              (try simp only [Act.put, List.setIfInBounds_toArray, List.set_cons_zero, List.set_cons_succ])
              refine wpAnyH_pick 12 (v := ?v11) rfl (by kernel_rfl) (by kernel_rfl) (by kernel_rfl) (fun _ _ _ h => h) (by assumption) (by rfl) ?hy11 ?rest11
              case hy11 => (intro w hSw; (try dsimp only at hSw); go_simp) <;> (with_reducible rfl)
              (try simp only [Act.put, List.setIfInBounds_toArray, List.set_cons_zero, List.set_cons_succ])
              refine wpAnyH_pick 13 (v := ?v12) rfl (by kernel_rfl) (by kernel_rfl) (by kernel_rfl) (fun _ _ _ h => h) (by assumption) (by rfl) ?hy12 ?rest12
              case hy12 => (intro w hSw; (try dsimp only at hSw); go_simp) <;> (with_reducible rfl)
              (try simp only [Act.put, List.setIfInBounds_toArray, List.set_cons_zero, List.set_cons_succ])
              refine wpAnyH_pick 14 (v := ?v13) rfl (by kernel_rfl) (by kernel_rfl) (by kernel_rfl) (fun _ _ _ h => h) (by assumption) (by rfl) ?hy13 ?rest13
              case hy13 => (intro w hSw; (try dsimp only at hSw); go_simp) <;> (with_reducible rfl)
              (try simp only [Act.put, List.setIfInBounds_toArray, List.set_cons_zero, List.set_cons_succ])
              refine wpAnyH_pick 15 (v := ?v14) rfl (by kernel_rfl) (by kernel_rfl) (by kernel_rfl) (fun _ _ _ h => h) (by assumption) (by rfl) ?hy14 ?rest14
              case hy14 => (intro w hSw; (try dsimp only at hSw); go_simp) <;> (with_reducible rfl)
              (try simp only [Act.put, List.setIfInBounds_toArray, List.set_cons_zero, List.set_cons_succ])
              refine wpAnyH_pick 16 (v := ?v15) rfl (by kernel_rfl) (by kernel_rfl) (by kernel_rfl) (fun _ _ _ h => h) (by assumption) (by rfl) ?hy15 ?rest15
              case hy15 => (intro w hSw; (try dsimp only at hSw); go_simp) <;> (with_reducible rfl)
              (try simp only [Act.put, List.setIfInBounds_toArray, List.set_cons_zero, List.set_cons_succ])
              refine wpAnyH_pick 17 (v := ?v16) rfl (by kernel_rfl) (by kernel_rfl) (by kernel_rfl) (fun _ _ _ h => h) (by assumption) (by rfl) ?hy16 ?rest16
              case hy16 => (intro w hSw; (try dsimp only at hSw); go_simp) <;> (with_reducible rfl)
              (try simp only [Act.put, List.setIfInBounds_toArray, List.set_cons_zero, List.set_cons_succ])
              refine wpAnyH_pick 18 (v := ?v17) rfl (by kernel_rfl) (by kernel_rfl) (by kernel_rfl) (fun _ _ _ h => h) (by assumption) (by rfl) ?hy17 ?rest17
              case hy17 => (intro w hSw; (try dsimp only at hSw); go_simp) <;> (with_reducible rfl)
              (try simp only [Act.put, List.setIfInBounds_toArray, List.set_cons_zero, List.set_cons_succ])
              refine wpAnyH_pick 19 (v := ?v18) rfl (by kernel_rfl) (by kernel_rfl) (by kernel_rfl) (fun _ _ _ h => h) (by assumption) (by rfl) ?hy18 ?rest18
              case hy18 => (intro w hSw; (try dsimp only at hSw); go_simp) <;> (with_reducible rfl)
              (try simp only [Act.put, List.setIfInBounds_toArray, List.set_cons_zero, List.set_cons_succ])
              refine wpAnyH_ready (rs := [9]) (by kernel_rfl) (by simp) ?_
              refine AllReadyH_pick rfl (fun K hK => ?_) (AllReadyH.nil)
              · go_simp
                refine (left_at _ p v bs a N HD.out.a hbl2 HN.out).mono ?_
                rintro e wL ⟨rfl, fL⟩
                have hL1 := HD.out.fr0 fL
                have kL0 : wL.cell? ⟨q, 0, none⟩ = some (.slice A2 N c2) := hL1.b.1.cell 0
                have kL1 : wL.cell? ⟨q, 1, none⟩ = some (.int .i64 (a : Int)) := hL1.b.1.cell 1
                have HE := Lib.hid hL1
                clear hL1
                go_wp2_with fail
                refine hK.out _ _ ?_ (fun hHeld => ?_)
                · (repeat' (first | assumption | refine ⟨?_, ?_⟩))
                clear hK K
                (try simp only [Act.put, List.setIfInBounds_toArray, List.set_cons_zero, List.set_cons_succ])
                refine wpAnyH_pick 20 (v := ?v19) rfl (by kernel_rfl) (by kernel_rfl) (by kernel_rfl) (fun _ _ _ h => h) (by assumption) (by rfl) ?hy19 ?rest19
                case hy19 => (intro w hSw; (try dsimp only at hSw); go_simp) <;> (with_reducible rfl)
                (try simp only [Act.put, List.setIfInBounds_toArray, List.set_cons_zero, List.set_cons_succ])
                refine wpAnyH_pick 21 (v := ?v20) rfl (by kernel_rfl) (by kernel_rfl) (by kernel_rfl) (fun _ _ _ h => h) (by assumption) (by rfl) ?hy20 ?rest20
                case hy20 => (intro w hSw; (try dsimp only at hSw); go_simp) <;> (with_reducible rfl)
                (try simp only [Act.put, List.setIfInBounds_toArray, List.set_cons_zero, List.set_cons_succ])
                refine wpAnyH_pick 22 (v := ?v21) rfl (by kernel_rfl) (by kernel_rfl) (by kernel_rfl) (fun _ _ _ h => h) (by assumption) (by rfl) ?hy21 ?rest21
                case hy21 => (intro w hSw; (try dsimp only at hSw); go_simp) <;> (with_reducible rfl)
                (try simp only [Act.put, List.setIfInBounds_toArray, List.set_cons_zero, List.set_cons_succ])
                refine wpAnyH_pick 23 (v := ?v22) rfl (by kernel_rfl) (by kernel_rfl) (by kernel_rfl) (fun _ _ _ h => h) (by assumption) (by rfl) ?hy22 ?rest22
                case hy22 => (intro w hSw; (try dsimp only at hSw); go_simp) <;> (with_reducible rfl)
                (try simp only [Act.put, List.setIfInBounds_toArray, List.set_cons_zero, List.set_cons_succ])
                refine wpAnyH_pick 26 (v := ?v23) rfl (by kernel_rfl) (by kernel_rfl) (by kernel_rfl) (fun _ _ _ h => h) (by assumption) (by rfl) ?hy23 ?rest23
                case hy23 => (intro w hSw; (try dsimp only at hSw); go_simp) <;> (with_reducible rfl)
                (try simp only [Act.put, List.setIfInBounds_toArray, List.set_cons_zero, List.set_cons_succ])
                refine wpAnyH_ready (rs := [24]) (by kernel_rfl) (by simp) ?_
                refine AllReadyH_pick rfl (fun K hK => ?_) (AllReadyH.nil)
                · go_simp
                  first
                    | (refine (rest_new _ p v bs a HE.out.a hbl2).mono ?_)
                    | (refine (rest_new _ p v bs a HQ.out.a hbl2).mono ?_)
                  rintro e wB ⟨vB, rfl, hOB, hFB, -⟩
                  first
                    | (have HP := Lib.hid (HE.out.fr0 hFB))
                    | (have HP := Lib.hid (HQ.out.fr0 hFB))
                  have kB0 : wB.cell? ⟨q, 0, none⟩ = some (.slice A2 N c2) := HP.out.b.1.cell 0
                  have kB1 : wB.cell? ⟨q, 1, none⟩ = some (.int .i64 (a : Int)) := HP.out.b.1.cell 1
                  have sB := run_cv hOB.src
                  try (have sP2 := run_cv (hOP.src.fr0 hFB))
                  go_wp2_with fail
                  refine hK.out _ _ ?_ (fun hHeld => ?_)
                  · (repeat' (first | assumption | refine ⟨?_, ?_⟩))
                  clear hK K
                  (try simp only [Act.put, List.setIfInBounds_toArray, List.set_cons_zero, List.set_cons_succ])
                  refine wpAnyH_add (fun W => (cv vB).run Try.prog W = .ok (.string (strOf (bs.drop ((a + 7) / 8)))) W) _ _ _ _ ?_
                  have hHeld2 := And.intro hHeld sB
                  refine wpAnyH_pick 25 (v := ?v24) rfl (by kernel_rfl) (by kernel_rfl) (by kernel_rfl) (fun _ _ _ h => h) (by assumption) (by rfl) ?hy24 ?rest24
                  case hy24 => (intro w hSw; (try dsimp only at hSw); go_simp) <;> (with_reducible rfl)
                  (try simp only [Act.put, List.setIfInBounds_toArray, List.set_cons_zero, List.set_cons_succ])
                  refine wpAnyH_ready (rs := [27]) (by kernel_rfl) (by simp) ?_
                  refine AllReadyH_pick rfl (fun K hK => ?_) (AllReadyH.nil)
                  · go_simp
                    first
                      | (refine (rrest_new _ q _ bs a HE.out.b hbl2).mono ?_)
                      | (refine (rrest_new _ q _ bs a HP.out.b hbl2).mono ?_)
                    rintro e wP ⟨vP, rfl, hOP, hFP, -⟩
                    first
                      | (have HQ := Lib.hid (HE.out.fr0 hFP))
                      | (have HQ := Lib.hid (HP.out.fr0 hFP))
                    have kP0 : wP.cell? ⟨q, 0, none⟩ = some (.slice A2 N c2) := HQ.out.b.1.cell 0
                    have kP1 : wP.cell? ⟨q, 1, none⟩ = some (.int .i64 (a : Int)) := HQ.out.b.1.cell 1
                    have sP := run_cv hOP.src
                    try (have sB2 := run_cv (hOB.src.fr0 hFP))
                    go_wp2_with fail
                    refine hK.out _ _ ?_ (fun hHeld => ?_)
                    · (repeat' (first | assumption | refine ⟨?_, ?_⟩))
                    clear hK K
                    (try simp only [Act.put, List.setIfInBounds_toArray, List.set_cons_zero, List.set_cons_succ])
                    refine wpAnyH_add (fun W => (cv vP).run Try.prog W = .ok (.string (strOf (bs.drop ((a + 7) / 8)))) W) _ _ _ _ ?_
                    have hHeld2 := And.intro hHeld sP
                    refine wpAnyH_pick 28 (v := ?v25) rfl (by kernel_rfl) (by kernel_rfl) (by kernel_rfl) (fun _ _ _ h => h) (by assumption) (by rfl) ?hy25 ?rest25
                    case hy25 => (intro w hSw; (try dsimp only at hSw); go_simp) <;> (with_reducible rfl)
                    (try simp only [Act.put, List.setIfInBounds_toArray, List.set_cons_zero, List.set_cons_succ])
                    refine wpAnyH_pick 29 (v := ?v26) rfl (by kernel_rfl) (by kernel_rfl) (by kernel_rfl) (fun _ _ _ h => h) (by assumption) (by rfl) ?hy26 ?rest26
                    case hy26 => (intro w hSw; (try dsimp only at hSw); go_simp) <;> (with_reducible rfl)
                    (try simp only [Act.put, List.setIfInBounds_toArray, List.set_cons_zero, List.set_cons_succ])
                    refine wpAnyH_pick 30 (v := ?v27) rfl (by kernel_rfl) (by kernel_rfl) (by kernel_rfl) (fun _ _ _ h => h) (by assumption) (by rfl) ?hy27 ?rest27
                    case hy27 => (intro w hSw; (try dsimp only at hSw); go_simp) <;> (with_reducible rfl)
                    (try simp only [Act.put, List.setIfInBounds_toArray, List.set_cons_zero, List.set_cons_succ])
                    refine wpAnyH_done (by kernel_rfl) ?_ _
                    go_wp2_with fail
                    go_meet
                    case rel =>
                      first
                        | exact ⟨rfl, HQ.out⟩
                        | exact ⟨rfl, HP.out⟩
          case rest =>
            obtain ⟨rfl, hB⟩ := hcut
            have HB3 := Lib.hid hB; clear hB
            go_wp2_with fail
            go_roundw
            case rel => exact ⟨i + 1, a, by omega, by omega, by go_num, HB3.out⟩
            case measure => simp [intOf]; omega
    · have HB := Lib.hid hB; clear hB
      by_cases hlt1 : i < len
      · obtain rfl : i = 200 := by omega
        have eg : decide (200 < len) = true := by simpa using hlt1
        go_wp2_with fail
        refine (alive_any wr).mono ?_
        rintro e w3 ⟨rfl, hF3⟩
        go_wp2_with fail
        go_ret
        exact ⟨rfl, HB.out.fr.trans hF3 (by simp)⟩
      · obtain rfl : i = len := by omega
        have eg : decide (i < i) = false := by simp
        go_wp2_with fail
        refine (alive_any wr).mono ?_
        rintro e w3 ⟨rfl, hF3⟩
        go_wp2_with fail
        go_ret
        exact ⟨rfl, HB.out.fr.trans hF3 (by simp)⟩
end Go.Proofs.Ytgdfjoionaedgaa
