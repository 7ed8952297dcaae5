/-
  The law BitsWrites answers true whatever its input, and leaves its argument as it was; no condition.
-/
import Derived.Test.YtgdfjoionaedgaaBits8
import Derived.Test.YtgdfjoionaedgaaStr
import Derived.Test.YtgdfjoionaedgaaActs
import Derived.Deep.RegionHeld3
import Derived.Deep.DeepCutAuto
namespace Go.Proofs.Ytgdfjoionaedgaa
open Go.RowKit

/-- The writer has the bits L, the document's M; they lie apart, in memory that is new since w0. -/
structure Both (w0 w : World) (p : Nat) (v : Value) (L : List Bool) (q : Nat) (u : Value) (M : List Bool) : Prop where
  a : Wr w p v L
  b : Rw w q u M
  sep : Sep p v q u
  na : NewSince w0 p v
  nb : NewSince w0 q u
  fr : Fr [] w0 w

theorem bytes_new (w : World) (p : Nat) (v : Value) (L : List Bool) (h : Wr w p v L) (hL : L.length ≤ 100000000000) :
    Calls Try.prog 15 #[.pointer (some ⟨p, 0, none⟩)] w fun e w' => ∃ bs, PackOf bs L ∧ NewRow w bs e w' :=
  (bytes_any w p v L h (by omega)).mono fun _ _ ⟨bs, h1, h2⟩ => ⟨bs, h1, h2.row⟩

/-- Both writers, and the act that is looked at, in a block of its own. -/
def Here (w0 w : World) (x : Nat) (k n : Int) (a : Nat) (p : Nat) (v : Value) (L : List Bool) (q : Nat) (u : Value) (M : List Bool) : Prop :=
  Both w0 w p v L q u M ∧ Blk w x 31 #[.int .i64 k, .int .i64 n, .int .u64 (a : Int)] ∧ w0.heap.size ≤ x ∧ x ∉ p :: v.ownBlock.toList ∧ x ∉ q :: u.ownBlock.toList

theorem Wr.drew {w : World} {p : Nat} {v : Value} {L : List Bool} (h : Wr w p v L) : Wr w.drew p v L := h.fr (S := []) (Fr.refl _ _).drew (by simp) (by simp)
theorem Rw.drew {w : World} {p : Nat} {v : Value} {L : List Bool} (h : Rw w p v L) : Rw w.drew p v L := h.fr (S := []) (Fr.refl _ _).drew (by simp) (by simp)
theorem Wr.away {w w' : World} {p q : Nat} {v u u' : Value} {L : List Bool} (h : Wr w p v L) (hw : WFr q u u' w w') (hs : Sep q u p v) : Wr w' p v L := h.fr hw.1 hs.out.1 hs.out.2
theorem Rw.away {w w' : World} {p q : Nat} {v u u' : Value} {L : List Bool} (h : Rw w p v L) (hw : WFr q u u' w w') (hs : Sep q u p v) : Rw w' p v L := h.fr hw.1 hs.out.1 hs.out.2

theorem Here.new {w0 w : World} {x : Nat} {k n : Int} {a : Nat} {p : Nat} {v : Value} {L : List Bool} {q : Nat} {u : Value} {M : List Bool} {wt : World} (h : Both w0 w p v L q u M) (hx : x = w.heap.size) (hw : wt = w.alloc (.cells #[.int .i64 k, .int .i64 n, .int .u64 (a : Int)] 31)) : Here w0 wt x k n a p v L q u M := by
  subst hx hw
  have hp := h.a.lt
  have hq := h.b.lt
  refine ⟨⟨h.a.fr (S := []) ((Fr.refl _ _).alloc _) (by simp) (by simp), h.b.fr (S := []) ((Fr.refl _ _).alloc _) (by simp) (by simp), h.sep, h.na, h.nb, h.fr.alloc _⟩, Blk.new _ _ _, h.fr.size, ?_, ?_⟩
  · intro hm
    rcases List.mem_cons.1 hm with e | e
    · omega
    · have := h.a.lt2 _ (by simpa using e); omega
  · intro hm
    rcases List.mem_cons.1 hm with e | e
    · omega
    · have := h.b.lt2 _ (by simpa using e); omega

theorem Here.parts {w0 w : World} {x : Nat} {k n : Int} {a : Nat} {p : Nat} {v : Value} {L : List Bool} {q : Nat} {u : Value} {M : List Bool} (h : Here w0 w x k n a p v L q u M) :
    Blk w x 31 #[.int .i64 k, .int .i64 n, .int .u64 (a : Int)] ∧ Wr w p v L ∧ Rw w q u M ∧ Sep p v q u ∧ x ∉ p :: v.ownBlock.toList ∧ x ∉ q :: u.ownBlock.toList ∧ p < w.heap.size ∧ q < w.heap.size ∧ (∀ k, v.ownBlock = some k → k < w.heap.size) ∧ (∀ k, u.ownBlock = some k → k < w.heap.size) :=
  ⟨h.2.1, h.1.a, h.1.b, h.1.sep, h.2.2.2.1, h.2.2.2.2, h.1.a.lt, h.1.b.lt, h.1.a.lt2, h.1.b.lt2⟩

section
variable {w0 w w' : World} {x : Nat} {k n : Int} {a p q : Nat} {v u v2 u2 : Value} {L M L2 : List Bool}
theorem Here.drew (h : Here w0 w x k n a p v L q u M) : Here w0 w.drew x k n a p v L q u M :=
  ⟨⟨h.1.a.drew, h.1.b.drew, h.1.sep, h.1.na, h.1.nb, h.1.fr.drew⟩, h.2.1.drew, h.2.2⟩
theorem Here.drewN (h : Here w0 w x k n a p v L q u M) (j : Nat) : Here w0 (w.drewN j) x k n a p v L q u M :=
  ⟨⟨h.1.a.fr (S := []) ((Fr.refl _ _).drewN j) (by simp) (by simp), h.1.b.fr (S := []) ((Fr.refl _ _).drewN j) (by simp) (by simp), h.1.sep, h.1.na, h.1.nb, h.1.fr.drewN j⟩, h.2.1.drewN j, h.2.2⟩
theorem Here.fr0 (h : Here w0 w x k n a p v L q u M) (hf : Fr [] w w') : Here w0 w' x k n a p v L q u M :=
  ⟨⟨h.1.a.fr hf (by simp) (by simp), h.1.b.fr hf (by simp) (by simp), h.1.sep, h.1.na, h.1.nb, h.1.fr.trans hf (by simp)⟩, h.2.1.fr hf (by simp), h.2.2⟩
theorem out_step (hx : x < w.heap.size) (h : x ∉ p :: v.ownBlock.toList) (g : WFr p v v2 w w') : x ∉ p :: v2.ownBlock.toList := by
  intro hm
  rcases List.mem_cons.1 hm with e | e
  · exact h (by rw [e]; exact List.mem_cons_self ..)
  · rcases g.2 with e2 | ⟨j, e2, hj⟩
    · rw [e2] at e; exact h (List.mem_cons_of_mem _ e)
    · rw [e2] at e; simp at e; omega
theorem Here.stepA (h : Here w0 w x k n a p v L q u M) (g : WFr p v v2 w w') (hA : Wr w' p v2 L2) : Here w0 w' x k n a p v2 L2 q u M := by
  obtain ⟨⟨h1, h2, h3, h4, h5, h6⟩, hb, hx, ho1, ho2⟩ := h
  obtain ⟨f, ns⟩ := g.since h6 h4
  exact ⟨⟨hA, h2.away g h3, h3.step g h2.lt h2.lt2, ns, h5, f⟩, hb.fr g.1 ho1, hx, out_step hb.lt ho1 g, ho2⟩
theorem Here.stepB (h : Here w0 w x k n a p v L q u M) (g : WFr q u u2 w w') (hB : Rw w' q u2 L2) : Here w0 w' x k n a p v L q u2 L2 := by
  obtain ⟨⟨h1, h2, h3, h4, h5, h6⟩, hb, hx, ho1, ho2⟩ := h
  obtain ⟨f, ns⟩ := g.since h6 h5
  exact ⟨⟨h1.away g h3.symm, hB, (h3.symm.step g h1.lt h1.lt2).symm, h4, ns, f⟩, hb.fr g.1 ho2, hx, ho1, out_step hb.lt ho2 g⟩
end

/-- The act's three cells in a later world. -/
def Three (w : World) (x : Nat) (k n : Int) (a : Nat) : Prop :=
  w.cell? ⟨x, 0, none⟩ = some (.int .i64 k) ∧ w.cell? ⟨x, 1, none⟩ = some (.int .i64 n) ∧ w.cell? ⟨x, 2, none⟩ = some (.int .u64 (a : Int))
theorem Blk.three {w : World} {x : Nat} {k n : Int} {a : Nat} (h : Blk w x 31 #[.int .i64 k, .int .i64 n, .int .u64 (a : Int)]) : Three w x k n a := ⟨h.cell 0, h.cell 1, h.cell 2⟩

set_option maxRecDepth 100000 in
set_option maxHeartbeats 2000000 in
theorem writes_any (A : Option Addr) (len cap : Nat) (acts : List (Int × Int × Nat)) (w : World) (hA : Acts w A len acts) (hm : len ≤ maxLen) :
    Calls Try.prog 3 #[.slice A len cap] w fun e w' => e = .returned (.bool true) ∧ Fr [] w w' := by
  simp only [maxLen] at hm
  go_enter Try.func3, Try.ntmps3
  go_wp2_with fail
  refine (new_any w).mono ?_
  rintro e w1 ⟨rfl, hw1⟩
  have hF1 : Fr [] w w1 := by rw [hw1]; exact (Fr.refl _ _).alloc _
  have hW1 : Wr w1 w.heap.size (.slice none 0 0) [] := by rw [hw1]; exact Wr.new w
  have hN1 : NewSince w w.heap.size (.slice none 0 0) := ⟨Nat.le_refl _, by simp [Value.ownBlock]⟩
  clear hw1
  obtain ⟨p, hp⟩ : ∃ p, p = w.heap.size := ⟨_, rfl⟩
  rw [← hp] at hW1 hN1 ⊢
  clear hp
  go_wp2_with fail
  obtain ⟨q, hq⟩ : ∃ q, q = w1.heap.size := ⟨_, rfl⟩
  rw [← hq]
  have hI : Both w (w1.alloc (.cells #[.slice none 0 0] 28)) p (.slice none 0 0) [] q (.slice none 0 0) [] := by
    refine ⟨hW1.fr (S := []) ((Fr.refl _ _).alloc _) (by simp) (by simp), ?_, ?_, hN1, ?_, hF1.alloc _⟩
    · rw [hq]; exact ⟨Blk.new _ _ _, Own.nil _ _, by simp [Value.ownBlock]⟩
    · refine ⟨?_, by simp [Value.ownBlock], by simp [Value.ownBlock], by simp [Value.ownBlock]⟩
      have := hW1.lt; omega
    · exact ⟨by rw [hq]; exact hF1.size, by simp [Value.ownBlock]⟩
  clear hq hW1 hN1 hF1
  have HI := Lib.hid hI; clear hI
  go_loopw [5] (fun s5 wr => ∃ (i : Nat) (v u : Value) (L : List Bool), i ≤ len ∧ i ≤ 200 ∧ s5 = .int .i64 (i : Int) ∧ L.length ≤ 64 * i ∧ Both w wr p v L q u L) (fun s5 _ => 200 - (intOf s5).toNat)
  case atStart => exact ⟨0, _, _, [], by omega, by omega, rfl, by simp, HI.out⟩
  case round =>
    obtain ⟨i, v, u, L, hi1, hi2, rfl, hL, hB⟩ := hrel
    by_cases hlt : i < len ∧ i < 200
    · obtain ⟨hlt1, hlt2⟩ := hlt
      have hA2 := hA.fr hB.fr
      obtain ⟨⟨k, n, a⟩, hact⟩ : ∃ x, acts[i]? = some x := ⟨_, List.getElem?_eq_getElem (by have := hA.1; omega)⟩
      obtain ⟨ha, b, o, rfl, e1, e2, e3⟩ := hA2.2 i k n a hact
      clear hact hA2
      have HB := Lib.hid hB; clear hB
      have eg : decide (i < len) = true := by simpa using hlt1
      have eg2 : decide ((i : Int) < 200) = true := by simp; omega
      go_wp2_with fail
      obtain ⟨x, hx⟩ : ∃ x, x = wr.heap.size := ⟨_, rfl⟩
      obtain ⟨wt, hwt⟩ : ∃ wt, wt = wr.alloc (.cells #[.int .i64 k, .int .i64 n, .int .u64 (a : Int)] 31) := ⟨_, rfl⟩
      rw [← hwt, ← hx]
      have hT : Here w wt x k n a p v L q u L := Here.new HB.out hx hwt
      clear hx hwt e1 e2 e3
      have HT := Lib.hid hT; clear hT
      go_cut [41] (fun s41 wc => ∃ (v u : Value) (L' : List Bool), s41 = .bool false ∧ (k = 1 → L'.length ≤ 64 * i + 64) ∧ (k ≠ 1 → L'.length ≤ 64 * i) ∧ Here w wc x k n a p v L' q u L')
      case first =>
        by_cases hk : k = 1
        · have ek : (k == 1) = true := by simpa using hk
          have Hk := Lib.hid hk; clear hk
          obtain ⟨hB, hW, hR, hS, hn1, hn2, hp, hq, hv, hu⟩ := HT.out.parts
          have c0 := hB.cell 0
          have c1 := hB.cell 1
          have c2 := hB.cell 2
          simp at c0 c1 c2
          have HW := Lib.hid hW; clear hW
          have HR := Lib.hid hR; clear hR
          have HS := Lib.hid hS; clear hS
          have HBx := Lib.hid hB; clear hB
          have hLb : L.length ≤ 100000000000 := by omega
          go_region_held3 (fun w' => w'.cell? ⟨x, 0, none⟩ = some (.int .i64 k) ∧ w'.cell? ⟨x, 1, none⟩ = some (.int .i64 n) ∧ w'.cell? ⟨x, 2, none⟩ = some (.int .u64 (a : Int)))
            (first
              | (exact kP)
              | (exact kR)
              | go_keep)
            (first
              | (go_at_call 10; first
                  | (refine (put_total p v L a n _ (Wr.drew HW.out) ha hLb).mono ?_)
                  | (refine (put_total p v L a n _ ((Wr.drew HW.out).away gR HS.out.symm) ha hLb).mono ?_)
                 rintro e wP ⟨rfl, v2, hP, gP⟩
                 first
                  | (have bP := HBx.out.drew.fr gP.1 hn1)
                  | (have bP := bR.fr gP.1 hn1)
                 obtain kP := bP.three)
              | (go_at_call 11; first
                  | (refine (rput_total q u L a n _ (Rw.drew HR.out) ha hLb).mono ?_)
                  | (refine (rput_total q u L a n _ ((Rw.drew HR.out).away gP HS.out) ha hLb).mono ?_)
                 rintro e wR ⟨rfl, u2, hR2, gR⟩
                 first
                  | (have bR := HBx.out.drew.fr gR.1 hn2)
                  | (have bR := bP.fr gR.1 hn2)
                 obtain kR := bR.three))
          all_goals
            go_wp2_with fail
            go_meet
            case rel =>
              have hH := HT.out.drew
              have hk := Hk.out
              refine ⟨v2, u2, (wput L a n).2, rfl, fun _ => ?_, fun h => absurd hk h, ?_⟩
              · have := wput_len L a n; omega
              · first
                | exact (hH.stepA gP hP).stepB gR hR2
                | exact (hH.stepB gR hR2).stepA gP hP
        · have ek : (k == 1) = false := by simpa using hk
          have Hk := Lib.hid hk; clear hk
          have c0 := HT.out.2.1.cell 0
          simp at c0
          go_quiet (fail)
          go_wp2_with fail
          go_meet
          case rel => exact ⟨v, u, L, rfl, fun h => absurd h Hk.out, fun _ => hL, HT.out.drewN _⟩
      case rest =>
        obtain ⟨v, u, L, rfl, hl1, hl2, hH⟩ := hcut
        clear HB HT
        have c0 := hH.2.1.cell 0
        simp at c0
        have HH := Lib.hid hH; clear hH
        have Hl1 := Lib.hid hl1; clear hl1
        have Hl2 := Lib.hid hl2; clear hl2
        go_upto_if 44 with fail
        go_cut [44] (fun _ wc => ∃ (v u : Value) (L' : List Bool), L'.length ≤ 64 * i + 64 ∧ Here w wc x k n a p v L' q u L')
        case first =>
          by_cases hk : k = 2
          · have ek : (k == 2) = true := by simpa using hk
            have hl := Hl2.out (by omega)
            have Hk := Lib.hid hk; clear hk
            have hLb : L.length ≤ 100000000000 := by omega
            go_wp2_with fail
            refine (rwalign_any q u L _ HH.out.1.b hLb).mono ?_
            rintro e wR ⟨rfl, u2, hR2, gR⟩
            have hH2 := HH.out.stepB gR hR2
            have HH2 := Lib.hid hH2; clear hH2 hR2 gR
            go_wp2_with fail
            refine (walign_any _ p v L HH2.out.1.a hLb).mono ?_
            rintro e wP ⟨rfl, hP2, gP⟩
            have hH3 := HH2.out.stepA ⟨gP.mono (by simp), .inl rfl⟩ hP2
            have HH3 := Lib.hid hH3; clear hH3 hP2 gP
            go_wp2_with fail
            go_meet
            case rel => exact ⟨_, _, _, by have := walg_len L; unfold walg at this; omega, HH3.out⟩
          · have ek : (k == 2) = false := by simpa using hk
            have hl : L.length ≤ 64 * i + 64 := by
              by_cases h1 : k = 1
              · exact Hl1.out h1
              · have := Hl2.out h1; omega
            have Hk := Lib.hid hk; clear hk
            go_wp2_with fail
            go_meet
            case rel => exact ⟨v, u, L, hl, HH.out⟩
        case rest =>
          obtain ⟨v, u, L, hl, hH⟩ := hcut
          clear HH Hl1 Hl2 c0
          go_upto_region 13 with fail
          go_cut [69] (fun s69 wc => ∃ (v u : Value), s69 = .bool false ∧ Both w wc p v L q u L)
          case first =>
            obtain ⟨A2, c2, rfl⟩ := hH.1.b.2.1.src.slice
            rw [bitsU_length] at hH
            have c0 := hH.1.b.1.cell 0
            have c3 := hH.1.b.lt
            simp at c0
            have HD := Lib.hid hH.drew; clear hH
            have hLb : L.length ≤ 100000000000 := by omega
            have k0 : wc.drew.cell? ⟨q, 0, none⟩ = some (.slice A2 L.length c2) := c0
            go_region_law (first
                | (go_simp; go_at_call 14; refine (wlen_any _ p v L HD.out.1.a).mono ?_; rintro e wL ⟨rfl, rfl⟩)
                | (go_simp; go_at_call 15
                   first
                    | (refine (bytes_new _ p v L HD.out.1.a hLb).mono ?_)
                    | (refine (bytes_new _ p v L HQ.out.1.a hLb).mono ?_)
                   rintro e wB ⟨bsB, hbB, vB, rfl, hOB, hFB, -⟩
                   first
                    | (have hB1 := HD.out.fr0 hFB)
                    | (have hB1 := HQ.out.fr0 hFB)
                   have kB : wB.cell? ⟨q, 0, none⟩ = some (.slice A2 L.length c2) := hB1.1.b.1.cell 0
                   have HE := Lib.hid hB1; clear hB1
                   have sB := run_string hOB.src
                   try (have sP2 := run_string (hOP.src.fr0 hFB))
                   try (obtain rfl := hbP.unique hbB))
                | (go_simp; go_at_call 16
                   first
                    | (refine (pack_any _ L _ HD.out.1.b.2.1.src (by omega)).mono ?_)
                    | (refine (pack_any _ L _ HE.out.1.b.2.1.src (by omega)).mono ?_)
                   rintro e wP ⟨bsP, hbP, vP, rfl, hOP, hFP, -⟩
                   first
                    | (have hP1 := HD.out.fr0 hFP)
                    | (have hP1 := HE.out.fr0 hFP)
                   have kP : wP.cell? ⟨q, 0, none⟩ = some (.slice A2 L.length c2) := hP1.1.b.1.cell 0
                   have HQ := Lib.hid hP1; clear hP1
                   have sP := run_string hOP.src
                   try (have sB2 := run_string (hOB.src.fr0 hFP))
                   try (obtain rfl := hbB.unique hbP)))
            all_goals
              go_wp2_with fail
              go_meet
              case rel =>
                first
                  | exact ⟨v, _, rfl, HQ.out.1⟩
                  | exact ⟨v, _, rfl, HE.out.1⟩
          case rest =>
            obtain ⟨v, u, rfl, hB⟩ := hcut
            clear hH
            have HB2 := Lib.hid hB; clear hB
            go_wp2_with fail
            go_roundw
            case rel => exact ⟨i + 1, v, u, L, by omega, by omega, by go_num, by omega, HB2.out⟩
            case measure => simp [intOf]; omega
    · have HB := Lib.hid hB; clear hB
      by_cases hlt1 : i < len
      · obtain rfl : i = 200 := by omega
        have eg : decide (200 < len) = true := by simpa using hlt1
        go_wp2_with fail
        refine (alive_any wr).mono ?_
        rintro e w3 ⟨rfl, hF3⟩
        go_wp2_with fail
        go_ret
        exact ⟨rfl, HB.out.fr.trans hF3 (by simp)⟩
      · obtain rfl : i = len := by omega
        have eg : decide (i < i) = false := by simp
        go_wp2_with fail
        refine (alive_any wr).mono ?_
        rintro e w3 ⟨rfl, hF3⟩
        go_wp2_with fail
        go_ret
        exact ⟨rfl, HB.out.fr.trans hF3 (by simp)⟩
end Go.Proofs.Ytgdfjoionaedgaa
