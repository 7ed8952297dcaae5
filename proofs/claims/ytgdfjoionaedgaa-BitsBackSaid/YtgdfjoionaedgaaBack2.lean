/-
  The law BitsBack answers true whatever its input, and leaves its argument as it was; no condition.
-/
import Derived.Test.YtgdfjoionaedgaaBack1
import Derived.Deep.DeepCutAuto
namespace Go.Proofs.Ytgdfjoionaedgaa
open Go.RowKit

/-- A writer, and the acts that are done, apart, in memory that is new since w0. -/
structure Pen (w0 w : World) (p : Nat) (v : Value) (L : List Bool) (vd : Value) (acts : List (Int × Int × Nat)) : Prop where
  a : Wr w p v L
  na : NewSince w0 p v
  row : Row3 w0.heap.size w vd acts
  fr : Fr [] w0 w

theorem WFr.align {p : Nat} {v : Value} {w w' : World} (h : Fr [p] w w') : WFr p v v w w' := ⟨h.mono (by simp), .inl rfl⟩

section
variable {w0 w w' : World} {p : Nat} {v v2 vd vd2 : Value} {L L2 : List Bool} {acts acts2 : List (Int × Int × Nat)}
theorem Pen.fr0 (h : Pen w0 w p v L vd acts) (hf : Fr [] w w') : Pen w0 w' p v L vd acts :=
  ⟨h.a.fr hf (by simp) (by simp), h.na, h.row.fr0 hf, h.fr.trans hf (by simp)⟩
theorem Pen.put (h : Pen w0 w p v L vd acts) (g : WFr p v v2 w w') (hA : Wr w' p v2 L2) : Pen w0 w' p v2 L2 vd acts := by
  obtain ⟨f, ns⟩ := g.since h.fr h.na
  exact ⟨hA, ns, h.row.fr g.1 (h.row.apartW h.a), f⟩
theorem Pen.app (h : Pen w0 w p v L vd acts) (hf : Fr vd.ownBlock.toList w w') (hR : Row3 w0.heap.size w' vd2 acts2) : Pen w0 w' p v L vd2 acts2 :=
  ⟨h.a.fr hf (h.row.backW h.a).1 (h.row.backW h.a).2, h.na, hR, h.fr.trans hf (fun k hk => .inr (h.row.lt k (by simpa using hk)).1)⟩
end

/-- And the act that is looked at, in a block of its own. -/
def PenX (w0 w : World) (x : Nat) (k n : Int) (y : Nat) (p : Nat) (v : Value) (L : List Bool) (vd : Value) (acts : List (Int × Int × Nat)) : Prop :=
  Pen w0 w p v L vd acts ∧ Blk w x 31 #[.int .i64 k, .int .i64 n, .int .u64 (y : Int)]

section
variable {w0 w w' : World} {x : Nat} {k n : Int} {y p : Nat} {v v2 vd : Value} {L L2 : List Bool} {acts : List (Int × Int × Nat)}
theorem Blk.apartW {t : TypeId} {cs : Array Value} (hb : Blk w x t cs) (hW : Wr w p v L) (h1 : t ≠ 55) (h2 : t ≠ 5) : x ∉ p :: v.ownBlock.toList := by
  intro hm
  obtain ⟨bs, hB, hO, -, -⟩ := hW
  rcases List.mem_cons.1 hm with rfl | hm
  · exact h1 (hb.type_eq hB)
  · rcases hO.form with ⟨rfl, -⟩ | ⟨g', cap', cur', rfl, hb', -⟩
    · simp [Value.ownBlock] at hm
    · simp [Value.ownBlock] at hm
      subst hm
      exact h2 (hb.type_eq hb')
theorem PenX.new {wt : World} (h : Pen w0 w p v L vd acts) (hx : x = w.heap.size) (hw : wt = w.alloc (.cells #[.int .i64 k, .int .i64 n, .int .u64 (y : Int)] 31)) : PenX w0 wt x k n y p v L vd acts := by
  subst hx hw
  exact ⟨h.fr0 ((Fr.refl _ _).alloc _), Blk.new _ _ _⟩
theorem PenX.put (h : PenX w0 w x k n y p v L vd acts) (g : WFr p v v2 w w') (hA : Wr w' p v2 L2) : PenX w0 w' x k n y p v2 L2 vd acts :=
  ⟨h.1.put g hA, h.2.fr g.1 (h.2.apartW h.1.a (by decide) (by decide))⟩
end

/-- What the writer has, and the reader of its bytes. -/
structure Bak (w0 w : World) (p : Nat) (v : Value) (L : List Bool) (vd : Value) (acts : List (Int × Int × Nat)) (q : Nat) (vr : Value) (bs : List UInt8) (a : Nat) : Prop where
  wr : Wr w p v L
  row : Row3 w0.heap.size w vd acts
  r : Rd w q vr bs a
  nq : w0.heap.size ≤ q
  pq : p ∉ [q] ∧ ∀ k, v.ownBlock = some k → k ∉ [q]
  fr : Fr [] w0 w
section
variable {w0 w w' : World} {p q a a2 : Nat} {v vd vr : Value} {L : List Bool} {acts : List (Int × Int × Nat)} {bs : List UInt8}
theorem Bak.fr0 (h : Bak w0 w p v L vd acts q vr bs a) (hf : Fr [] w w') : Bak w0 w' p v L vd acts q vr bs a :=
  ⟨h.wr.fr hf (by simp) (by simp), h.row.fr0 hf, h.r.fr hf (by simp) (by simp), h.nq, h.pq, h.fr.trans hf (by simp)⟩
theorem Bak.step (h : Bak w0 w p v L vd acts q vr bs a) (hf : Fr [q] w w') (hR : Rd w' q vr bs a2) : Bak w0 w' p v L vd acts q vr bs a2 :=
  ⟨h.wr.fr hf h.pq.1 h.pq.2, h.row.fr hf (h.row.apartR h.r), hR, h.nq, h.pq, h.fr.trans hf (by intro x hx; simp at hx; subst hx; exact .inr h.nq)⟩
theorem Bak.new (h : Pen w0 w p v L vd acts) (hf : Fr [] w w') (hR : Rd w' q vr bs 0) (hq : w.heap.size ≤ q) : Bak w0 w' p v L vd acts q vr bs 0 := by
  have h1 := h.a.lt
  have h2 := h.a.lt2
  have h3 := h.fr.size
  refine ⟨(h.fr0 hf).a, (h.fr0 hf).row, hR, by omega, ⟨by simp; omega, fun k hk => ?_⟩, (h.fr0 hf).fr⟩
  have := h2 k hk; simp; omega
end

/-- What has been done up to now. -/
def Did (i : Nat) (L : List Bool) (acts : List (Int × Int × Nat)) : Prop := L.length ≤ 64 * i ∧ acts.length ≤ i ∧ bitsOf acts = L ∧ ∀ x ∈ acts, FitAct x
theorem Did.nil : Did 0 [] [] := ⟨by simp, by simp, rfl, by simp⟩
theorem Did.skip {i : Nat} {L : List Bool} {acts : List (Int × Int × Nat)} (h : Did i L acts) : Did (i + 1) L acts := ⟨by have := h.1; omega, by have := h.2.1; omega, h.2.2⟩
theorem Did.put {i : Nat} {L : List Bool} {acts : List (Int × Int × Nat)} {n y : Nat} (h : Did i L acts) (hn : n ≤ 64) (hy : y < 2 ^ n) : Did (i + 1) (L ++ digits y n) (acts ++ [(1, (n : Int), y)]) := by
  obtain ⟨h1, h2, h3, h4⟩ := h
  refine ⟨by simp; omega, by simp; omega, by rw [bitsOf_append, h3]; simp [stepBits], ?_⟩
  intro x hx
  rcases List.mem_append.1 hx with hx | hx
  · exact h4 x hx
  · simp at hx; subst hx; exact .inl ⟨rfl, by simp, by simp; omega, by simpa using hy⟩
theorem Did.align {i : Nat} {L : List Bool} {acts : List (Int × Int × Nat)} {n : Int} {y : Nat} (h : Did i L acts) : Did (i + 1) (L ++ List.replicate ((8 - L.length % 8) % 8) false) (acts ++ [(2, n, y)]) := by
  obtain ⟨h1, h2, h3, h4⟩ := h
  refine ⟨by simp; omega, by simp; omega, by rw [bitsOf_append, h3]; simp [stepBits, walg], ?_⟩
  intro x hx
  rcases List.mem_append.1 hx with hx | hx
  · exact h4 x hx
  · simp at hx; subst hx; exact .inr rfl

set_option maxRecDepth 100000 in
set_option maxHeartbeats 4000000 in
theorem back_any (A : Option Addr) (len cap : Nat) (script : List (Int × Int × Nat)) (w : World) (hA : Acts w A len script) (hm : len ≤ maxLen) :
    Calls Try.prog 5 #[.slice A len cap] w fun e w' => e = .returned (.bool true) ∧ Fr [] w w' := by
  simp only [maxLen] at hm
  have HA := Lib.hid hA; clear hA
  go_enter Try.func5, Try.ntmps5
  go_wp2_with fail
  refine (new_any w).mono ?_
  rintro e w1 ⟨rfl, hw1⟩
  have hP : Pen w w1 w.heap.size (.slice none 0 0) [] (.slice none 0 0) [] := by
    rw [hw1]
    exact ⟨Wr.new w, ⟨Nat.le_refl _, by simp [Value.ownBlock]⟩, Row3.nil _ _, (Fr.refl _ _).alloc _⟩
  clear hw1
  obtain ⟨p, hp⟩ : ∃ p, p = w.heap.size := ⟨_, rfl⟩
  rw [← hp]
  rw [← hp] at hP
  clear hp
  have HP := Lib.hid hP; clear hP
  go_wp2_with fail
  go_loopw [4, 5] (fun s4 s5 wr => ∃ (i : Nat) (v : Value) (L : List Bool) (acts : List (Int × Int × Nat)), i ≤ len ∧ i ≤ 200 ∧ s5 = .int .i64 (i : Int) ∧ Did i L acts ∧ Pen w wr p v L s4 acts) (fun _ s5 _ => 200 - (intOf s5).toNat)
  case atStart => exact ⟨0, _, [], [], by omega, by omega, rfl, Did.nil, HP.out⟩
  case round =>
    obtain ⟨i, v, L, acts, hi1, hi2, rfl, hD, hP⟩ := hrel
    have HD := Lib.hid hD; clear hD
    by_cases hlt : i < len ∧ i < 200
    · obtain ⟨hlt1, hlt2⟩ := hlt
      obtain ⟨⟨k, m, y⟩, hact⟩ : ∃ x, script[i]? = some x := ⟨_, List.getElem?_eq_getElem (by have := HA.out.1; omega)⟩
      obtain ⟨hy, b, o, rfl, e1, e2, e3⟩ := (HA.out.fr hP.fr).2 i k m y hact
      clear hact
      have HP2 := Lib.hid hP; clear hP
      have eg : decide (i < len) = true := by simpa using hlt1
      have eg2 : decide ((i : Int) < 200) = true := by simp; omega
      go_upto_region 7 with fail
      obtain ⟨x, hx⟩ : ∃ x, x = wr.heap.size := ⟨_, rfl⟩
      obtain ⟨wt, hwt⟩ : ∃ wt, wt = wr.alloc (.cells #[.int .i64 k, .int .i64 m, .int .u64 (y : Int)] 31) := ⟨_, rfl⟩
      rw [← hwt, ← hx]
      have hT : PenX w wt x k m y p v L u4 acts := PenX.new HP2.out hx hwt
      clear hx hwt e1 e2 e3
      have c0 := hT.2.cell 0
      have c1 := hT.2.cell 1
      have c2 := hT.2.cell 2
      simp at c0 c1 c2
      have HT := Lib.hid hT; clear hT HP2
      by_cases hk1 : k = 1
      · subst hk1
        by_cases hfit : 0 ≤ m ∧ m ≤ 64 ∧ y < 2 ^ m.toNat
        · obtain ⟨hm0, hm64, hym⟩ := hfit
          obtain ⟨m, rfl⟩ := Int.eq_ofNat_of_zero_le hm0
          simp only [Int.toNat_natCast] at hym
          have Hym := Lib.hid hym; clear hym
          go_wp2_with fail
          refine (put_ok p v L y m wt HT.out.1.a (by omega) Hym.out (by have := HD.out.1; omega)).mono ?_
          rintro e wA ⟨rfl, v2, hA, gA⟩
          have hT2 := HT.out.put gA hA
          clear hA gA c0 c1 c2
          have c0 := hT2.2.cell 0
          have c1 := hT2.2.cell 1
          have c2 := hT2.2.cell 2
          simp at c0 c1 c2
          have HT2 := Lib.hid hT2; clear hT2 HT
          go_wp2_with (at_builtin; refine wp_append_act w.heap.size _ _ u4 acts 1 (m : Int) y wA.heap.size 1 rfl rfl rfl rfl (HT2.out.1.row.fr0 ((Fr.refl _ _).alloc _)) ((Blk.new wA 31 #[.int .i64 1, .int .i64 (m : Int), .int .u64 (y : Int)]).cell 0) ((Blk.new wA 31 #[.int .i64 1, .int .i64 (m : Int), .int .u64 (y : Int)]).cell 1) ((Blk.new wA 31 #[.int .i64 1, .int .i64 (m : Int), .int .u64 (y : Int)]).cell 2) (by have := HD.out.2.1; omega) ?_ ?_)
          · have := HT2.out.1.fr.size; simp; omega
          intro vd2 w3 hR3 hF3
          have HP3 := Lib.hid ((HT2.out.1.fr0 ((Fr.refl _ _).alloc _)).app hF3 hR3)
          clear hR3 hF3 HT2 c0 c1 c2
          go_wp2_with fail
          go_roundw
          case rel => exact ⟨i + 1, _, _, _, by omega, by omega, by go_num, HD.out.put (by omega) Hym.out, HP3.out⟩
          case measure => simp [intOf]; omega
        · have e1 : wput L y m = (1, L) := by
            unfold wput
            rw [if_pos (by omega)]
          have g1 : Calls Try.prog 10 #[.pointer (some ⟨p, 0, none⟩), .int .u64 (y : Int), .int .i64 m] wt fun e w' => e = .returned (.int .i64 1) ∧ ∃ v', Wr w' p v' L ∧ WFr p v v' wt w' := by
            have := put_total p v L y m wt HT.out.1.a hy (by have := HD.out.1; omega)
            rw [e1] at this
            exact this
          have G1 := Lib.hid g1
          clear e1 g1 hfit
          go_wp2_with fail
          refine G1.out.mono ?_
          rintro e wA ⟨rfl, v2, hA, gA⟩
          have hT2 := HT.out.put gA hA
          clear hA gA c0 c1 c2 G1
          have c0 := hT2.2.cell 0
          simp at c0
          have HT2 := Lib.hid hT2; clear hT2 HT
          go_wp2_with fail
          go_roundw
          case rel => exact ⟨i + 1, _, _, _, by omega, by omega, by go_num, HD.out.skip, HT2.out.1⟩
          case measure => simp [intOf]; omega
      by_cases hk2 : k = 2
      · subst hk2
        go_wp2_with fail
        refine (walign_any wt p v L HT.out.1.a (by have := HD.out.1; omega)).mono ?_
        rintro e wA ⟨rfl, hA, fA⟩
        have hT2 := HT.out.put (WFr.align fA) hA
        clear hA fA c0 c1 c2
        have c0 := hT2.2.cell 0
        have c1 := hT2.2.cell 1
        have c2 := hT2.2.cell 2
        simp at c0 c1 c2
        have HT2 := Lib.hid hT2; clear hT2 HT
        go_wp2_with (at_builtin; refine wp_append_act w.heap.size _ _ u4 acts 2 m y wA.heap.size 1 rfl rfl rfl rfl (HT2.out.1.row.fr0 ((Fr.refl _ _).alloc _)) ((Blk.new wA 31 #[.int .i64 2, .int .i64 m, .int .u64 (y : Int)]).cell 0) ((Blk.new wA 31 #[.int .i64 2, .int .i64 m, .int .u64 (y : Int)]).cell 1) ((Blk.new wA 31 #[.int .i64 2, .int .i64 m, .int .u64 (y : Int)]).cell 2) (by have := HD.out.2.1; omega) ?_ ?_)
        · have := HT2.out.1.fr.size; simp; omega
        intro vd2 w3 hR3 hF3
        have HP3 := Lib.hid ((HT2.out.1.fr0 ((Fr.refl _ _).alloc _)).app hF3 hR3)
        clear hR3 hF3 HT2 c0 c1 c2
        go_wp2_with fail
        go_roundw
        case rel => exact ⟨i + 1, _, _, _, by omega, by omega, by go_num, HD.out.align, HP3.out⟩
        case measure => simp [intOf]; omega
      · have ek1 : (k == 1) = false := by simpa using hk1
        have ek2 : (k == 2) = false := by simpa using hk2
        clear hk1 hk2
        go_wp2_with fail
        go_roundw
        case rel => exact ⟨i + 1, _, _, _, by omega, by omega, by go_num, HD.out.skip, HT.out.1⟩
        case measure => simp [intOf]; omega
    · have HP2 := Lib.hid hP; clear hP
      have hfin : ((i : Int) < len → False) ∨ ¬ (i : Int) < 200 := by omega
      have hlen : i = len ∨ (i < len ∧ i = 200) := by omega
      have HDD : Hid (L.length ≤ 12800 ∧ acts.length ≤ 200 ∧ bitsOf acts = L ∧ ∀ x ∈ acts, FitAct x) := Lib.hid ⟨by have := HD.out.1; omega, by have := HD.out.2.1; omega, HD.out.2.2⟩
      clear HD hfin hlt
      have eg : i = len ∨ (decide (i < len) = true ∧ i = 200) := by
        rcases hlen with h | ⟨h1, h2⟩
        · exact .inl h
        · exact .inr ⟨by simpa using h1, h2⟩
      clear hlen
      rcases eg with rfl | ⟨eg, rfl⟩
      · go_wp2_with fail
        refine (bytes_row wr p v L HP2.out.a (by have := HDD.out.1; omega)).mono ?_
        rintro e w5 ⟨bs, hbs, vB, rfl, hO5, hF5, -⟩
        have HP5 := Lib.hid (HP2.out.fr0 hF5)
        have hbl : bs.length ≤ 1601 := by have := hbs.1; have := HDD.out.1; omega
        have HPk : Hid (PackOf bs (bitsOf acts)) := Lib.hid (by rw [HDD.out.2.2.1]; exact hbs)
        have HO5 := Lib.hid hO5
        clear hbs hO5 hF5 HP2
        go_wp2_with fail
        refine (open_any _ bs w5 HO5.out.src (by omega)).mono ?_
        rintro e w6 ⟨q, vr, rfl, hR6, hF6, hq6, -⟩
        have hB6 := Bak.new HP5.out hF6 hR6 hq6
        obtain ⟨Ad, cd, rfl⟩ := hB6.row.slice
        have HB6 := Lib.hid hB6
        clear hB6 hR6 hF6 hq6 HO5 HP5
        go_wp2_with fail
        go_loopw [8] (fun s8 wr2 => ∃ j : Nat, j ≤ acts.length ∧ s8 = .int .i64 (j : Int) ∧ Bak w wr2 p v L (.slice Ad acts.length cd) acts q vr bs (bitsOf (acts.take j)).length) (fun s8 _ => acts.length - (intOf s8).toNat)
        case atStart => exact ⟨0, Nat.zero_le _, rfl, by simpa [bitsOf] using HB6.out⟩
        case round =>
          obtain ⟨j, hj, rfl, hB⟩ := hrel
          by_cases hlt : j < acts.length
          · obtain ⟨⟨k, m, y⟩, hact⟩ : ∃ x, acts[j]? = some x := ⟨_, List.getElem?_eq_getElem hlt⟩
            have hfit := HDD.out.2.2.2 _ (List.mem_of_getElem? hact)
            obtain ⟨g, rfl, -, hcap, c0, c1, c2⟩ := hB.row.at_ hact
            obtain ⟨a, ha⟩ : ∃ a, a = (bitsOf (acts.take j)).length := ⟨_, rfl⟩
            obtain ⟨a2, ha2⟩ : ∃ a2, a2 = (bitsOf (acts.take (j + 1))).length := ⟨_, rfl⟩
            rw [← ha] at hB
            have HB := Lib.hid hB; clear hB
            have h200 := HDD.out.2.1
            by_cases hk : k = 2
            · subst hk
              have hal := back_align HPk.out hact
              rw [← ha, ← ha2] at hal
              have em : (a2 : Int) % 8 = 0 := by have := hal.2; omega
              have Hal := Lib.hid hal; clear hal
              have Ha2 := Lib.hid ha2; clear ha2
              clear ha hact hfit
              go_wp2_with fail
              have g1 : Calls Try.prog 22 #[.pointer (some ⟨q, 0, none⟩)] wr fun e w' => e = .returned (.int .i64 0) ∧ Rd w' q vr bs a2 ∧ Fr [q] wr w' := by
                have := ralign_total q vr bs a wr HB.out.r (by omega)
                rw [Hal.out.1] at this
                exact this
              refine g1.mono ?_
              rintro e wA ⟨rfl, hA, fA⟩
              have HB2 := Lib.hid (HB.out.step fA hA)
              clear hA fA g1 c0 c1 c2 HB
              go_wp2_with fail
              refine (at_any wA q vr bs a2 HB2.out.r).mono ?_
              rintro e wB ⟨rfl, rfl⟩
              go_wp2_with fail
              go_roundw
              case rel => exact ⟨j + 1, by omega, by go_num, by rw [← Ha2.out]; exact HB2.out⟩
              case measure => simp [intOf]; omega
            · have hk1 : k = 1 := by
                rcases hfit with ⟨h, -⟩ | h
                · exact h
                · exact absurd h hk
              subst hk1
              obtain ⟨n, rfl, h64, hle, hnum, hlen2⟩ := back_put HPk.out hact hfit
              rw [← ha] at hle hnum hlen2
              rw [← ha2] at hlen2
              have Hact := Lib.hid hact; clear hact
              have Hnum := Lib.hid hnum; clear hnum
              have Hlen2 := Lib.hid hlen2; clear hlen2
              have Ha2 := Lib.hid ha2; clear ha2
              clear ha hfit hk
              go_wp2_with fail
              have g1 : Calls Try.prog 20 #[.pointer (some ⟨q, 0, none⟩), .int .i64 (n : Int)] wr fun e w' => e = .returned (.tuple #[.int .u64 (y : Int), .int .i64 0]) ∧ Rd w' q vr bs (a + n) ∧ Fr [q] wr w' := by
                have := get_ok q vr bs a n wr HB.out.r (by omega) h64 hle
                rw [Hnum.out] at this
                exact this
              refine g1.mono ?_
              rintro e wA ⟨rfl, hA, fA⟩
              have hB2 := HB.out.step fA hA
              clear c0 c1 c2
              obtain ⟨g', hg', -, -, c0, c1, c2⟩ := hB2.row.at_ Hact.out
              injection hg' with hg'
              injection hg' with hg'
              subst hg'
              have HB2 := Lib.hid hB2
              clear hA fA g1 HB hB2
              have ey : ((y : Int) == (y : Int)) = true := by simp
              go_wp2_with fail
              go_roundw
              case rel => exact ⟨j + 1, by omega, by go_num, by rw [← Ha2.out, Hlen2.out]; exact HB2.out⟩
              case measure => simp [intOf]; omega
          · obtain rfl : j = acts.length := by omega
            rw [List.take_length, HDD.out.2.2.1] at hB
            have hend := back_end (HDD.out.2.2.1 ▸ HPk.out)
            obtain ⟨T, hT⟩ : ∃ T, T = L.length := ⟨_, rfl⟩
            obtain ⟨d, hd⟩ : ∃ d, d = 8 * bs.length - T := ⟨_, rfl⟩
            rw [← hT] at hB hend
            rw [← hd] at hend
            obtain ⟨hr, hd8, -⟩ := hend
            have HB := Lib.hid hB; clear hB
            have Hr := Lib.hid hr; clear hr
            have HT := Lib.hid hT; clear hT
            have Hd := Lib.hid hd; clear hd
            have eT : ((T : Int) == (T : Int)) = true := by simp
            have ed : decide (8 ≤ (d : Int)) = false := by simp; omega
            clear HB6 hlt hj
            go_wp2_with fail
            refine (at_any wr q vr bs T HB.out.r).mono ?_
            rintro e wA ⟨rfl, rfl⟩
            go_wp2_with fail
            have g1 : Calls Try.prog 14 #[.pointer (some ⟨p, 0, none⟩)] wA fun e w' => e = .returned (.int .i64 (T : Int)) ∧ w' = wA := by
              rw [HT.out]; exact wlen_any wA p v L HB.out.wr
            refine g1.mono ?_
            rintro e wB ⟨rfl, rfl⟩
            clear g1
            go_wp2_with fail
            have g1 : Calls Try.prog 25 #[.pointer (some ⟨q, 0, none⟩)] wB fun e w' => e = .returned (.int .i64 (d : Int)) ∧ w' = wB.drew := by
              rw [Hd.out]; exact left_any wB q vr bs T HB.out.r (by omega)
            refine g1.mono ?_
            rintro e wC ⟨rfl, rfl⟩
            have HB2 := Lib.hid (HB.out.fr0 (Fr.refl [] wB).drew)
            clear g1 HB
            go_wp2_with fail
            have g1 : Calls Try.prog 22 #[.pointer (some ⟨q, 0, none⟩)] wB.drew fun e w' => e = .returned (.int .i64 0) ∧ Rd w' q vr bs (8 * bs.length) ∧ Fr [q] wB.drew w' := by
              have := ralign_total q vr bs T wB.drew HB2.out.r (by omega)
              rw [Hr.out] at this
              exact this
            refine g1.mono ?_
            rintro e wD ⟨rfl, hA, fA⟩
            have HB3 := Lib.hid (HB2.out.step fA hA)
            clear hA fA g1 HB2
            go_wp2_with fail
            have g1 : Calls Try.prog 25 #[.pointer (some ⟨q, 0, none⟩)] wD fun e w' => e = .returned (.int .i64 0) ∧ w' = wD.drew := by
              have := left_any wD q vr bs (8 * bs.length) HB3.out.r (by omega)
              rw [Nat.sub_self] at this
              exact this
            refine g1.mono ?_
            rintro e wE ⟨rfl, rfl⟩
            have HB4 := Lib.hid (HB3.out.fr0 (Fr.refl [] wD).drew)
            clear g1 HB3
            go_wp2_with fail
            refine (get_short q vr bs (8 * bs.length) 1 _ HB4.out.r (by omega) (by omega) (by omega)).mono ?_
            rintro e wG ⟨rfl, rfl⟩
            have HB5 := Lib.hid (HB4.out.fr0 (Fr.refl [] _).drew)
            clear HB4
            go_wp2_with fail
            refine (alive_any _).mono ?_
            rintro e wH ⟨rfl, fH⟩
            have HB7 := Lib.hid (HB5.out.fr0 fH)
            clear HB5 fH
            go_wp2_with fail
            have g1 : Calls Try.prog 26 #[.pointer (some ⟨q, 0, none⟩)] wH fun e w' => NewRow wH [] e w' := by
              have := rest_row wH q vr bs (8 * bs.length) HB7.out.r (by omega)
              rw [List.drop_of_length_le (by omega)] at this
              exact this
            refine g1.mono ?_
            rintro e wI ⟨vI, rfl, hOI, hFI, -⟩
            have hfr := HB7.out.fr.trans hFI (by simp)
            obtain ⟨AI, cI, rfl⟩ := hOI.src.slice
            clear g1 hOI
            go_wp2_with fail
            go_ret
            exact ⟨rfl, hfr⟩
      · have eg2 : decide ((200 : Int) < (len : Int)) = true := by simp at eg ⊢; omega
        clear eg
        go_wp2_with fail
        refine (bytes_row wr p v L HP2.out.a (by have := HDD.out.1; omega)).mono ?_
        rintro e w5 ⟨bs, hbs, vB, rfl, hO5, hF5, -⟩
        have HP5 := Lib.hid (HP2.out.fr0 hF5)
        have hbl : bs.length ≤ 1601 := by have := hbs.1; have := HDD.out.1; omega
        have HPk : Hid (PackOf bs (bitsOf acts)) := Lib.hid (by rw [HDD.out.2.2.1]; exact hbs)
        have HO5 := Lib.hid hO5
        clear hbs hO5 hF5 HP2
        go_wp2_with fail
        refine (open_any _ bs w5 HO5.out.src (by omega)).mono ?_
        rintro e w6 ⟨q, vr, rfl, hR6, hF6, hq6, -⟩
        have hB6 := Bak.new HP5.out hF6 hR6 hq6
        obtain ⟨Ad, cd, rfl⟩ := hB6.row.slice
        have HB6 := Lib.hid hB6
        clear hB6 hR6 hF6 hq6 HO5 HP5
        go_wp2_with fail
        go_loopw [8] (fun s8 wr2 => ∃ j : Nat, j ≤ acts.length ∧ s8 = .int .i64 (j : Int) ∧ Bak w wr2 p v L (.slice Ad acts.length cd) acts q vr bs (bitsOf (acts.take j)).length) (fun s8 _ => acts.length - (intOf s8).toNat)
        case atStart => exact ⟨0, Nat.zero_le _, rfl, by simpa [bitsOf] using HB6.out⟩
        case round =>
          obtain ⟨j, hj, rfl, hB⟩ := hrel
          by_cases hlt : j < acts.length
          · obtain ⟨⟨k, m, y⟩, hact⟩ : ∃ x, acts[j]? = some x := ⟨_, List.getElem?_eq_getElem hlt⟩
            have hfit := HDD.out.2.2.2 _ (List.mem_of_getElem? hact)
            obtain ⟨g, rfl, -, hcap, c0, c1, c2⟩ := hB.row.at_ hact
            obtain ⟨a, ha⟩ : ∃ a, a = (bitsOf (acts.take j)).length := ⟨_, rfl⟩
            obtain ⟨a2, ha2⟩ : ∃ a2, a2 = (bitsOf (acts.take (j + 1))).length := ⟨_, rfl⟩
            rw [← ha] at hB
            have HB := Lib.hid hB; clear hB
            have h200 := HDD.out.2.1
            by_cases hk : k = 2
            · subst hk
              have hal := back_align HPk.out hact
              rw [← ha, ← ha2] at hal
              have em : (a2 : Int) % 8 = 0 := by have := hal.2; omega
              have Hal := Lib.hid hal; clear hal
              have Ha2 := Lib.hid ha2; clear ha2
              clear ha hact hfit
              go_wp2_with fail
              have g1 : Calls Try.prog 22 #[.pointer (some ⟨q, 0, none⟩)] wr fun e w' => e = .returned (.int .i64 0) ∧ Rd w' q vr bs a2 ∧ Fr [q] wr w' := by
                have := ralign_total q vr bs a wr HB.out.r (by omega)
                rw [Hal.out.1] at this
                exact this
              refine g1.mono ?_
              rintro e wA ⟨rfl, hA, fA⟩
              have HB2 := Lib.hid (HB.out.step fA hA)
              clear hA fA g1 c0 c1 c2 HB
              go_wp2_with fail
              refine (at_any wA q vr bs a2 HB2.out.r).mono ?_
              rintro e wB ⟨rfl, rfl⟩
              go_wp2_with fail
              go_roundw
              case rel => exact ⟨j + 1, by omega, by go_num, by rw [← Ha2.out]; exact HB2.out⟩
              case measure => simp [intOf]; omega
            · have hk1 : k = 1 := by
                rcases hfit with ⟨h, -⟩ | h
                · exact h
                · exact absurd h hk
              subst hk1
              obtain ⟨n, rfl, h64, hle, hnum, hlen2⟩ := back_put HPk.out hact hfit
              rw [← ha] at hle hnum hlen2
              rw [← ha2] at hlen2
              have Hact := Lib.hid hact; clear hact
              have Hnum := Lib.hid hnum; clear hnum
              have Hlen2 := Lib.hid hlen2; clear hlen2
              have Ha2 := Lib.hid ha2; clear ha2
              clear ha hfit hk
              go_wp2_with fail
              have g1 : Calls Try.prog 20 #[.pointer (some ⟨q, 0, none⟩), .int .i64 (n : Int)] wr fun e w' => e = .returned (.tuple #[.int .u64 (y : Int), .int .i64 0]) ∧ Rd w' q vr bs (a + n) ∧ Fr [q] wr w' := by
                have := get_ok q vr bs a n wr HB.out.r (by omega) h64 hle
                rw [Hnum.out] at this
                exact this
              refine g1.mono ?_
              rintro e wA ⟨rfl, hA, fA⟩
              have hB2 := HB.out.step fA hA
              clear c0 c1 c2
              obtain ⟨g', hg', -, -, c0, c1, c2⟩ := hB2.row.at_ Hact.out
              injection hg' with hg'
              injection hg' with hg'
              subst hg'
              have HB2 := Lib.hid hB2
              clear hA fA g1 HB hB2
              have ey : ((y : Int) == (y : Int)) = true := by simp
              go_wp2_with fail
              go_roundw
              case rel => exact ⟨j + 1, by omega, by go_num, by rw [← Ha2.out, Hlen2.out]; exact HB2.out⟩
              case measure => simp [intOf]; omega
          · obtain rfl : j = acts.length := by omega
            rw [List.take_length, HDD.out.2.2.1] at hB
            have hend := back_end (HDD.out.2.2.1 ▸ HPk.out)
            obtain ⟨T, hT⟩ : ∃ T, T = L.length := ⟨_, rfl⟩
            obtain ⟨d, hd⟩ : ∃ d, d = 8 * bs.length - T := ⟨_, rfl⟩
            rw [← hT] at hB hend
            rw [← hd] at hend
            obtain ⟨hr, hd8, -⟩ := hend
            have HB := Lib.hid hB; clear hB
            have Hr := Lib.hid hr; clear hr
            have HT := Lib.hid hT; clear hT
            have Hd := Lib.hid hd; clear hd
            have eT : ((T : Int) == (T : Int)) = true := by simp
            have ed : decide (8 ≤ (d : Int)) = false := by simp; omega
            clear HB6 hlt hj
            go_wp2_with fail
            refine (at_any wr q vr bs T HB.out.r).mono ?_
            rintro e wA ⟨rfl, rfl⟩
            go_wp2_with fail
            have g1 : Calls Try.prog 14 #[.pointer (some ⟨p, 0, none⟩)] wA fun e w' => e = .returned (.int .i64 (T : Int)) ∧ w' = wA := by
              rw [HT.out]; exact wlen_any wA p v L HB.out.wr
            refine g1.mono ?_
            rintro e wB ⟨rfl, rfl⟩
            clear g1
            go_wp2_with fail
            have g1 : Calls Try.prog 25 #[.pointer (some ⟨q, 0, none⟩)] wB fun e w' => e = .returned (.int .i64 (d : Int)) ∧ w' = wB.drew := by
              rw [Hd.out]; exact left_any wB q vr bs T HB.out.r (by omega)
            refine g1.mono ?_
            rintro e wC ⟨rfl, rfl⟩
            have HB2 := Lib.hid (HB.out.fr0 (Fr.refl [] wB).drew)
            clear g1 HB
            go_wp2_with fail
            have g1 : Calls Try.prog 22 #[.pointer (some ⟨q, 0, none⟩)] wB.drew fun e w' => e = .returned (.int .i64 0) ∧ Rd w' q vr bs (8 * bs.length) ∧ Fr [q] wB.drew w' := by
              have := ralign_total q vr bs T wB.drew HB2.out.r (by omega)
              rw [Hr.out] at this
              exact this
            refine g1.mono ?_
            rintro e wD ⟨rfl, hA, fA⟩
            have HB3 := Lib.hid (HB2.out.step fA hA)
            clear hA fA g1 HB2
            go_wp2_with fail
            have g1 : Calls Try.prog 25 #[.pointer (some ⟨q, 0, none⟩)] wD fun e w' => e = .returned (.int .i64 0) ∧ w' = wD.drew := by
              have := left_any wD q vr bs (8 * bs.length) HB3.out.r (by omega)
              rw [Nat.sub_self] at this
              exact this
            refine g1.mono ?_
            rintro e wE ⟨rfl, rfl⟩
            have HB4 := Lib.hid (HB3.out.fr0 (Fr.refl [] wD).drew)
            clear g1 HB3
            go_wp2_with fail
            refine (get_short q vr bs (8 * bs.length) 1 _ HB4.out.r (by omega) (by omega) (by omega)).mono ?_
            rintro e wG ⟨rfl, rfl⟩
            have HB5 := Lib.hid (HB4.out.fr0 (Fr.refl [] _).drew)
            clear HB4
            go_wp2_with fail
            refine (alive_any _).mono ?_
            rintro e wH ⟨rfl, fH⟩
            have HB7 := Lib.hid (HB5.out.fr0 fH)
            clear HB5 fH
            go_wp2_with fail
            have g1 : Calls Try.prog 26 #[.pointer (some ⟨q, 0, none⟩)] wH fun e w' => NewRow wH [] e w' := by
              have := rest_row wH q vr bs (8 * bs.length) HB7.out.r (by omega)
              rw [List.drop_of_length_le (by omega)] at this
              exact this
            refine g1.mono ?_
            rintro e wI ⟨vI, rfl, hOI, hFI, -⟩
            have hfr := HB7.out.fr.trans hFI (by simp)
            obtain ⟨AI, cI, rfl⟩ := hOI.src.slice
            clear g1 hOI
            go_wp2_with fail
            go_ret
            exact ⟨rfl, hfr⟩
end Go.Proofs.Ytgdfjoionaedgaa
