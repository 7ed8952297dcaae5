/-
  The law GolombWrites answers true whatever its input, and leaves its arguments as they were; no condition.
-/
import Derived.Test.YtpdmjgcheigooaaGPrefix
import Derived.Test.YtpdmjgcheigooaaSrc
import Derived.Test.YtpdmjgcheigooaaStr
import Derived.Test.YtpdmjgcheigooaaRegion
import Derived.Deep.DeepCutAuto
namespace Go.Proofs.Ytpdmjgcheigooaa
open Go.ChangeShapes Go.WideShapes Go.ChangeAt Go.RowKit

/-- The writer and the document's have the bits L; they lie apart, in memory that is new since w0. -/
structure GBoth (w0 w : World) (p : Nat) (v : Value) (L : List Bool) (q : Nat) (u : Value) (M : List Bool) : Prop where
  a : Wr w p v L
  b : Rw w q u M
  sep : Sep p v q u
  na : NewSince w0 p v
  nb : NewSince w0 q u
  fr : Fr [] w0 w

section
variable {w0 w w' : World} {p q : Nat} {v u v2 u2 : Value} {L M L2 : List Bool}
theorem GBoth.fr0 (h : GBoth w0 w p v L q u M) (hf : Fr [] w w') : GBoth w0 w' p v L q u M :=
  ⟨h.a.fr hf (by simp) (by simp), h.b.fr hf (by simp) (by simp), h.sep, h.na, h.nb, h.fr.trans hf (by simp)⟩
theorem GBoth.stepA (h : GBoth w0 w p v L q u M) (g : WFr p v v2 w w') (hA : Wr w' p v2 L2) : GBoth w0 w' p v2 L2 q u M := by
  obtain ⟨h1, h2, h3, h4, h5, h6⟩ := h
  obtain ⟨f, ns⟩ := g.since h6 h4
  exact ⟨hA, h2.fr g.1 h3.out.1 h3.out.2, h3.step g h2.lt h2.lt2, ns, h5, f⟩
theorem GBoth.stepB (h : GBoth w0 w p v L q u M) (g : WFr q u u2 w w') (hB : Rw w' q u2 L2) : GBoth w0 w' p v L q u2 L2 := by
  obtain ⟨h1, h2, h3, h4, h5, h6⟩ := h
  obtain ⟨f, ns⟩ := g.since h6 h5
  exact ⟨h1.fr g.1 h3.symm.out.1 h3.symm.out.2, hB, (h3.symm.step g h1.lt h1.lt2).symm, h4, ns, f⟩
end

attribute [local go_sem ↓] cv_rule

set_option maxRecDepth 100000 in
set_option maxHeartbeats 4000000 in
theorem gwrites_any (A B : Option Addr) (n ca m cb : Nat) (l : List UInt64) (s : List Int) (w : World) (hA : Src w (.slice A n ca) (l.map C64)) (hln : l.length = n) (hB : Src w (.slice B m cb) (s.map I64)) (hsm : s.length = m)
    (hn : n ≤ 9223372036854775807) (hm : m ≤ 9223372036854775807) :
    Calls Try.prog 4 #[.slice A n ca, .slice B m cb] w fun e w' => e = .returned (.bool true) ∧ Fr [] w w' := by
  have HA := Lib.hid hA; clear hA
  have HS := Lib.hid hB; clear hB
  have Hln := Lib.hid hln; clear hln
  have Hsm := Lib.hid hsm; clear hsm
  go_enter Try.func4, Try.ntmps4
  go_wp2_with fail
  refine (new_any w).mono ?_
  rintro e w1 ⟨rfl, hw1⟩
  have hF1 : Fr [] w w1 := by rw [hw1]; exact (Fr.refl _ _).alloc _
  have hW1 : Wr w1 w.heap.size (.slice none 0 0) [] := by rw [hw1]; exact Wr.new w
  have hN1 : NewSince w w.heap.size (.slice none 0 0) := ⟨Nat.le_refl _, by simp [Value.ownBlock]⟩
  clear hw1
  obtain ⟨p, hp⟩ : ∃ p, p = w.heap.size := ⟨_, rfl⟩
  rw [← hp] at hW1 hN1 ⊢
  clear hp
  go_wp2_with fail
  obtain ⟨q, hq⟩ : ∃ q, q = w1.heap.size := ⟨_, rfl⟩
  rw [← hq]
  have hI : GBoth w (w1.alloc (.cells #[.slice none 0 0] 37)) p (.slice none 0 0) [] q (.slice none 0 0) [] := by
    refine ⟨hW1.fr (S := []) ((Fr.refl _ _).alloc _) (by simp) (by simp), ?_, ?_, hN1, ?_, hF1.alloc _⟩
    · rw [hq]; exact ⟨Blk.new _ _ _, Own.nil _ _, by simp [Value.ownBlock]⟩
    · refine ⟨?_, by simp [Value.ownBlock], by simp [Value.ownBlock], by simp [Value.ownBlock]⟩
      have := hW1.lt; omega
    · exact ⟨by rw [hq]; exact hF1.size, by simp [Value.ownBlock]⟩
  clear hq hW1 hN1 hF1
  have HI := Lib.hid hI; clear hI
  go_loopw [7] (fun s7 wr => ∃ (i : Nat) (v u : Value) (L : List Bool), i ≤ n ∧ i ≤ 100 ∧ s7 = .int .i64 (i : Int) ∧ L.length ≤ 64 * i ∧ GBoth w wr p v L q u L) (fun s7 _ => 100 - (intOf s7).toNat)
  case atStart => exact ⟨0, _, _, [], by omega, by omega, rfl, by simp, HI.out⟩
  case round =>
    obtain ⟨i, v, u, L, hi1, hi2, rfl, hL, hBo⟩ := hrel
    by_cases hlt : i < n ∧ i < 100
    · obtain ⟨hlt1, hlt2⟩ := hlt
      obtain ⟨x, hx⟩ : ∃ x, l[i]? = some x := ⟨_, List.getElem?_eq_getElem (by have := Hln.out; omega)⟩
      obtain ⟨ad, rfl, c0⟩ := (HA.out.fr0 hBo.fr).cellAt hx
      obtain ⟨X, hX⟩ : ∃ X, X = x.toNat := ⟨_, rfl⟩
      have hcell : ∀ W, Fr [] w W → W.cell? (ad.add i) = some (.int .u64 (X : Int)) := fun W hf => by
        obtain ⟨ad', e, c⟩ := (HA.out.fr0 hf).cellAt hx
        injection e with e
        subst e
        rw [c, hX]; rfl
      have c0 := hcell _ hBo.fr
      have Hcell := Lib.hid hcell
      have HB := Lib.hid hBo; clear hBo hx hX hcell
      have eg : decide (i < n) = true := by simpa using hlt1
      have eg2 : decide ((i : Int) < 100) = true := by simp; omega
      have hLb : L.length ≤ 100000000000 := by omega
      have hG := gput_len L X
      obtain ⟨E, L2, hEL⟩ : ∃ E L2, gput L X = (E, L2) := ⟨_, _, rfl⟩
      rw [hEL] at hG
      simp only at hG
      have eE : (E != E) = false := by simp
      have HP := Lib.hid (gput_total p v L X wr.drew ((HB.out.fr0 (Fr.refl _ _).drew).a) hLb)
      rw [hEL] at HP
      have Hel := Lib.hid hEL; clear hEL
      go_upto_region 6 with fail
      have c1 : wr.drew.cell? (ad.add i) = some (.int .u64 (X : Int)) := c0
      refine wp_region_held_drew (S := fun W => W.cell? (ad.add i) = some (.int .u64 (X : Int))) (by kernel_rfl) ?_ (fun hHeld => ?_)
      · (repeat' (first | trivial | assumption | refine ⟨?_, ?_⟩))
      refine wpAnyH_pick 0 (v := ?_) rfl (by kernel_rfl) (by kernel_rfl) (by kernel_rfl) (fun _ _ _ h => h) (by assumption) (by rfl) ?_ ?_
      rotate_left
      · (intro w hSw; (try dsimp only at hSw); go_simp) <;> (with_reducible rfl)
      (try simp only [Act.put, List.setIfInBounds_toArray, List.set_cons_zero, List.set_cons_succ])
      refine wpAnyH_pick 1 (v := ?_) rfl (by kernel_rfl) (by kernel_rfl) (by kernel_rfl) (fun _ _ _ h => h) (by assumption) (by rfl) ?_ ?_
      rotate_left
      · (intro w hSw; (try dsimp only at hSw); go_simp) <;> (with_reducible rfl)
      (try simp only [Act.put, List.setIfInBounds_toArray, List.set_cons_zero, List.set_cons_succ])
      refine wpAnyH_pick 2 (v := ?_) rfl (by kernel_rfl) (by kernel_rfl) (by kernel_rfl) (fun _ _ _ h => h) (by assumption) (by rfl) ?_ ?_
      rotate_left
      · (intro w hSw; (try dsimp only at hSw); go_simp) <;> (with_reducible rfl)
      (try simp only [Act.put, List.setIfInBounds_toArray, List.set_cons_zero, List.set_cons_succ])
      refine wpAnyH_pick 3 (v := ?_) rfl (by kernel_rfl) (by kernel_rfl) (by kernel_rfl) (fun _ _ _ h => h) (by assumption) (by rfl) ?_ ?_
      rotate_left
      · (intro w hSw; (try dsimp only at hSw); go_simp) <;> (with_reducible rfl)
      (try simp only [Act.put, List.setIfInBounds_toArray, List.set_cons_zero, List.set_cons_succ])
      refine wpAnyH_pick 4 (v := ?_) rfl (by kernel_rfl) (by kernel_rfl) (by kernel_rfl) (fun _ _ _ h => h) (by assumption) (by rfl) ?_ ?_
      rotate_left
      · (intro w hSw; (try dsimp only at hSw); go_simp) <;> (with_reducible rfl)
      (try simp only [Act.put, List.setIfInBounds_toArray, List.set_cons_zero, List.set_cons_succ])
      refine wpAnyH_pick 6 (v := ?_) rfl (by kernel_rfl) (by kernel_rfl) (by kernel_rfl) (fun _ _ _ h => h) (by assumption) (by rfl) ?_ ?_
      rotate_left
      · (intro w hSw; (try dsimp only at hSw); go_simp) <;> (with_reducible rfl)
      (try simp only [Act.put, List.setIfInBounds_toArray, List.set_cons_zero, List.set_cons_succ])
      refine wpAnyH_pick 7 (v := ?_) rfl (by kernel_rfl) (by kernel_rfl) (by kernel_rfl) (fun _ _ _ h => h) (by assumption) (by rfl) ?_ ?_
      rotate_left
      · (intro w hSw; (try dsimp only at hSw); go_simp) <;> (with_reducible rfl)
      (try simp only [Act.put, List.setIfInBounds_toArray, List.set_cons_zero, List.set_cons_succ])
      refine wpAnyH_pick 8 (v := ?_) rfl (by kernel_rfl) (by kernel_rfl) (by kernel_rfl) (fun _ _ _ h => h) (by assumption) (by rfl) ?_ ?_
      rotate_left
      · (intro w hSw; (try dsimp only at hSw); go_simp) <;> (with_reducible rfl)
      (try simp only [Act.put, List.setIfInBounds_toArray, List.set_cons_zero, List.set_cons_succ])
      refine wpAnyH_pick 9 (v := ?_) rfl (by kernel_rfl) (by kernel_rfl) (by kernel_rfl) (fun _ _ _ h => h) (by assumption) (by rfl) ?_ ?_
      rotate_left
      · (intro w hSw; (try dsimp only at hSw); go_simp) <;> (with_reducible rfl)
      (try simp only [Act.put, List.setIfInBounds_toArray, List.set_cons_zero, List.set_cons_succ])
      refine wpAnyH_pick 10 (v := ?_) rfl (by kernel_rfl) (by kernel_rfl) (by kernel_rfl) (fun _ _ _ h => h) (by assumption) (by rfl) ?_ ?_
      rotate_left
      · (intro w hSw; (try dsimp only at hSw); go_simp) <;> (with_reducible rfl)
      (try simp only [Act.put, List.setIfInBounds_toArray, List.set_cons_zero, List.set_cons_succ])
      refine wpAnyH_ready (rs := [5]) (by kernel_rfl) (by simp) ?_
      refine AllReadyH_pick rfl (fun K hK => ?_) (AllReadyH.nil)
      · go_simp
        refine HP.out.mono ?_
        rintro e wP ⟨rfl, v2, hP, gP⟩
        have hB2 := (HB.out.fr0 (Fr.refl _ _).drew).stepA gP hP
        have cP := Hcell.out _ hB2.fr
        have HB2 := Lib.hid hB2
        have HR := rgput_total q u L X wP hB2.b hLb
        rw [Hel.out] at HR
        have HR2 := Lib.hid HR
        clear HR hB2 hP gP
        go_wp2_with fail
        refine hK.out _ _ ?_ (fun hHeld => ?_)
        · (repeat' (first | trivial | assumption | refine ⟨?_, ?_⟩))
        clear hK K
        (try simp only [Act.put, List.setIfInBounds_toArray, List.set_cons_zero, List.set_cons_succ])
        refine wpAnyH_ready (rs := [11]) (by kernel_rfl) (by simp) ?_
        refine AllReadyH_pick rfl (fun K hK => ?_) (AllReadyH.nil)
        · go_simp
          refine HR2.out.mono ?_
          rintro e wR ⟨rfl, u2, hR, gR⟩
          have hB3 := HB2.out.stepB gR hR
          have cR := Hcell.out _ hB3.fr
          have HB3 := Lib.hid hB3
          clear hB3 hR gR
          go_wp2_with fail
          refine hK.out _ _ ?_ (fun hHeld => ?_)
          · (repeat' (first | trivial | assumption | refine ⟨?_, ?_⟩))
          clear hK K
          (try simp only [Act.put, List.setIfInBounds_toArray, List.set_cons_zero, List.set_cons_succ])
          refine wpAnyH_pick 12 (v := ?_) rfl (by kernel_rfl) (by kernel_rfl) (by kernel_rfl) (fun _ _ _ h => h) (by assumption) (by rfl) ?_ ?_
          rotate_left
          · (intro w hSw; (try dsimp only at hSw); go_simp) <;> (with_reducible rfl)
          (try simp only [Act.put, List.setIfInBounds_toArray, List.set_cons_zero, List.set_cons_succ])
          refine wpAnyH_done (by kernel_rfl) ?_ _
          go_wp2_with fail
          go_roundw
          case rel => exact ⟨i + 1, v2, u2, L2, by omega, by omega, by go_num, by omega, HB3.out⟩
          case measure => simp [intOf]; omega
    · have HB := Lib.hid hBo; clear hBo
      have hex : (i < n ∧ i = 100) ∨ i = n := by omega
      have hL6 : L.length ≤ 6400 := by omega
      clear hL hi1 hi2 hlt
      rcases hex with ⟨hlt1, hlt2⟩ | hlt1
      case' inl =>
        have eg : decide (i < n) = true := by simpa using hlt1
        have eg2 : decide ((i : Int) < 100) = false := by simp; omega
        clear hlt1 hlt2
        go_upto_region 8 with fail
        clear eg eg2
      case' inr =>
        have eg : decide (i < n) = false := by simp; omega
        clear hlt1
        go_upto_region 8 with fail
        clear eg
      all_goals
        go_wp2_with fail
        go_loopw [8] (fun s8 wr => ∃ (j : Nat) (v u : Value) (L : List Bool), j ≤ m ∧ j ≤ 100 ∧ s8 = .int .i64 (j : Int) ∧ L.length ≤ 6400 + 64 * j ∧ GBoth w wr p v L q u L) (fun s8 _ => 100 - (intOf s8).toNat)
        case atStart => exact ⟨0, v, u, L, by omega, by omega, rfl, by omega, HB.out⟩
        case round =>
          clear HB hL6
          obtain ⟨j, v, u, L, hj1, hj2, rfl, hL, hBo⟩ := hrel
          by_cases hlt : j < m ∧ j < 100
          · obtain ⟨hlt1, hlt2⟩ := hlt
            obtain ⟨y, hy⟩ : ∃ y, s[j]? = some y := ⟨_, List.getElem?_eq_getElem (by have := Hsm.out; omega)⟩
            obtain ⟨ad, rfl, c0⟩ := (HS.out.fr0 hBo.fr).cellAt hy
            have hcell : ∀ W, Fr [] w W → W.cell? (ad.add j) = some (.int .i64 y) := fun W hf => by
              obtain ⟨ad', e, c⟩ := (HS.out.fr0 hf).cellAt hy
              injection e with e
              subst e
              rw [c]; rfl
            have c0 := hcell _ hBo.fr
            have Hcell := Lib.hid hcell
            have HB := Lib.hid hBo; clear hBo hy hcell
            have eg : decide (j < m) = true := by simpa using hlt1
            have eg2 : decide ((j : Int) < 100) = true := by simp; omega
            have hLb : L.length ≤ 100000000000 := by omega
            by_cases hf : folds y
            · have hP := gputS_total p v L y wr HB.out.a hLb
              rw [show gputS L y = (0, L ++ code (folded y)) from if_pos hf] at hP
              have hcl := clen_le (folded_le hf)
              have HP := Lib.hid hP
              have HRf := fun W => Lib.hid (rfold_in y W hf)
              have Hf := Lib.hid hf
              clear hP hf
              go_wp2_with fail
              refine HP.out.mono ?_
              rintro e wP ⟨rfl, v2, hP, gP⟩
              have hB2 := HB.out.stepA gP hP
              have cP := Hcell.out _ hB2.fr
              have HR := Lib.hid (rgput_ok q u L (folded y) wP hB2.b (folded_le Hf.out) hLb)
              have HB2 := Lib.hid hB2
              clear HP HB c0 hB2 hP gP
              go_wp2_with fail
              refine (HRf _).out.mono ?_
              rintro e wF ⟨rfl, rfl⟩
              go_wp2_with fail
              refine HR.out.mono ?_
              rintro e wR ⟨rfl, u2, hR, gR⟩
              have HB3 := Lib.hid (HB2.out.stepB gR hR)
              clear hR gR
              go_wp2_with fail
              go_roundw
              case rel => exact ⟨j + 1, v2, u2, _, by omega, by omega, by go_num, by simp; omega, HB3.out⟩
              case measure => simp [intOf]; omega
            · have hP := gputS_total p v L y wr HB.out.a hLb
              rw [show gputS L y = (1, L) from if_neg hf] at hP
              have HP := Lib.hid hP
              have HRf := fun W => Lib.hid (rfold_out y W hf)
              clear hP hf
              go_wp2_with fail
              refine HP.out.mono ?_
              rintro e wP ⟨rfl, v2, hP, gP⟩
              have hB2 := HB.out.stepA gP hP
              have cP := Hcell.out _ hB2.fr
              have HB2 := Lib.hid hB2
              clear HP HB c0 hB2 hP gP
              go_wp2_with fail
              refine (HRf _).out.mono ?_
              rintro e wF ⟨rfl, rfl⟩
              go_wp2_with fail
              go_roundw
              case rel => exact ⟨j + 1, v2, u, _, by omega, by omega, by go_num, by omega, HB2.out⟩
              case measure => simp [intOf]; omega
          · have hex : (j < m ∧ j = 100) ∨ j = m := by omega
            have hLb : L.length ≤ 100000000000 := by omega
            obtain ⟨A2, c2, rfl⟩ := hBo.b.2.1.src.slice
            rw [bitsU_length] at hBo
            have k0 : wr.cell? ⟨q, 0, none⟩ = some (.slice A2 L.length c2) := hBo.b.1.cell 0
            have k1 := hBo.b.lt
            have HB := Lib.hid hBo; clear hBo
            clear hL hj1 hj2 hlt
            rcases hex with ⟨hlt1, hlt2⟩ | hlt1
            case' inl =>
              have eg : decide (j < m) = true := by simpa using hlt1
              have eg2 : decide ((j : Int) < 100) = false := by simp; omega
              clear hlt1 hlt2
              go_upto_region 17 with fail
              clear eg eg2
            case' inr =>
              have eg : decide (j < m) = false := by simp; omega
              clear hlt1
              go_upto_region 17 with fail
              clear eg
            all_goals
              have k2 : wr.drew.cell? ⟨q, 0, none⟩ = some (.slice A2 L.length c2) := k0
              refine wp_region_held_drew (S := fun W => W.cell? ⟨q, 0, none⟩ = some (.slice A2 L.length c2)) (by kernel_rfl) ?_ (fun hHeld => ?_)
              · (repeat' (first | trivial | assumption | refine ⟨?_, ?_⟩))
              refine wpAnyH_ready (rs := [0]) (by kernel_rfl) (by simp) ?_
              refine AllReadyH_pick rfl (fun K hK => ?_) (AllReadyH.nil)
              · go_simp
                refine (alive2_any _).mono ?_
                rintro e wL ⟨rfl, fL⟩
                have hB2 := (HB.out.fr0 (Fr.refl _ _).drew).fr0 fL
                have kL : wL.cell? ⟨q, 0, none⟩ = some (.slice A2 L.length c2) := hB2.b.1.cell 0
                have HB2 := Lib.hid hB2; clear hB2 fL
                go_wp2_with fail
                refine hK.out _ _ ?_ (fun hHeld => ?_)
                · (repeat' (first | trivial | assumption | refine ⟨?_, ?_⟩))
                clear hK K
                (try simp only [Act.put, List.setIfInBounds_toArray, List.set_cons_zero, List.set_cons_succ])
                refine wpAnyH_pick 1 (v := ?_) rfl (by kernel_rfl) (by kernel_rfl) (by kernel_rfl) (fun _ _ _ h => h) (by assumption) (by rfl) ?_ ?_
                rotate_left
                · (intro w hSw; (try dsimp only at hSw); go_simp) <;> (with_reducible rfl)
                (try simp only [Act.put, List.setIfInBounds_toArray, List.set_cons_zero, List.set_cons_succ])
                refine wpAnyH_pick 2 (v := ?_) rfl (by kernel_rfl) (by kernel_rfl) (by kernel_rfl) (fun _ _ _ h => h) (by assumption) (by rfl) ?_ ?_
                rotate_left
                · (intro w hSw; (try dsimp only at hSw); go_simp) <;> (with_reducible rfl)
                (try simp only [Act.put, List.setIfInBounds_toArray, List.set_cons_zero, List.set_cons_succ])
                refine wpAnyH_pick 4 (v := ?_) rfl (by kernel_rfl) (by kernel_rfl) (by kernel_rfl) (fun _ _ _ h => h) (by assumption) (by rfl) ?_ ?_
                rotate_left
                · (intro w hSw; (try dsimp only at hSw); go_simp) <;> (with_reducible rfl)
                (try simp only [Act.put, List.setIfInBounds_toArray, List.set_cons_zero, List.set_cons_succ])
                refine wpAnyH_pick 5 (v := ?_) rfl (by kernel_rfl) (by kernel_rfl) (by kernel_rfl) (fun _ _ _ h => h) (by assumption) (by rfl) ?_ ?_
                rotate_left
                · (intro w hSw; (try dsimp only at hSw); go_simp) <;> (with_reducible rfl)
                (try simp only [Act.put, List.setIfInBounds_toArray, List.set_cons_zero, List.set_cons_succ])
                refine wpAnyH_pick 6 (v := ?_) rfl (by kernel_rfl) (by kernel_rfl) (by kernel_rfl) (fun _ _ _ h => h) (by assumption) (by rfl) ?_ ?_
                rotate_left
                · (intro w hSw; (try dsimp only at hSw); go_simp) <;> (with_reducible rfl)
                (try simp only [Act.put, List.setIfInBounds_toArray, List.set_cons_zero, List.set_cons_succ])
                refine wpAnyH_pick 7 (v := ?_) rfl (by kernel_rfl) (by kernel_rfl) (by kernel_rfl) (fun _ _ _ h => h) (by assumption) (by rfl) ?_ ?_
                rotate_left
                · (intro w hSw; (try dsimp only at hSw); go_simp) <;> (with_reducible rfl)
                (try simp only [Act.put, List.setIfInBounds_toArray, List.set_cons_zero, List.set_cons_succ])
                refine wpAnyH_pick 8 (v := ?_) rfl (by kernel_rfl) (by kernel_rfl) (by kernel_rfl) (fun _ _ _ h => h) (by assumption) (by rfl) ?_ ?_
                rotate_left
                · (intro w hSw; (try dsimp only at hSw); go_simp) <;> (with_reducible rfl)
                (try simp only [Act.put, List.setIfInBounds_toArray, List.set_cons_zero, List.set_cons_succ])
                refine wpAnyH_ready (rs := [3]) (by kernel_rfl) (by simp) ?_
                refine AllReadyH_pick rfl (fun K hK => ?_) (AllReadyH.nil)
                · go_simp
                  refine (wlen_any _ p v L HB2.out.a).mono ?_
                  rintro e wM ⟨rfl, rfl⟩
                  go_wp2_with fail
                  refine hK.out _ _ ?_ (fun hHeld => ?_)
                  · (repeat' (first | trivial | assumption | refine ⟨?_, ?_⟩))
                  clear hK K
                  (try simp only [Act.put, List.setIfInBounds_toArray, List.set_cons_zero, List.set_cons_succ])
                  refine wpAnyH_pick 9 (v := ?_) rfl (by kernel_rfl) (by kernel_rfl) (by kernel_rfl) (fun _ _ _ h => h) (by assumption) (by rfl) ?_ ?_
                  rotate_left
                  · (intro w hSw; (try dsimp only at hSw); go_simp) <;> (with_reducible rfl)
                  (try simp only [Act.put, List.setIfInBounds_toArray, List.set_cons_zero, List.set_cons_succ])
                  refine wpAnyH_pick 10 (v := ?_) rfl (by kernel_rfl) (by kernel_rfl) (by kernel_rfl) (fun _ _ _ h => h) (by assumption) (by rfl) ?_ ?_
                  rotate_left
                  · (intro w hSw; (try dsimp only at hSw); go_simp) <;> (with_reducible rfl)
                  (try simp only [Act.put, List.setIfInBounds_toArray, List.set_cons_zero, List.set_cons_succ])
                  refine wpAnyH_pick 11 (v := ?_) rfl (by kernel_rfl) (by kernel_rfl) (by kernel_rfl) (fun _ _ _ h => h) (by assumption) (by rfl) ?_ ?_
                  rotate_left
                  · (intro w hSw; (try dsimp only at hSw); go_simp) <;> (with_reducible rfl)
                  (try simp only [Act.put, List.setIfInBounds_toArray, List.set_cons_zero, List.set_cons_succ])
                  refine wpAnyH_pick 12 (v := ?_) rfl (by kernel_rfl) (by kernel_rfl) (by kernel_rfl) (fun _ _ _ h => h) (by assumption) (by rfl) ?_ ?_
                  rotate_left
                  · (intro w hSw; (try dsimp only at hSw); go_simp) <;> (with_reducible rfl)
                  (try simp only [Act.put, List.setIfInBounds_toArray, List.set_cons_zero, List.set_cons_succ])
                  refine wpAnyH_pick 15 (v := ?_) rfl (by kernel_rfl) (by kernel_rfl) (by kernel_rfl) (fun _ _ _ h => h) (by assumption) (by rfl) ?_ ?_
                  rotate_left
                  · (intro w hSw; (try dsimp only at hSw); go_simp) <;> (with_reducible rfl)
                  (try simp only [Act.put, List.setIfInBounds_toArray, List.set_cons_zero, List.set_cons_succ])
                  refine wpAnyH_pick 16 (v := ?_) rfl (by kernel_rfl) (by kernel_rfl) (by kernel_rfl) (fun _ _ _ h => h) (by assumption) (by rfl) ?_ ?_
                  rotate_left
                  · (intro w hSw; (try dsimp only at hSw); go_simp) <;> (with_reducible rfl)
                  (try simp only [Act.put, List.setIfInBounds_toArray, List.set_cons_zero, List.set_cons_succ])
                  refine wpAnyH_pick 17 (v := ?_) rfl (by kernel_rfl) (by kernel_rfl) (by kernel_rfl) (fun _ _ _ h => h) (by assumption) (by rfl) ?_ ?_
                  rotate_left
                  · (intro w hSw; (try dsimp only at hSw); go_simp) <;> (with_reducible rfl)
                  (try simp only [Act.put, List.setIfInBounds_toArray, List.set_cons_zero, List.set_cons_succ])
                  refine wpAnyH_pick 18 (v := ?_) rfl (by kernel_rfl) (by kernel_rfl) (by kernel_rfl) (fun _ _ _ h => h) (by assumption) (by rfl) ?_ ?_
                  rotate_left
                  · (intro w hSw; (try dsimp only at hSw); go_simp) <;> (with_reducible rfl)
                  (try simp only [Act.put, List.setIfInBounds_toArray, List.set_cons_zero, List.set_cons_succ])
                  refine wpAnyH_ready (rs := [13]) (by kernel_rfl) (by simp) ?_
                  refine AllReadyH_pick rfl (fun K hK => ?_) (AllReadyH.nil)
                  · go_simp
                    refine (bytes_row _ p v L HB2.out.a (by omega)).mono ?_
                    rintro e wB ⟨bsB, hbB, vB, rfl, hOB, hFB, -⟩
                    have hB3 := HB2.out.fr0 hFB
                    have kB : wB.cell? ⟨q, 0, none⟩ = some (.slice A2 L.length c2) := hB3.b.1.cell 0
                    have HB3 := Lib.hid hB3; clear hB3
                    have sB := run_cv hOB.src
                    go_wp2_with fail
                    refine hK.out _ _ ?_ (fun hHeld => ?_)
                    · (repeat' (first | trivial | assumption | refine ⟨?_, ?_⟩))
                    clear hK K
                    (try simp only [Act.put, List.setIfInBounds_toArray, List.set_cons_zero, List.set_cons_succ])
                    refine wpAnyH_add (fun W => (cv vB).run Try.prog W = .ok (.string (strOf bsB)) W) _ _ _ _ ?_
                    have hHeld2 := And.intro hHeld sB
                    refine wpAnyH_pick 14 (v := ?_) rfl (by kernel_rfl) (by kernel_rfl) (by kernel_rfl) (fun _ _ _ h => h) (by assumption) (by rfl) ?_ ?_
                    rotate_left
                    · (intro w hSw; (try dsimp only at hSw); go_simp) <;> (with_reducible rfl)
                    (try simp only [Act.put, List.setIfInBounds_toArray, List.set_cons_zero, List.set_cons_succ])
                    refine wpAnyH_ready (rs := [19]) (by kernel_rfl) (by simp) ?_
                    refine AllReadyH_pick rfl (fun K hK => ?_) (AllReadyH.nil)
                    · go_simp
                      refine (pack_any _ L _ HB3.out.b.2.1.src (by omega)).mono ?_
                      rintro e wP ⟨bsP, hbP, vP, rfl, hOP, hFP, -⟩
                      obtain rfl := hbB.unique hbP
                      have hB4 := HB3.out.fr0 hFP
                      have kP : wP.cell? ⟨q, 0, none⟩ = some (.slice A2 L.length c2) := hB4.b.1.cell 0
                      have HB4 := Lib.hid hB4; clear hB4
                      have sB2 := run_cv (hOB.src.fr0 hFP)
                      have sP := run_cv hOP.src
                      go_wp2_with fail
                      refine hK.out _ _ ?_ (fun hHeld => ?_)
                      · (repeat' (first | trivial | assumption | refine ⟨?_, ?_⟩))
                      clear hK K
                      (try simp only [Act.put, List.setIfInBounds_toArray, List.set_cons_zero, List.set_cons_succ])
                      refine wpAnyH_add (fun W => (cv vP).run Try.prog W = .ok (.string (strOf bsB)) W) _ _ _ _ ?_
                      have hHeld2 := And.intro hHeld sP
                      refine wpAnyH_pick 20 (v := ?_) rfl (by kernel_rfl) (by kernel_rfl) (by kernel_rfl) (fun _ _ _ h => h) (by assumption) (by rfl) ?_ ?_
                      rotate_left
                      · (intro w hSw; (try dsimp only at hSw); go_simp) <;> (with_reducible rfl)
                      (try simp only [Act.put, List.setIfInBounds_toArray, List.set_cons_zero, List.set_cons_succ])
                      refine wpAnyH_pick 21 (v := ?_) rfl (by kernel_rfl) (by kernel_rfl) (by kernel_rfl) (fun _ _ _ h => h) (by assumption) (by rfl) ?_ ?_
                      rotate_left
                      · (intro w hSw; (try dsimp only at hSw); go_simp) <;> (with_reducible rfl)
                      (try simp only [Act.put, List.setIfInBounds_toArray, List.set_cons_zero, List.set_cons_succ])
                      refine wpAnyH_pick 22 (v := ?_) rfl (by kernel_rfl) (by kernel_rfl) (by kernel_rfl) (fun _ _ _ h => h) (by assumption) (by rfl) ?_ ?_
                      rotate_left
                      · (intro w hSw; (try dsimp only at hSw); go_simp) <;> (with_reducible rfl)
                      (try simp only [Act.put, List.setIfInBounds_toArray, List.set_cons_zero, List.set_cons_succ])
                      refine wpAnyH_pick 23 (v := ?_) rfl (by kernel_rfl) (by kernel_rfl) (by kernel_rfl) (fun _ _ _ h => h) (by assumption) (by rfl) ?_ ?_
                      rotate_left
                      · (intro w hSw; (try dsimp only at hSw); go_simp) <;> (with_reducible rfl)
                      (try simp only [Act.put, List.setIfInBounds_toArray, List.set_cons_zero, List.set_cons_succ])
                      refine wpAnyH_done (by kernel_rfl) ?_ _
                      go_wp2_with fail
                      go_ret
                      exact ⟨rfl, HB4.out.fr⟩
end Go.Proofs.Ytpdmjgcheigooaa
