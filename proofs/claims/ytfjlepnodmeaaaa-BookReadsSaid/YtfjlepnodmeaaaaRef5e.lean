/-
  Contracts of the document's book: get.
-/
import Derived.Test.YtfjlepnodmeaaaaRef5b
import Derived.Test.YtfjlepnodmeaaaaRef4e
namespace Go.Proofs.Ytfjlepnodmeaaaa
open Go.RowKit

/-- The document's book and decoder, apart. -/
structure Eye (w : World) (q : Nat) (B : Chs) (p : Nat) (A : Option Addr) (cc : Nat) (bs : List UInt8) (d : Dec) : Prop where
  bk : Rb w q B
  de : Rd w p A cc bs d
  qp : q ≠ p
  qa : ∀ ad, A = some ad → ad.block ≠ q
  fine : FineB B
  lo : 16777216 ≤ d.r
  hi : d.r ≤ 4294967295
  at_ : d.i ≤ bs.length
theorem Eye.fr0 {w w' : World} {q p cc : Nat} {B : Chs} {A : Option Addr} {bs : List UInt8} {d : Dec} (h : Eye w q B p A cc bs d) (hf : Fr [] w w') : Eye w' q B p A cc bs d :=
  ⟨h.bk.fr hf (by simp), h.de.fr0 hf, h.qp, h.qa, h.fine, h.lo, h.hi, h.at_⟩

set_option maxRecDepth 20000 in
theorem rgetB_any (w : World) (q p t cc : Nat) (A : Option Addr) (bs : List UInt8) (d : Dec) (B : Chs) (i : Option Nat) (h : Eye w q B p A cc bs d) (ht : t < 16) (hi : ∀ j, i = some j → j < 37) (hn : bs.length ≤ 100000) :
    Calls Try.prog 53 #[pt q, pt p, .int .i64 (t : Int), .int .i64 (plI i)] w fun r w' =>
      (∃ b B' d', getEv bs t B d i = some (b, B', d') ∧ r = .returned (.tuple #[.int .i64 (b.toNat : Int), .int .i64 0]) ∧ Eye w' q B' p A cc bs d' ∧ Fr [q, p] w w') ∨
      (getEv bs t B d i = none ∧ r = .returned (.tuple #[.int .i64 0, .int .i64 41]) ∧ Fr [q, p] w w') := by
  have hc := chOf_right h.fine t i
  have hil := h.at_
  cases i with
  | none =>
    have HG := Lib.hid (rget_total p A cc bs d 1024 w h.de hc h.lo h.hi (by omega))
    have H := Lib.hid h
    clear h
    show Calls Try.prog 53 #[pt q, pt p, .int .i64 (t : Int), .int .i64 (-1)] w _
    go_enter Try.func53, Try.ntmps53
    go_wp2_with fail
    refine HG.out.mono ?_
    rintro r w1 (⟨bit, d', hg, rfl, hD, hF⟩ | ⟨hg, rfl, hF⟩)
    · have hk := got_keeps hg hc H.out.lo H.out.hi H.out.at_
      have HD := Lib.hid hD; have HF := Lib.hid hF; have Hg := Lib.hid hg
      clear hD hF hg HG
      go_wp2_with fail
      go_ret2
      refine .inl ⟨bit, B, d', ?_, rfl, ⟨H.out.bk.fr HF.out (by simp; exact H.out.qp), HD.out, H.out.qp, H.out.qa, H.out.fine, hk.1, hk.2.1, hk.2.2⟩, HF.out.mono (by simp)⟩
      unfold getEv chOf
      rw [Hg.out]
      rfl
    · have HF := Lib.hid hF; have Hg := Lib.hid hg
      clear hF hg HG
      go_wp2_with fail
      go_ret2
      refine .inr ⟨?_, rfl, HF.out.mono (by simp)⟩
      unfold getEv chOf
      rw [Hg.out]
  | some i =>
    have hi37 := hi i rfl
    obtain ⟨c, hcc⟩ : ∃ c, c = B (37 * t + i) := ⟨_, rfl⟩
    have hcr : rightC c := by rw [hcc]; exact hc
    have hG := rget_total p A cc bs d c w h.de hcr h.lo h.hi (by omega)
    have hb := h.bk.cell (j := t * 37 + i) (by omega)
    have ka : w.cell? ⟨q, t * 37 + i, none⟩ = some (.int .i64 (c : Int)) := by rw [hb, hcc, show t * 37 + i = 37 * t + i by omega]
    have e1 : decide ((i : Int) < 0) = false := by simp
    have HG := Lib.hid hG
    have H := Lib.hid h
    have Hc := Lib.hid hcc
    clear h hG hb hcc hc hi
    show Calls Try.prog 53 #[pt q, pt p, .int .i64 (t : Int), .int .i64 (i : Int)] w _
    go_enter Try.func53, Try.ntmps53
    go_wp2_with fail
    refine HG.out.mono ?_
    rintro r w1 (⟨bit, d', hg, rfl, hD, hF⟩ | ⟨hg, rfl, hF⟩)
    · have hk := got_keeps hg hcr H.out.lo H.out.hi H.out.at_
      have hbk1 : Rb w1 q B := H.out.bk.fr hF (by simp; exact H.out.qp)
      have kb1 : w1.drew.cell? ⟨q, t * 37 + i, none⟩ = some (.int .i64 (c : Int)) := by
        have := hbk1.cell (j := t * 37 + i) (by omega)
        rw [show t * 37 + i = 37 * t + i by omega, ← Hc.out] at this
        rw [show t * 37 + i = 37 * t + i by omega]
        exact this
      have kf1 : w1.drew.frozen? ⟨q, t * 37 + i, none⟩ = false := Blk.frozen hbk1 _
      have hN := fun W => rnext_any c (bit.toNat : Int) W (by have := hcr.2; omega)
      have hbb : ((bit.toNat : Int) != 0) = bit := by cases bit <;> rfl
      rw [hbb] at hN
      obtain ⟨y, hy⟩ : ∃ y, y = nextC c bit := ⟨_, rfl⟩
      rw [← hy] at hN
      have HN := Lib.hid hN
      have Hy := Lib.hid hy
      have Hk := Lib.hid hk
      have HD := Lib.hid hD; have HF := Lib.hid hF; have Hg := Lib.hid hg; have HB1 := Lib.hid hbk1
      clear hD hF hg HG hk hbk1 hN hy hbb ka
      go_upto_region 5 with fail
      have q1 : (t : Int) < 16 := by omega
      have q2 : (i : Int) < 37 := by omega
      refine wp_region_held_drew (S := fun _ => True) (by kernel_rfl) ?_ (fun hHeld => ?_)
      · trivial
      refine wpAnyH_pick 0 (v := ?_) rfl (by kernel_rfl) (by kernel_rfl) (by kernel_rfl) (fun _ _ _ h => h) (by assumption) (by rfl) ?_ ?_
      rotate_left
      · (intro w hSw; (try dsimp only at hSw); go_simp) <;> (with_reducible rfl)
      (try simp only [Act.put, List.setIfInBounds_toArray, List.set_cons_zero, List.set_cons_succ])
      refine wpAnyH_pick 1 (v := ?_) rfl (by kernel_rfl) (by kernel_rfl) (by kernel_rfl) (fun _ _ _ h => h) (by assumption) (by rfl) ?_ ?_
      rotate_left
      · (intro w hSw; (try dsimp only at hSw); go_simp) <;> (with_reducible rfl)
      (try simp only [Act.put, List.setIfInBounds_toArray, List.set_cons_zero, List.set_cons_succ])
      refine wpAnyH_pick 2 (v := ?_) rfl (by kernel_rfl) (by kernel_rfl) (by kernel_rfl) (fun _ _ _ h => h) (by assumption) (by rfl) ?_ ?_
      rotate_left
      · (intro w hSw; (try dsimp only at hSw); go_simp) <;> (with_reducible rfl)
      (try simp only [Act.put, List.setIfInBounds_toArray, List.set_cons_zero, List.set_cons_succ])
      refine wpAnyH_pick 3 (v := ?_) rfl (by kernel_rfl) (by kernel_rfl) (by kernel_rfl) (fun _ _ _ h => h) (by assumption) (by rfl) ?_ ?_
      rotate_left
      · (intro w hSw; (try dsimp only at hSw); go_simp) <;> (with_reducible rfl)
      (try simp only [Act.put, List.setIfInBounds_toArray, List.set_cons_zero, List.set_cons_succ])
      refine wpAnyH_pick 4 (v := ?_) rfl (by kernel_rfl) (by kernel_rfl) (by kernel_rfl) (fun _ _ _ h => h) (by assumption) (by rfl) ?_ ?_
      rotate_left
      · (intro w hSw; (try dsimp only at hSw); go_simp) <;> (with_reducible rfl)
      (try simp only [Act.put, List.setIfInBounds_toArray, List.set_cons_zero, List.set_cons_succ])
      refine wpAnyH_pick 5 (v := ?_) rfl (by kernel_rfl) (by kernel_rfl) (by kernel_rfl) (fun _ _ _ h => h) (by assumption) (by rfl) ?_ ?_
      rotate_left
      · (intro w hSw; (try dsimp only at hSw); go_simp) <;> (with_reducible rfl)
      (try simp only [Act.put, List.setIfInBounds_toArray, List.set_cons_zero, List.set_cons_succ])
      refine wpAnyH_pick 6 (v := ?_) rfl (by kernel_rfl) (by kernel_rfl) (by kernel_rfl) (fun _ _ _ h => h) (by assumption) (by rfl) ?_ ?_
      rotate_left
      · (intro w hSw; (try dsimp only at hSw); go_simp) <;> (with_reducible rfl)
      (try simp only [Act.put, List.setIfInBounds_toArray, List.set_cons_zero, List.set_cons_succ])
      refine wpAnyH_pick 7 (v := ?_) rfl (by kernel_rfl) (by kernel_rfl) (by kernel_rfl) (fun _ _ _ h => h) (by assumption) (by rfl) ?_ ?_
      rotate_left
      · (intro w hSw; (try dsimp only at hSw); go_simp) <;> (with_reducible rfl)
      (try simp only [Act.put, List.setIfInBounds_toArray, List.set_cons_zero, List.set_cons_succ])
      refine wpAnyH_pick 8 (v := ?_) rfl (by kernel_rfl) (by kernel_rfl) (by kernel_rfl) (fun _ _ _ h => h) (by assumption) (by rfl) ?_ ?_
      rotate_left
      · (intro w hSw; (try dsimp only at hSw); go_simp) <;> (with_reducible rfl)
      (try simp only [Act.put, List.setIfInBounds_toArray, List.set_cons_zero, List.set_cons_succ])
      refine wpAnyH_pick 9 (v := ?_) rfl (by kernel_rfl) (by kernel_rfl) (by kernel_rfl) (fun _ _ _ h => h) (by assumption) (by rfl) ?_ ?_
      rotate_left
      · (intro w hSw; (try dsimp only at hSw); go_simp) <;> (with_reducible rfl)
      (try simp only [Act.put, List.setIfInBounds_toArray, List.set_cons_zero, List.set_cons_succ])
      refine wpAnyH_pick 11 (v := ?_) rfl (by kernel_rfl) (by kernel_rfl) (by kernel_rfl) (fun _ _ _ h => h) (by assumption) (by rfl) ?_ ?_
      rotate_left
      · (intro w hSw; (try dsimp only at hSw); go_simp) <;> (with_reducible rfl)
      (try simp only [Act.put, List.setIfInBounds_toArray, List.set_cons_zero, List.set_cons_succ])
      refine wpAnyH_pick 13 (v := ?_) rfl (by kernel_rfl) (by kernel_rfl) (by kernel_rfl) (fun _ _ _ h => h) (by assumption) (by rfl) ?_ ?_
      rotate_left
      · (intro w hSw; (try dsimp only at hSw); go_simp) <;> (with_reducible rfl)
      (try simp only [Act.put, List.setIfInBounds_toArray, List.set_cons_zero, List.set_cons_succ])
      refine wpAnyH_pick 14 (v := ?_) rfl (by kernel_rfl) (by kernel_rfl) (by kernel_rfl) (fun _ _ _ h => h) (by assumption) (by rfl) ?_ ?_
      rotate_left
      · (intro w hSw; (try dsimp only at hSw); go_simp) <;> (with_reducible rfl)
      (try simp only [Act.put, List.setIfInBounds_toArray, List.set_cons_zero, List.set_cons_succ])
      refine wpAnyH_pick 15 (v := ?_) rfl (by kernel_rfl) (by kernel_rfl) (by kernel_rfl) (fun _ _ _ h => h) (by assumption) (by rfl) ?_ ?_
      rotate_left
      · (intro w hSw; (try dsimp only at hSw); go_simp) <;> (with_reducible rfl)
      (try simp only [Act.put, List.setIfInBounds_toArray, List.set_cons_zero, List.set_cons_succ])
      refine wpAnyH_ready (rs := [10]) (by kernel_rfl) (by simp) ?_
      refine AllReadyH_pick rfl (fun K hK => ?_) (AllReadyH.nil)
      skip
      go_simp
      refine hK.out _ _ ?_ (fun hHeld => ?_)
      · trivial
      clear hK K
      (try simp only [Act.put, List.setIfInBounds_toArray, List.set_cons_zero, List.set_cons_succ])
      refine wpAnyH_ready (rs := [12]) (by kernel_rfl) (by simp) ?_
      refine AllReadyH_pick rfl (fun K hK => ?_) (AllReadyH.nil)
      go_simp
      refine (HN.out _).mono ?_
      rintro r1 wN ⟨rfl, rfl⟩
      go_wp2_with fail
      refine hK.out _ _ ?_ (fun hHeld => ?_)
      · trivial
      clear hK K
      (try simp only [Act.put, List.setIfInBounds_toArray, List.set_cons_zero, List.set_cons_succ])
      refine wpAnyH_pick 16 (v := ?_) rfl (by kernel_rfl) (by kernel_rfl) (by kernel_rfl) (fun _ _ _ h => h) (by assumption) (by rfl) ?_ ?_
      rotate_left
      · (intro w hSw; (try dsimp only at hSw); go_simp) <;> (with_reducible rfl)
      (try simp only [Act.put, List.setIfInBounds_toArray, List.set_cons_zero, List.set_cons_succ])
      refine wpAnyH_ready (rs := [17]) (by kernel_rfl) (by simp) ?_
      refine AllReadyH_pick rfl (fun K hK => ?_) (AllReadyH.nil)
      skip
      go_simp
      refine hK.out _ _ ?_ (fun hHeld => ?_)
      · trivial
      clear hK K
      (try simp only [Act.put, List.setIfInBounds_toArray, List.set_cons_zero, List.set_cons_succ])
      refine wpAnyH_done (by kernel_rfl) ?_ _
      skip
      go_wp2_with fail
      go_ret2
      have hF2 : Fr [q] w1 (w1.setCell ⟨q, t * 37 + i, none⟩ (.int .i64 (y : Int))).drew := ((Fr.refl [q] w1).setCell (.inl (by simp)) _).drew
      have hl : learn B t (some i) bit = upd B (t * 37 + i) y := by
        show upd B (37 * t + i) (nextC (B (37 * t + i)) bit) = _
        rw [Hy.out, Hc.out, show t * 37 + i = 37 * t + i by omega]
      refine .inl ⟨bit, learn B t (some i) bit, d', ?_, rfl, ⟨?_, ?_, H.out.qp, H.out.qa, learn_fine H.out.fine t _ bit, Hk.out.1, Hk.out.2.1, Hk.out.2.2⟩, ?_⟩
      · unfold getEv
        rw [show chOf B t (some i) = c from Hc.out.symm, Hg.out]
      · rw [hl]
        exact (HB1.out.set (t * 37 + i) y).drew
      · exact HD.out.fr hF2 (by simp; exact fun e => H.out.qp e.symm) (fun ad had => by simp; exact H.out.qa ad had)
      · exact (HF.out.mono (by simp)).trans hF2 (by simp)
    · have HF := Lib.hid hF; have Hg := Lib.hid hg
      clear hF hg HG ka
      go_wp2_with fail
      go_ret2
      refine .inr ⟨?_, rfl, HF.out.mono (by simp)⟩
      unfold getEv
      rw [show chOf B t (some i) = c from Hc.out.symm, Hg.out]
end Go.Proofs.Ytfjlepnodmeaaaa
