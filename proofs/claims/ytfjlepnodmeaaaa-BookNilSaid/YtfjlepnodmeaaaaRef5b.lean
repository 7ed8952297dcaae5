/-
  Contracts of the document's book: put, and what it changes.
-/
import Derived.Test.YtfjlepnodmeaaaaRef5a
import Derived.Test.YtfjlepnodmeaaaaRef4c
import Derived.Test.YtfjlepnodmeaaaaCodSpec
import Derived.Test.YtfjlepnodmeaaaaRegion
namespace Go.Proofs.Ytfjlepnodmeaaaa
open Go.RowKit

theorem Rb.fr {w w' : World} {q : Nat} {B : Chs} {S : List Nat} (h : Rb w q B) (hf : Fr S w w') (hq : q ∉ S) : Rb w' q B := Blk.fr h hf hq
theorem Rb.lt {w : World} {q : Nat} {B : Chs} (h : Rb w q B) : q < w.heap.size := Blk.lt h

/-- The document's book and encoder, apart; its digits' row at v. -/
structure Pen (w : World) (q : Nat) (B : Chs) (p : Nat) (v : Value) (e : Enc) : Prop where
  bk : Rb w q B
  en : Re w p v e
  qp : q ≠ p
  qv : v.ownBlock ≠ some q
  fine : FineB B
  ok : e.Ok
/-- What putting changes: the book, the encoder, its row; the row is the same or new. -/
def PenFr (q p : Nat) (v v' : Value) (w w' : World) : Prop := Fr (q :: p :: v.ownBlock.toList) w w' ∧ (v'.ownBlock = v.ownBlock ∨ ∃ g, v'.ownBlock = some g ∧ w.heap.size ≤ g)
theorem PenFr.refl (q p : Nat) (v : Value) (w : World) : PenFr q p v v w w := ⟨Fr.refl _ _, .inl rfl⟩
theorem PenFr.trans {q p : Nat} {v v2 v3 : Value} {w w2 w3 : World} (h : PenFr q p v v2 w w2) (k : PenFr q p v2 v3 w2 w3) : PenFr q p v v3 w w3 := by
  refine ⟨h.1.trans k.1 fun x hx => ?_, ?_⟩
  · rcases List.mem_cons.1 hx with rfl | hx
    · exact .inl (List.mem_cons_self ..)
    · rcases List.mem_cons.1 hx with rfl | hx
      · exact .inl (List.mem_cons_of_mem _ (List.mem_cons_self ..))
      · have hx : v2.ownBlock = some x := by simpa using hx
        rcases h.2 with h2 | ⟨g, h2, h3⟩
        · exact .inl (by rw [h2] at hx; simp [hx])
        · rw [h2] at hx
          injection hx with hx
          subst hx
          exact .inr h3
  · rcases k.2 with k2 | ⟨g, k2, k3⟩
    · rw [k2]; exact h.2
    · exact .inr ⟨g, k2, Nat.le_trans h.1.size k3⟩

set_option maxRecDepth 20000 in
theorem rputB_any (w : World) (q p t : Nat) (v : Value) (B : Chs) (e : Enc) (i : Option Nat) (bit : Bool) (h : Pen w q B p v e) (ht : t < 16) (hi : ∀ j, i = some j → j < 37) (hn : e.n ≤ 100000) :
    Calls Try.prog 45 #[pt q, pt p, .int .i64 (t : Int), .int .i64 (plI i), .int .u8 (bit.toNat : Int)] w fun r w' => r = .returned (.tuple #[]) ∧ ∃ v', Pen w' q (learn B t i bit) p v' (encPut e (chOf B t i) bit) ∧ PenFr q p v v' w w' := by
  have hc := chOf_right h.fine t i
  have hbw : IntKind.i64.wrap (bit.toNat : Int) = (bit.toNat : Int) := by cases bit <;> decide
  cases i with
  | none =>
    have HP := Lib.hid (rput_ok p v e 1024 bit w h.en h.ok (by decide) (by omega))
    have H := Lib.hid h
    clear h hc
    show Calls Try.prog 45 #[pt q, pt p, .int .i64 (t : Int), .int .i64 (-1), .int .u8 (bit.toNat : Int)] w _
    go_enter Try.func45, Try.ntmps45
    go_wp2_with fail
    refine HP.out.mono ?_
    rintro r w1 ⟨rfl, v', hR, hF⟩
    go_wp2_with fail
    refine bodyPost_ret (results_none rfl _ _ _) rfl ?_
    have h := H.out
    refine ⟨rfl, v', ⟨h.bk.fr hF.1 ?_, hR, h.qp, ?_, h.fine, encPut_ok h.ok (chOf_right h.fine t none) bit⟩, hF.1.mono (fun x hx => .inl (List.mem_cons_of_mem _ hx)), hF.2⟩
    · intro hm
      rcases List.mem_cons.1 hm with hm | hm
      · exact h.qp hm
      · exact h.qv (by simpa using hm)
    · rcases hF.2 with h2 | ⟨g, h2, h3⟩
      · rw [h2]; exact h.qv
      · rw [h2]
        intro hg
        injection hg with hg
        have := h.bk.lt
        omega
  | some i =>
    have hi37 := hi i rfl
    have hcr : rightC (B (37 * t + i)) := hc
    have hb := h.bk.cell (j := t * 37 + i) (by omega)
    rw [show t * 37 + i = 37 * t + i by omega] at hb
    obtain ⟨c, hcc⟩ : ∃ c, c = B (37 * t + i) := ⟨_, rfl⟩
    have hP := rput_ok p v e c bit w h.en h.ok (by rw [hcc]; exact hcr) (by omega)
    have hN := fun W => rnext_any c (bit.toNat : Int) W (by rw [hcc]; have := hcr.2; omega)
    have hbb : ((bit.toNat : Int) != 0) = bit := by cases bit <;> rfl
    rw [hbb] at hN
    obtain ⟨y, hy⟩ : ∃ y, y = nextC c bit := ⟨_, rfl⟩
    rw [← hy] at hN
    rw [← hcc] at hb
    have HP := Lib.hid hP
    have HN := Lib.hid hN
    have H := Lib.hid h
    have Hc := Lib.hid hcc
    have Hy := Lib.hid hy
    have ka : w.cell? ⟨q, t * 37 + i, none⟩ = some (.int .i64 (c : Int)) := by rw [show t * 37 + i = 37 * t + i by omega]; exact hb
    have e1 : decide ((i : Int) < 0) = false := by simp
    clear h hc hcr hb hcc hP hN hy hbb hi
    show Calls Try.prog 45 #[pt q, pt p, .int .i64 (t : Int), .int .i64 (i : Int), .int .u8 (bit.toNat : Int)] w _
    go_enter Try.func45, Try.ntmps45
    go_wp2_with fail
    refine HP.out.mono ?_
    rintro r w1 ⟨rfl, v', hR, hF⟩
    have hbk1 : Rb w1 q B := H.out.bk.fr hF.1 (fun hm => by
      rcases List.mem_cons.1 hm with hm | hm
      · exact H.out.qp hm
      · exact H.out.qv (by simpa using hm))
    have hqv' : v'.ownBlock ≠ some q := by
      rcases hF.2 with h2 | ⟨g, h2, h3⟩
      · rw [h2]; exact H.out.qv
      · rw [h2]
        intro hg
        injection hg with hg
        have := H.out.bk.lt
        omega
    have kb : w1.cell? ⟨q, t * 37 + i, none⟩ = some (.int .i64 (c : Int)) := by rw [hbk1.cell (by omega), Hc.out, show t * 37 + i = 37 * t + i by omega]
    have kf : w1.frozen? ⟨q, t * 37 + i, none⟩ = false := Blk.frozen hbk1 _
    have HR := Lib.hid hR; have HF := Lib.hid hF; have HB1 := Lib.hid hbk1; have Hqv := Lib.hid hqv'
    clear hR hF hbk1 hqv' ka HP
    go_upto_region 3 with fail
    have q1 : (t : Int) < 16 := by omega
    have q2 : (i : Int) < 37 := by omega
    have kb1 : w1.drew.cell? ⟨q, t * 37 + i, none⟩ = some (.int .i64 (c : Int)) := kb
    have kf1 : w1.drew.frozen? ⟨q, t * 37 + i, none⟩ = false := kf
    refine wp_region_held_drew (S := fun _ => True) (by kernel_rfl) ?_ (fun hHeld => ?_)
    · trivial
    refine wpAnyH_pick 0 (v := ?_) rfl (by kernel_rfl) (by kernel_rfl) (by kernel_rfl) (fun _ _ _ h => h) (by assumption) (by rfl) ?_ ?_
    rotate_left
    · (intro w hSw; (try dsimp only at hSw); go_simp) <;> (with_reducible rfl)
    (try simp only [Act.put, List.setIfInBounds_toArray, List.set_cons_zero, List.set_cons_succ])
    refine wpAnyH_pick 1 (v := ?_) rfl (by kernel_rfl) (by kernel_rfl) (by kernel_rfl) (fun _ _ _ h => h) (by assumption) (by rfl) ?_ ?_
    rotate_left
    · (intro w hSw; (try dsimp only at hSw); go_simp) <;> (with_reducible rfl)
    (try simp only [Act.put, List.setIfInBounds_toArray, List.set_cons_zero, List.set_cons_succ])
    refine wpAnyH_pick 2 (v := ?_) rfl (by kernel_rfl) (by kernel_rfl) (by kernel_rfl) (fun _ _ _ h => h) (by assumption) (by rfl) ?_ ?_
    rotate_left
    · (intro w hSw; (try dsimp only at hSw); go_simp) <;> (with_reducible rfl)
    (try simp only [Act.put, List.setIfInBounds_toArray, List.set_cons_zero, List.set_cons_succ])
    refine wpAnyH_pick 3 (v := ?_) rfl (by kernel_rfl) (by kernel_rfl) (by kernel_rfl) (fun _ _ _ h => h) (by assumption) (by rfl) ?_ ?_
    rotate_left
    · (intro w hSw; (try dsimp only at hSw); go_simp) <;> (with_reducible rfl)
    (try simp only [Act.put, List.setIfInBounds_toArray, List.set_cons_zero, List.set_cons_succ])
    refine wpAnyH_pick 4 (v := ?_) rfl (by kernel_rfl) (by kernel_rfl) (by kernel_rfl) (fun _ _ _ h => h) (by assumption) (by rfl) ?_ ?_
    rotate_left
    · (intro w hSw; (try dsimp only at hSw); go_simp) <;> (with_reducible rfl)
    (try simp only [Act.put, List.setIfInBounds_toArray, List.set_cons_zero, List.set_cons_succ])
    refine wpAnyH_pick 5 (v := ?_) rfl (by kernel_rfl) (by kernel_rfl) (by kernel_rfl) (fun _ _ _ h => h) (by assumption) (by rfl) ?_ ?_
    rotate_left
    · (intro w hSw; (try dsimp only at hSw); go_simp) <;> (with_reducible rfl)
    (try simp only [Act.put, List.setIfInBounds_toArray, List.set_cons_zero, List.set_cons_succ])
    refine wpAnyH_pick 6 (v := ?_) rfl (by kernel_rfl) (by kernel_rfl) (by kernel_rfl) (fun _ _ _ h => h) (by assumption) (by rfl) ?_ ?_
    rotate_left
    · (intro w hSw; (try dsimp only at hSw); go_simp) <;> (with_reducible rfl)
    (try simp only [Act.put, List.setIfInBounds_toArray, List.set_cons_zero, List.set_cons_succ])
    refine wpAnyH_pick 7 (v := ?_) rfl (by kernel_rfl) (by kernel_rfl) (by kernel_rfl) (fun _ _ _ h => h) (by assumption) (by rfl) ?_ ?_
    rotate_left
    · (intro w hSw; (try dsimp only at hSw); go_simp) <;> (with_reducible rfl)
    (try simp only [Act.put, List.setIfInBounds_toArray, List.set_cons_zero, List.set_cons_succ])
    refine wpAnyH_pick 8 (v := ?_) rfl (by kernel_rfl) (by kernel_rfl) (by kernel_rfl) (fun _ _ _ h => h) (by assumption) (by rfl) ?_ ?_
    rotate_left
    · (intro w hSw; (try dsimp only at hSw); go_simp) <;> (with_reducible rfl)
    (try simp only [Act.put, List.setIfInBounds_toArray, List.set_cons_zero, List.set_cons_succ])
    refine wpAnyH_pick 9 (v := ?_) rfl (by kernel_rfl) (by kernel_rfl) (by kernel_rfl) (fun _ _ _ h => h) (by assumption) (by rfl) ?_ ?_
    rotate_left
    · (intro w hSw; (try dsimp only at hSw); go_simp) <;> (with_reducible rfl)
    (try simp only [Act.put, List.setIfInBounds_toArray, List.set_cons_zero, List.set_cons_succ])
    refine wpAnyH_pick 11 (v := ?_) rfl (by kernel_rfl) (by kernel_rfl) (by kernel_rfl) (fun _ _ _ h => h) (by assumption) (by rfl) ?_ ?_
    rotate_left
    · (intro w hSw; (try dsimp only at hSw); go_simp) <;> (with_reducible rfl)
    (try simp only [Act.put, List.setIfInBounds_toArray, List.set_cons_zero, List.set_cons_succ])
    refine wpAnyH_pick 12 (v := ?_) rfl (by kernel_rfl) (by kernel_rfl) (by kernel_rfl) (fun _ _ _ h => h) (by assumption) (by rfl) ?_ ?_
    rotate_left
    · (intro w hSw; (try dsimp only at hSw); go_simp) <;> (with_reducible rfl)
    (try simp only [Act.put, List.setIfInBounds_toArray, List.set_cons_zero, List.set_cons_succ])
    refine wpAnyH_pick 14 (v := ?_) rfl (by kernel_rfl) (by kernel_rfl) (by kernel_rfl) (fun _ _ _ h => h) (by assumption) (by rfl) ?_ ?_
    rotate_left
    · (intro w hSw; (try dsimp only at hSw); go_simp) <;> (with_reducible rfl)
    (try simp only [Act.put, List.setIfInBounds_toArray, List.set_cons_zero, List.set_cons_succ])
    refine wpAnyH_pick 15 (v := ?_) rfl (by kernel_rfl) (by kernel_rfl) (by kernel_rfl) (fun _ _ _ h => h) (by assumption) (by rfl) ?_ ?_
    rotate_left
    · (intro w hSw; (try dsimp only at hSw); go_simp) <;> (with_reducible rfl)
    (try simp only [Act.put, List.setIfInBounds_toArray, List.set_cons_zero, List.set_cons_succ])
    refine wpAnyH_pick 16 (v := ?_) rfl (by kernel_rfl) (by kernel_rfl) (by kernel_rfl) (fun _ _ _ h => h) (by assumption) (by rfl) ?_ ?_
    rotate_left
    · (intro w hSw; (try dsimp only at hSw); go_simp) <;> (with_reducible rfl)
    (try simp only [Act.put, List.setIfInBounds_toArray, List.set_cons_zero, List.set_cons_succ])
    refine wpAnyH_ready (rs := [10]) (by kernel_rfl) (by simp) ?_
    refine AllReadyH_pick rfl (fun K hK => ?_) (AllReadyH.nil)
    skip
    go_simp
    refine hK.out _ _ ?_ (fun hHeld => ?_)
    · trivial
    clear hK K
    (try simp only [Act.put, List.setIfInBounds_toArray, List.set_cons_zero, List.set_cons_succ])
    refine wpAnyH_ready (rs := [13]) (by kernel_rfl) (by simp) ?_
    refine AllReadyH_pick rfl (fun K hK => ?_) (AllReadyH.nil)
    go_simp
    refine (HN.out _).mono ?_
    rintro r1 wN ⟨rfl, rfl⟩
    go_wp2_with fail
    refine hK.out _ _ ?_ (fun hHeld => ?_)
    · trivial
    clear hK K
    (try simp only [Act.put, List.setIfInBounds_toArray, List.set_cons_zero, List.set_cons_succ])
    refine wpAnyH_pick 17 (v := ?_) rfl (by kernel_rfl) (by kernel_rfl) (by kernel_rfl) (fun _ _ _ h => h) (by assumption) (by rfl) ?_ ?_
    rotate_left
    · (intro w hSw; (try dsimp only at hSw); go_simp) <;> (with_reducible rfl)
    (try simp only [Act.put, List.setIfInBounds_toArray, List.set_cons_zero, List.set_cons_succ])
    refine wpAnyH_ready (rs := [18]) (by kernel_rfl) (by simp) ?_
    refine AllReadyH_pick rfl (fun K hK => ?_) (AllReadyH.nil)
    skip
    go_simp
    refine hK.out _ _ ?_ (fun hHeld => ?_)
    · trivial
    clear hK K
    (try simp only [Act.put, List.setIfInBounds_toArray, List.set_cons_zero, List.set_cons_succ])
    refine wpAnyH_done (by kernel_rfl) ?_ _
    skip
    go_end0
    have hF2 : Fr [q] w1 (w1.setCell ⟨q, t * 37 + i, none⟩ (.int .i64 (y : Int))).drew := ((Fr.refl [q] w1).setCell (.inl (by simp)) _).drew
    have hq2 := H.out.bk.lt
    have hl : learn B t (some i) bit = upd B (t * 37 + i) y := by
      show upd B (37 * t + i) (nextC (B (37 * t + i)) bit) = _
      rw [Hy.out, Hc.out, show t * 37 + i = 37 * t + i by omega]
    have hcc : chOf B t (some i) = c := Hc.out.symm
    have hcr : rightC c := by rw [← hcc]; exact chOf_right H.out.fine t _
    refine ⟨rfl, v', ⟨?_, ?_, H.out.qp, Hqv.out, learn_fine H.out.fine t _ bit, ?_⟩, ?_, HF.out.2⟩
    · rw [hl]
      exact (HB1.out.set (t * 37 + i) y).drew
    · rw [hcc]
      exact HR.out.fr hF2 (by simp; exact fun e => H.out.qp e.symm) (fun k hk hm => Hqv.out (by simp at hm; rw [← hm]; exact hk))
    · rw [hcc]
      exact encPut_ok H.out.ok hcr bit
    · refine (HF.out.1.mono (fun x hx => .inl (List.mem_cons_of_mem _ hx))).trans hF2 (fun x hx => .inl ?_)
      simp at hx
      subst hx
      exact List.mem_cons_self ..
end Go.Proofs.Ytfjlepnodmeaaaa
