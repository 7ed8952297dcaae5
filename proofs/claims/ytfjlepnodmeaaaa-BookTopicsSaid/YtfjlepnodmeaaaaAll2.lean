/-
  What several laws' proofs lean on, part 2; each part says its conditions below.
-/
import Derived.Deep.WholeRow
import Derived.Test.YtfjlepnodmeaaaaRows
import Derived.Test.YtfjlepnodmeaaaaAll1
/-
  Contracts of the document's book: put, and what it changes.
-/
namespace Go.Proofs.Ytfjlepnodmeaaaa
open Go.RowKit

theorem Rb.fr {w w' : World} {q : Nat} {B : Chs} {S : List Nat} (h : Rb w q B) (hf : Fr S w w') (hq : q ∉ S) : Rb w' q B := Blk.fr h hf hq
theorem Rb.lt {w : World} {q : Nat} {B : Chs} (h : Rb w q B) : q < w.heap.size := Blk.lt h

/-- The document's book and encoder, apart; its digits' row at v. -/
structure Pen (w : World) (q : Nat) (B : Chs) (p : Nat) (v : Value) (e : Enc) : Prop where
  bk : Rb w q B
  en : Re w p v e
  qp : q ≠ p
  qv : v.ownBlock ≠ some q
  fine : FineB B
  ok : e.Ok
/-- What putting changes: the book, the encoder, its row; the row is the same or new. -/
def PenFr (q p : Nat) (v v' : Value) (w w' : World) : Prop := Fr (q :: p :: v.ownBlock.toList) w w' ∧ (v'.ownBlock = v.ownBlock ∨ ∃ g, v'.ownBlock = some g ∧ w.heap.size ≤ g)
theorem PenFr.refl (q p : Nat) (v : Value) (w : World) : PenFr q p v v w w := ⟨Fr.refl _ _, .inl rfl⟩
theorem PenFr.trans {q p : Nat} {v v2 v3 : Value} {w w2 w3 : World} (h : PenFr q p v v2 w w2) (k : PenFr q p v2 v3 w2 w3) : PenFr q p v v3 w w3 := by
  refine ⟨h.1.trans k.1 fun x hx => ?_, ?_⟩
  · rcases List.mem_cons.1 hx with rfl | hx
    · exact .inl (List.mem_cons_self ..)
    · rcases List.mem_cons.1 hx with rfl | hx
      · exact .inl (List.mem_cons_of_mem _ (List.mem_cons_self ..))
      · have hx : v2.ownBlock = some x := by simpa using hx
        rcases h.2 with h2 | ⟨g, h2, h3⟩
        · exact .inl (by rw [h2] at hx; simp [hx])
        · rw [h2] at hx
          injection hx with hx
          subst hx
          exact .inr h3
  · rcases k.2 with k2 | ⟨g, k2, k3⟩
    · rw [k2]; exact h.2
    · exact .inr ⟨g, k2, Nat.le_trans h.1.size k3⟩

set_option maxRecDepth 20000 in
theorem rputB_any (w : World) (q p t : Nat) (v : Value) (B : Chs) (e : Enc) (i : Option Nat) (bit : Bool) (h : Pen w q B p v e) (ht : t < 16) (hi : ∀ j, i = some j → j < 37) (hn : e.n ≤ 100000) :
    Calls Try.prog 45 #[pt q, pt p, .int .i64 (t : Int), .int .i64 (plI i), .int .u8 (bit.toNat : Int)] w fun r w' => r = .returned (.tuple #[]) ∧ ∃ v', Pen w' q (learn B t i bit) p v' (encPut e (chOf B t i) bit) ∧ PenFr q p v v' w w' := by
  have hc := chOf_right h.fine t i
  have hbw : IntKind.i64.wrap (bit.toNat : Int) = (bit.toNat : Int) := by cases bit <;> decide
  cases i with
  | none =>
    have HP := Lib.hid (rput_ok p v e 1024 bit w h.en h.ok (by decide) (by omega))
    have H := Lib.hid h
    clear h hc
    show Calls Try.prog 45 #[pt q, pt p, .int .i64 (t : Int), .int .i64 (-1), .int .u8 (bit.toNat : Int)] w _
    go_enter Try.func45, Try.ntmps45
    go_wp2_with fail
    refine HP.out.mono ?_
    rintro r w1 ⟨rfl, v', hR, hF⟩
    go_wp2_with fail
    refine bodyPost_ret (results_none rfl _ _ _) rfl ?_
    have h := H.out
    refine ⟨rfl, v', ⟨h.bk.fr hF.1 ?_, hR, h.qp, ?_, h.fine, encPut_ok h.ok (chOf_right h.fine t none) bit⟩, hF.1.mono (fun x hx => .inl (List.mem_cons_of_mem _ hx)), hF.2⟩
    · intro hm
      rcases List.mem_cons.1 hm with hm | hm
      · exact h.qp hm
      · exact h.qv (by simpa using hm)
    · rcases hF.2 with h2 | ⟨g, h2, h3⟩
      · rw [h2]; exact h.qv
      · rw [h2]
        intro hg
        injection hg with hg
        have := h.bk.lt
        omega
  | some i =>
    have hi37 := hi i rfl
    have hcr : rightC (B (37 * t + i)) := hc
    have hb := h.bk.cell (j := t * 37 + i) (by omega)
    rw [show t * 37 + i = 37 * t + i by omega] at hb
    obtain ⟨c, hcc⟩ : ∃ c, c = B (37 * t + i) := ⟨_, rfl⟩
    have hP := rput_ok p v e c bit w h.en h.ok (by rw [hcc]; exact hcr) (by omega)
    have hN := fun W => rnext_any c (bit.toNat : Int) W (by rw [hcc]; have := hcr.2; omega)
    have hbb : ((bit.toNat : Int) != 0) = bit := by cases bit <;> rfl
    rw [hbb] at hN
    obtain ⟨y, hy⟩ : ∃ y, y = nextC c bit := ⟨_, rfl⟩
    rw [← hy] at hN
    rw [← hcc] at hb
    have HP := Lib.hid hP
    have HN := Lib.hid hN
    have H := Lib.hid h
    have Hc := Lib.hid hcc
    have Hy := Lib.hid hy
    have ka : w.cell? ⟨q, t * 37 + i, none⟩ = some (.int .i64 (c : Int)) := by rw [show t * 37 + i = 37 * t + i by omega]; exact hb
    have e1 : decide ((i : Int) < 0) = false := by simp
    clear h hc hcr hb hcc hP hN hy hbb hi
    show Calls Try.prog 45 #[pt q, pt p, .int .i64 (t : Int), .int .i64 (i : Int), .int .u8 (bit.toNat : Int)] w _
    go_enter Try.func45, Try.ntmps45
    go_wp2_with fail
    refine HP.out.mono ?_
    rintro r w1 ⟨rfl, v', hR, hF⟩
    have hbk1 : Rb w1 q B := H.out.bk.fr hF.1 (fun hm => by
      rcases List.mem_cons.1 hm with hm | hm
      · exact H.out.qp hm
      · exact H.out.qv (by simpa using hm))
    have hqv' : v'.ownBlock ≠ some q := by
      rcases hF.2 with h2 | ⟨g, h2, h3⟩
      · rw [h2]; exact H.out.qv
      · rw [h2]
        intro hg
        injection hg with hg
        have := H.out.bk.lt
        omega
    have kb : w1.cell? ⟨q, t * 37 + i, none⟩ = some (.int .i64 (c : Int)) := by rw [hbk1.cell (by omega), Hc.out, show t * 37 + i = 37 * t + i by omega]
    have kf : w1.frozen? ⟨q, t * 37 + i, none⟩ = false := Blk.frozen hbk1 _
    have HR := Lib.hid hR; have HF := Lib.hid hF; have HB1 := Lib.hid hbk1; have Hqv := Lib.hid hqv'
    clear hR hF hbk1 hqv' ka HP
    go_upto_region 3 with fail
    have q1 : (t : Int) < 16 := by omega
    have q2 : (i : Int) < 37 := by omega
    have kb1 : w1.drew.cell? ⟨q, t * 37 + i, none⟩ = some (.int .i64 (c : Int)) := kb
    have kf1 : w1.drew.frozen? ⟨q, t * 37 + i, none⟩ = false := kf
    refine wp_region_held_drew (S := fun _ => True) (by kernel_rfl) ?_ (fun hHeld => ?_)
    · trivial
    refine wpAnyH_pick 0 (v := ?_) rfl (by kernel_rfl) (by kernel_rfl) (by kernel_rfl) (fun _ _ _ h => h) (by assumption) (by rfl) ?_ ?_
    rotate_left
    · (intro w hSw; (try dsimp only at hSw); go_simp) <;> (with_reducible rfl)
    (try simp only [Act.put, List.setIfInBounds_toArray, List.set_cons_zero, List.set_cons_succ])
    refine wpAnyH_pick 1 (v := ?_) rfl (by kernel_rfl) (by kernel_rfl) (by kernel_rfl) (fun _ _ _ h => h) (by assumption) (by rfl) ?_ ?_
    rotate_left
    · (intro w hSw; (try dsimp only at hSw); go_simp) <;> (with_reducible rfl)
    (try simp only [Act.put, List.setIfInBounds_toArray, List.set_cons_zero, List.set_cons_succ])
    refine wpAnyH_pick 2 (v := ?_) rfl (by kernel_rfl) (by kernel_rfl) (by kernel_rfl) (fun _ _ _ h => h) (by assumption) (by rfl) ?_ ?_
    rotate_left
    · (intro w hSw; (try dsimp only at hSw); go_simp) <;> (with_reducible rfl)
    (try simp only [Act.put, List.setIfInBounds_toArray, List.set_cons_zero, List.set_cons_succ])
    refine wpAnyH_pick 3 (v := ?_) rfl (by kernel_rfl) (by kernel_rfl) (by kernel_rfl) (fun _ _ _ h => h) (by assumption) (by rfl) ?_ ?_
    rotate_left
    · (intro w hSw; (try dsimp only at hSw); go_simp) <;> (with_reducible rfl)
    (try simp only [Act.put, List.setIfInBounds_toArray, List.set_cons_zero, List.set_cons_succ])
    refine wpAnyH_pick 4 (v := ?_) rfl (by kernel_rfl) (by kernel_rfl) (by kernel_rfl) (fun _ _ _ h => h) (by assumption) (by rfl) ?_ ?_
    rotate_left
    · (intro w hSw; (try dsimp only at hSw); go_simp) <;> (with_reducible rfl)
    (try simp only [Act.put, List.setIfInBounds_toArray, List.set_cons_zero, List.set_cons_succ])
    refine wpAnyH_pick 5 (v := ?_) rfl (by kernel_rfl) (by kernel_rfl) (by kernel_rfl) (fun _ _ _ h => h) (by assumption) (by rfl) ?_ ?_
    rotate_left
    · (intro w hSw; (try dsimp only at hSw); go_simp) <;> (with_reducible rfl)
    (try simp only [Act.put, List.setIfInBounds_toArray, List.set_cons_zero, List.set_cons_succ])
    refine wpAnyH_pick 6 (v := ?_) rfl (by kernel_rfl) (by kernel_rfl) (by kernel_rfl) (fun _ _ _ h => h) (by assumption) (by rfl) ?_ ?_
    rotate_left
    · (intro w hSw; (try dsimp only at hSw); go_simp) <;> (with_reducible rfl)
    (try simp only [Act.put, List.setIfInBounds_toArray, List.set_cons_zero, List.set_cons_succ])
    refine wpAnyH_pick 7 (v := ?_) rfl (by kernel_rfl) (by kernel_rfl) (by kernel_rfl) (fun _ _ _ h => h) (by assumption) (by rfl) ?_ ?_
    rotate_left
    · (intro w hSw; (try dsimp only at hSw); go_simp) <;> (with_reducible rfl)
    (try simp only [Act.put, List.setIfInBounds_toArray, List.set_cons_zero, List.set_cons_succ])
    refine wpAnyH_pick 8 (v := ?_) rfl (by kernel_rfl) (by kernel_rfl) (by kernel_rfl) (fun _ _ _ h => h) (by assumption) (by rfl) ?_ ?_
    rotate_left
    · (intro w hSw; (try dsimp only at hSw); go_simp) <;> (with_reducible rfl)
    (try simp only [Act.put, List.setIfInBounds_toArray, List.set_cons_zero, List.set_cons_succ])
    refine wpAnyH_pick 9 (v := ?_) rfl (by kernel_rfl) (by kernel_rfl) (by kernel_rfl) (fun _ _ _ h => h) (by assumption) (by rfl) ?_ ?_
    rotate_left
    · (intro w hSw; (try dsimp only at hSw); go_simp) <;> (with_reducible rfl)
    (try simp only [Act.put, List.setIfInBounds_toArray, List.set_cons_zero, List.set_cons_succ])
    refine wpAnyH_pick 11 (v := ?_) rfl (by kernel_rfl) (by kernel_rfl) (by kernel_rfl) (fun _ _ _ h => h) (by assumption) (by rfl) ?_ ?_
    rotate_left
    · (intro w hSw; (try dsimp only at hSw); go_simp) <;> (with_reducible rfl)
    (try simp only [Act.put, List.setIfInBounds_toArray, List.set_cons_zero, List.set_cons_succ])
    refine wpAnyH_pick 12 (v := ?_) rfl (by kernel_rfl) (by kernel_rfl) (by kernel_rfl) (fun _ _ _ h => h) (by assumption) (by rfl) ?_ ?_
    rotate_left
    · (intro w hSw; (try dsimp only at hSw); go_simp) <;> (with_reducible rfl)
    (try simp only [Act.put, List.setIfInBounds_toArray, List.set_cons_zero, List.set_cons_succ])
    refine wpAnyH_pick 14 (v := ?_) rfl (by kernel_rfl) (by kernel_rfl) (by kernel_rfl) (fun _ _ _ h => h) (by assumption) (by rfl) ?_ ?_
    rotate_left
    · (intro w hSw; (try dsimp only at hSw); go_simp) <;> (with_reducible rfl)
    (try simp only [Act.put, List.setIfInBounds_toArray, List.set_cons_zero, List.set_cons_succ])
    refine wpAnyH_pick 15 (v := ?_) rfl (by kernel_rfl) (by kernel_rfl) (by kernel_rfl) (fun _ _ _ h => h) (by assumption) (by rfl) ?_ ?_
    rotate_left
    · (intro w hSw; (try dsimp only at hSw); go_simp) <;> (with_reducible rfl)
    (try simp only [Act.put, List.setIfInBounds_toArray, List.set_cons_zero, List.set_cons_succ])
    refine wpAnyH_pick 16 (v := ?_) rfl (by kernel_rfl) (by kernel_rfl) (by kernel_rfl) (fun _ _ _ h => h) (by assumption) (by rfl) ?_ ?_
    rotate_left
    · (intro w hSw; (try dsimp only at hSw); go_simp) <;> (with_reducible rfl)
    (try simp only [Act.put, List.setIfInBounds_toArray, List.set_cons_zero, List.set_cons_succ])
    refine wpAnyH_ready (rs := [10]) (by kernel_rfl) (by simp) ?_
    refine AllReadyH_pick rfl (fun K hK => ?_) (AllReadyH.nil)
    skip
    go_simp
    refine hK.out _ _ ?_ (fun hHeld => ?_)
    · trivial
    clear hK K
    (try simp only [Act.put, List.setIfInBounds_toArray, List.set_cons_zero, List.set_cons_succ])
    refine wpAnyH_ready (rs := [13]) (by kernel_rfl) (by simp) ?_
    refine AllReadyH_pick rfl (fun K hK => ?_) (AllReadyH.nil)
    go_simp
    refine (HN.out _).mono ?_
    rintro r1 wN ⟨rfl, rfl⟩
    go_wp2_with fail
    refine hK.out _ _ ?_ (fun hHeld => ?_)
    · trivial
    clear hK K
    (try simp only [Act.put, List.setIfInBounds_toArray, List.set_cons_zero, List.set_cons_succ])
    refine wpAnyH_pick 17 (v := ?_) rfl (by kernel_rfl) (by kernel_rfl) (by kernel_rfl) (fun _ _ _ h => h) (by assumption) (by rfl) ?_ ?_
    rotate_left
    · (intro w hSw; (try dsimp only at hSw); go_simp) <;> (with_reducible rfl)
    (try simp only [Act.put, List.setIfInBounds_toArray, List.set_cons_zero, List.set_cons_succ])
    refine wpAnyH_ready (rs := [18]) (by kernel_rfl) (by simp) ?_
    refine AllReadyH_pick rfl (fun K hK => ?_) (AllReadyH.nil)
    skip
    go_simp
    refine hK.out _ _ ?_ (fun hHeld => ?_)
    · trivial
    clear hK K
    (try simp only [Act.put, List.setIfInBounds_toArray, List.set_cons_zero, List.set_cons_succ])
    refine wpAnyH_done (by kernel_rfl) ?_ _
    skip
    go_end0
    have hF2 : Fr [q] w1 (w1.setCell ⟨q, t * 37 + i, none⟩ (.int .i64 (y : Int))).drew := ((Fr.refl [q] w1).setCell (.inl (by simp)) _).drew
    have hq2 := H.out.bk.lt
    have hl : learn B t (some i) bit = upd B (t * 37 + i) y := by
      show upd B (37 * t + i) (nextC (B (37 * t + i)) bit) = _
      rw [Hy.out, Hc.out, show t * 37 + i = 37 * t + i by omega]
    have hcc : chOf B t (some i) = c := Hc.out.symm
    have hcr : rightC c := by rw [← hcc]; exact chOf_right H.out.fine t _
    refine ⟨rfl, v', ⟨?_, ?_, H.out.qp, Hqv.out, learn_fine H.out.fine t _ bit, ?_⟩, ?_, HF.out.2⟩
    · rw [hl]
      exact (HB1.out.set (t * 37 + i) y).drew
    · rw [hcc]
      exact HR.out.fr hF2 (by simp; exact fun e => H.out.qp e.symm) (fun k hk hm => Hqv.out (by simp at hm; rw [← hm]; exact hk))
    · rw [hcc]
      exact encPut_ok H.out.ok hcr bit
    · refine (HF.out.1.mono (fun x hx => .inl (List.mem_cons_of_mem _ hx))).trans hF2 (fun x hx => .inl ?_)
      simp at hx
      subst hx
      exact List.mem_cons_self ..
end Go.Proofs.Ytfjlepnodmeaaaa

/-
  Contracts of the document's coder of layer 4: Open, Get; conditions: the lengths are bounded as named.
-/
namespace Go.Proofs.Ytfjlepnodmeaaaa
open Go.RowKit

theorem ropen_short (A : Option Addr) (n c : Nat) (w : World) (h : n < 4) :
    Calls Try.prog 19 #[.slice A n c] w fun e w' => e = .returned (.tuple #[.pointer none, .int .i64 41]) ∧ w' = w := by
  have e1 : decide ((n : Int) < 4) = true := by simp; omega
  clear h
  go_enter Try.func19, Try.ntmps19
  go_wp2_with fail
  go_ret2
  exact ⟨rfl, rfl⟩

set_option maxRecDepth 20000 in
set_option maxHeartbeats 4000000 in
theorem ropen_any (A : Option Addr) (c : Nat) (bs : List UInt8) (w : World) (hs : Src w (.slice A bs.length c) (bs.map B8)) (hn : 4 ≤ bs.length) (hm : bs.length ≤ 1000000) :
    Calls Try.prog 19 #[.slice A bs.length c] w fun e w' => ∃ p, e = .returned (.tuple #[.pointer (some ⟨p, 0, none⟩), .int .i64 0]) ∧ Rd w' p A c bs (decOpen bs) ∧ Fr [] w w' ∧ w.heap.size ≤ p := by
  obtain ⟨n, hnn⟩ : ∃ n, n = bs.length := ⟨_, rfl⟩
  rw [← hnn] at hs hn hm
  have e1 : decide ((n : Int) < 4) = false := by simp; omega
  have HS := Lib.hid hs
  have Hnn := Lib.hid hnn
  rw [show (bs.length) = n from hnn.symm]
  clear hs hnn
  go_enter Try.func19, Try.ntmps19
  go_wp2_with fail
  generalize hw : w.alloc _ = w1
  have hB : Blk w1 w.heap.size 83 #[.slice A n c, .int .i64 ((4 : Nat) : Int), .int .i64 ((0 : Nat) : Int), .int .i64 4294967295] := by rw [← hw]; exact Blk.new _ _ _
  have hF : Fr [] w w1 := by rw [← hw]; exact (Fr.refl _ _).alloc _
  obtain ⟨p, hp⟩ : ∃ p, p = w.heap.size := ⟨_, rfl⟩
  rw [← hp] at hB ⊢
  have Hp := Lib.hid hp
  have HB := Lib.hid hB
  have HF := Lib.hid hF
  clear hB hF hw hp
  go_loopw [5] (fun s5 wr => ∃ i : Nat, i ≤ 4 ∧ s5 = .int .i64 (i : Int) ∧ Fr [] w wr ∧ Blk wr p 83 #[.slice A n c, .int .i64 ((4 : Nat) : Int), .int .i64 (valueOf (bs.take i) : Int), .int .i64 4294967295]) (fun s5 _ => 4 - (intOf s5).toNat)
  case atStart => exact ⟨0, by omega, rfl, HF.out, HB.out⟩
  case round =>
    obtain ⟨i, hi, rfl, hF, hB⟩ := hrel
    by_cases hlt : i < 4
    · have eg : decide ((i : Int) < 4) = true := by simp; omega
      obtain ⟨x, hx⟩ : ∃ x, bs[i]? = some x := ⟨_, List.getElem?_eq_getElem (by have := Hnn.out; omega)⟩
      have hcell : ∀ W, Fr [] w W → ∃ ad, A = some ad ∧ W.cell? (ad.add i) = some (.int .u8 (x.toNat : Int)) := by
        intro W hF
        obtain ⟨ad, r1, c1⟩ := (HS.out.fr0 hF).cellAt hx
        exact ⟨ad, r1, c1⟩
      obtain ⟨ad, rfl, -⟩ := hcell wr hF
      have hcells : ∀ W, Fr [] w W → W.cell? (ad.add i) = some (.int .u8 (x.toNat : Int)) := by
        intro W hF
        obtain ⟨a1, r1, c1⟩ := hcell W hF
        injection r1 with r1
        subst r1
        exact c1
      obtain ⟨V, hV⟩ : ∃ V, V = valueOf (bs.take i) := ⟨_, rfl⟩
      have hVl : V < 4294967296 := by
        have h1 := valueOf_lt (bs.take i)
        have h2 : (bs.take i).length ≤ 4 := by simp; omega
        have h3 : 256 ^ (bs.take i).length ≤ 256 ^ 4 := Nat.pow_le_pow_right (by omega) h2
        rw [← hV] at h1
        omega
      rw [← hV] at hB
      have hxl := x.toNat_lt
      obtain ⟨U, hU⟩ : ∃ U, U = 256 * V + x.toNat := ⟨_, rfl⟩
      have eU : 256 * (V : Int) + (x.toNat : Int) = (U : Int) := by omega
      have hval : valueOf (bs.take (i + 1)) = U := by
        rw [take_value bs i (by have := Hnn.out; omega), ← hV, hU, List.getD_eq_getElem?_getD, hx]; rfl
      have hin : i < n := by omega
      have w1 : IntKind.i64.wrap (256 * (V : Int)) = 256 * (V : Int) := IntWalk.i64_in _ (by omega)
      have w2 : IntKind.i64.wrap (U : Int) = (U : Int) := IntWalk.i64_in _ (by omega)
      have w3 : IntKind.i64.wrap (x.toNat : Int) = (x.toNat : Int) := IntWalk.i64_in _ (by omega)
      have k2 := hB.drew.cell 2
      have k3 := hB.drew.frozen 2
      have k4 := hB.drew.lt
      simp at k2
      have kx := hcells _ hF.drew
      have h5 := hB.drew.set_ 2 (.int .i64 (U : Int))
      have h6 := hF.drew.setCell (p := ⟨p, 2, none⟩) (.inr (by have := Hp.out; simp; omega)) (.int .i64 (U : Int))
      have kx2 := hcells _ h6
      have H5 := Lib.hid h5
      have H6 := Lib.hid h6
      have HV := Lib.hid hV
      have Hval := Lib.hid hval
      have Hx := Lib.hid hx
      clear h5 h6 hV hval hx hcell hcells hB hF hU
      go_upto_region 7 with fail
      refine wp_region_held_drew (S := fun W => W.cell? (ad.add i) = some (.int .u8 (x.toNat : Int))) (by kernel_rfl) ?_ (fun hHeld => ?_)
      · (repeat' (first | trivial | assumption | refine ⟨?_, ?_⟩))
      refine wpAnyH_pick 0 (v := ?_) rfl (by kernel_rfl) (by kernel_rfl) (by kernel_rfl) (fun _ _ _ h => h) (by assumption) (by rfl) ?_ ?_
      rotate_left
      · (intro w hSw; (try dsimp only at hSw); go_simp) <;> (with_reducible rfl)
      (try simp only [Act.put, List.setIfInBounds_toArray, List.set_cons_zero, List.set_cons_succ])
      refine wpAnyH_pick 1 (v := ?_) rfl (by kernel_rfl) (by kernel_rfl) (by kernel_rfl) (fun _ _ _ h => h) (by assumption) (by rfl) ?_ ?_
      rotate_left
      · (intro w hSw; (try dsimp only at hSw); go_simp) <;> (with_reducible rfl)
      (try simp only [Act.put, List.setIfInBounds_toArray, List.set_cons_zero, List.set_cons_succ])
      refine wpAnyH_pick 2 (v := ?_) rfl (by kernel_rfl) (by kernel_rfl) (by kernel_rfl) (fun _ _ _ h => h) (by assumption) (by rfl) ?_ ?_
      rotate_left
      · (intro w hSw; (try dsimp only at hSw); go_simp) <;> (with_reducible rfl)
      (try simp only [Act.put, List.setIfInBounds_toArray, List.set_cons_zero, List.set_cons_succ])
      refine wpAnyH_pick 3 (v := ?_) rfl (by kernel_rfl) (by kernel_rfl) (by kernel_rfl) (fun _ _ _ h => h) (by assumption) (by rfl) ?_ ?_
      rotate_left
      · (intro w hSw; (try dsimp only at hSw); go_simp) <;> (with_reducible rfl)
      (try simp only [Act.put, List.setIfInBounds_toArray, List.set_cons_zero, List.set_cons_succ])
      refine wpAnyH_pick 6 (v := ?_) rfl (by kernel_rfl) (by kernel_rfl) (by kernel_rfl) (fun _ _ _ h => h) (by assumption) (by rfl) ?_ ?_
      rotate_left
      · (intro w hSw; (try dsimp only at hSw); go_simp) <;> (with_reducible rfl)
      (try simp only [Act.put, List.setIfInBounds_toArray, List.set_cons_zero, List.set_cons_succ])
      refine wpAnyH_pick 7 (v := ?_) rfl (by kernel_rfl) (by kernel_rfl) (by kernel_rfl) (fun _ _ _ h => h) (by assumption) (by rfl) ?_ ?_
      rotate_left
      · (intro w hSw; (try dsimp only at hSw); go_simp) <;> (with_reducible rfl)
      (try simp only [Act.put, List.setIfInBounds_toArray, List.set_cons_zero, List.set_cons_succ])
      refine wpAnyH_pick 8 (v := ?_) rfl (by kernel_rfl) (by kernel_rfl) (by kernel_rfl) (fun _ _ _ h => h) (by assumption) (by rfl) ?_ ?_
      rotate_left
      · (intro w hSw; (try dsimp only at hSw); go_simp) <;> (with_reducible rfl)
      (try simp only [Act.put, List.setIfInBounds_toArray, List.set_cons_zero, List.set_cons_succ])
      refine wpAnyH_pick 9 (v := ?_) rfl (by kernel_rfl) (by kernel_rfl) (by kernel_rfl) (fun _ _ _ h => h) (by assumption) (by rfl) ?_ ?_
      rotate_left
      · (intro w hSw; (try dsimp only at hSw); go_simp) <;> (with_reducible rfl)
      (try simp only [Act.put, List.setIfInBounds_toArray, List.set_cons_zero, List.set_cons_succ])
      refine wpAnyH_pick 10 (v := ?_) rfl (by kernel_rfl) (by kernel_rfl) (by kernel_rfl) (fun _ _ _ h => h) (by assumption) (by rfl) ?_ ?_
      rotate_left
      · (intro w hSw; (try dsimp only at hSw); go_simp) <;> (with_reducible rfl)
      (try simp only [Act.put, List.setIfInBounds_toArray, List.set_cons_zero, List.set_cons_succ])
      refine wpAnyH_ready (rs := [4]) (by kernel_rfl) (by simp) ?_
      refine AllReadyH_pick rfl (fun K hK => ?_) (AllReadyH.nil)
      skip
      go_simp
      refine hK.out _ _ ?_ (fun hHeld => ?_)
      · (repeat' (first | trivial | assumption | refine ⟨?_, ?_⟩))
      clear hK K
      (try simp only [Act.put, List.setIfInBounds_toArray, List.set_cons_zero, List.set_cons_succ])
      refine wpAnyH_pick 5 (v := ?_) rfl (by kernel_rfl) (by kernel_rfl) (by kernel_rfl) (fun _ _ _ h => h) (by assumption) (by rfl) ?_ ?_
      rotate_left
      · (intro w hSw; (try dsimp only at hSw); go_simp) <;> (with_reducible rfl)
      (try simp only [Act.put, List.setIfInBounds_toArray, List.set_cons_zero, List.set_cons_succ])
      refine wpAnyH_pick 11 (v := ?_) rfl (by kernel_rfl) (by kernel_rfl) (by kernel_rfl) (fun _ _ _ h => h) (by assumption) (by rfl) ?_ ?_
      rotate_left
      · (intro w hSw; (try dsimp only at hSw); go_simp) <;> (with_reducible rfl)
      (try simp only [Act.put, List.setIfInBounds_toArray, List.set_cons_zero, List.set_cons_succ])
      refine wpAnyH_pick 12 (v := ?_) rfl (by kernel_rfl) (by kernel_rfl) (by kernel_rfl) (fun _ _ _ h => h) (by assumption) (by rfl) ?_ ?_
      rotate_left
      · (intro w hSw; (try dsimp only at hSw); go_simp) <;> (with_reducible rfl)
      (try simp only [Act.put, List.setIfInBounds_toArray, List.set_cons_zero, List.set_cons_succ])
      refine wpAnyH_pick 13 (v := ?_) rfl (by kernel_rfl) (by kernel_rfl) (by kernel_rfl) (fun _ _ _ h => h) (by assumption) (by rfl) ?_ ?_
      rotate_left
      · (intro w hSw; (try dsimp only at hSw); go_simp) <;> (with_reducible rfl)
      (try simp only [Act.put, List.setIfInBounds_toArray, List.set_cons_zero, List.set_cons_succ])
      refine wpAnyH_ready (rs := [14]) (by kernel_rfl) (by simp) ?_
      refine AllReadyH_pick rfl (fun K hK => ?_) (AllReadyH.nil)
      skip
      go_simp
      refine hK.out _ _ ?_ (fun hHeld => ?_)
      · (repeat' (first | trivial | assumption | refine ⟨?_, ?_⟩))
      clear hK K
      (try simp only [Act.put, List.setIfInBounds_toArray, List.set_cons_zero, List.set_cons_succ])
      refine wpAnyH_done (by kernel_rfl) ?_ _
      skip
      have k5 : Blk (wr.setCell ⟨p, 2, none⟩ (.int .i64 (U : Int))).drew p 83 (#[.slice (some ad) n c, .int .i64 ((4 : Nat) : Int), .int .i64 (V : Int), .int .i64 4294967295].setIfInBounds 2 (.int .i64 (U : Int))) := H5.out
      have k6 : Fr [] w (wr.setCell ⟨p, 2, none⟩ (.int .i64 (U : Int))).drew := H6.out
      generalize (wr.setCell ⟨p, 2, none⟩ (.int .i64 (U : Int))).drew = w7 at k5 k6 ⊢
      have k5' : Blk w7 p 83 #[.slice (some ad) n c, .int .i64 ((4 : Nat) : Int), .int .i64 (U : Int), .int .i64 4294967295] := by simpa using k5
      have K5 := Lib.hid k5'
      have K6 := Lib.hid k6
      clear k5 k5' k6 hHeld k2 k3 k4 kx kx2 H5 H6
      go_wp2_with fail
      exact ⟨⟨i + 1, by omega, by simp, K6.out, by rw [Hval.out]; exact K5.out⟩, by simp [intOf]; omega⟩
    · obtain rfl : i = 4 := by omega
      have eg : decide ((4 : Int) < 4) = false := by decide
      have HF2 := Lib.hid hF
      have HB2 := Lib.hid hB
      clear hF hB
      go_wp2_with fail
      go_ret2
      refine ⟨p, rfl, ⟨?_, ?_, ?_⟩, HF2.out, by rw [Hp.out]; exact Nat.le_refl _⟩
      · rw [← Hnn.out]; exact HB2.out
      · rw [← Hnn.out]; exact HS.out.fr0 HF2.out
      · intro ad had
        obtain ⟨a1, r1, c1⟩ := HS.out.cellAt (k := 0) (List.getElem?_eq_getElem (by have := Hnn.out; omega))
        rw [had] at r1
        injection r1 with r1
        subst r1
        have := World.block_lt_of_cell? w _ c1
        rw [addr_block] at this
        have := Hp.out
        omega

theorem decScale_none {bs : List UInt8} {bit : Bool} {d : Dec} (h1 : d.r < 16777216) (h2 : bs.length ≤ d.i) : decScale bs bit d = none := by unfold decScale; rw [if_pos h1, if_neg (by omega)]
theorem decScale_more {bs : List UInt8} {bit : Bool} {d : Dec} (h1 : d.r < 16777216) (h2 : d.i < bs.length) : decScale bs bit d = some (bit, ⟨d.i + 1, 256 * d.rest + (bs.getD d.i 0).toNat, d.r * 256⟩) := by unfold decScale; rw [if_pos h1, if_pos h2]
theorem decScale_same {bs : List UInt8} {bit : Bool} {d : Dec} (h1 : ¬ d.r < 16777216) : decScale bs bit d = some (bit, d) := by unfold decScale; rw [if_neg h1]

theorem Rd.fr0 {w w' : World} {p : Nat} {A : Option Addr} {c : Nat} {bs : List UInt8} {d : Dec} (h : Rd w p A c bs d) (hf : Fr [] w w') : Rd w' p A c bs d := ⟨h.1.fr hf (by simp), h.2.1.fr0 hf, h.2.2⟩

theorem rget_arg (a : Value) (c : Nat) (w : World) (h : ¬ rightC c) :
    Calls Try.prog 63 #[a, .int .i64 (c : Int)] w fun e w' => e = .returned (.tuple #[.int .i64 0, .int .i64 1]) ∧ w' = w := by
  have e0 : decide (rightC c) = false := decide_eq_false h
  have HC := Lib.hid (rright_any c w)
  clear h
  go_enter Try.func63, Try.ntmps63
  go_wp2_with fail
  refine HC.out.mono ?_
  rintro e w' ⟨rfl, rfl⟩
  rw [e0]
  go_wp2_with fail
  go_ret2
  exact ⟨rfl, rfl⟩

/-- The rest is too great. -/
theorem rget_great (p : Nat) (A : Option Addr) (cc : Nat) (bs : List UInt8) (d : Dec) (c : Nat) (w : World) (h : Rd w p A cc bs d) (hc : rightC c) (hr : d.r ≤ d.rest) :
    Calls Try.prog 63 #[.pointer (some ⟨p, 0, none⟩), .int .i64 (c : Int)] w fun e w' => e = .returned (.tuple #[.int .i64 0, .int .i64 41]) ∧ ∃ m, w' = w.drewN m := by
  have e0 : decide (rightC c) = true := decide_eq_true hc
  have HC := Lib.hid (rright_any c w)
  have c2 := h.1.cell 2
  have c3 := h.1.cell 3
  have hlt := h.1.lt
  simp at c2 c3
  obtain ⟨i, r, k⟩ := d
  simp only at *
  have e1 : decide (k ≤ r) = true := by simp [hr]
  clear h hc hr
  go_enter Try.func63, Try.ntmps63
  go_wp2_with fail
  refine HC.out.mono ?_
  rintro e w' ⟨rfl, rfl⟩
  rw [e0]
  go_upto_region 4 with fail
  go_quiet (fail)
  go_wp2_with fail
  go_ret2
  exact ⟨rfl, _, rfl⟩

set_option maxRecDepth 100000 in
set_option maxHeartbeats 4000000 in
theorem rget_any (p : Nat) (A : Option Addr) (cc : Nat) (bs : List UInt8) (d : Dec) (c : Nat) (w : World) (h : Rd w p A cc bs d) (hc : rightC c) (hr : d.rest < d.r) (hr1 : 16777216 ≤ d.r) (hr2 : d.r ≤ 4294967295) (hi : d.i ≤ 1000000) :
    Calls Try.prog 63 #[.pointer (some ⟨p, 0, none⟩), .int .i64 (c : Int)] w fun e w' =>
      (∃ bit d', decGet bs d c = some (bit, d') ∧ e = .returned (.tuple #[.int .i64 (bit.toNat : Int), .int .i64 0]) ∧ Rd w' p A cc bs d' ∧ Fr [p] w w') ∨
      (decGet bs d c = none ∧ e = .returned (.tuple #[.int .i64 0, .int .i64 41]) ∧ Fr [] w w') := by
  have e0 : decide (rightC c) = true := decide_eq_true hc
  have HC := Lib.hid (rright_any c w)
  obtain ⟨B, hB⟩ : ∃ B, B = bnd d.r c := ⟨_, rfl⟩
  have hb1 := bnd_lo hr1 hc
  have hb2 := bnd_hi hr1 hc
  rw [← hB] at hb1 hb2
  have eB : (d.r : Int) / 2048 * (c : Int) = (B : Int) := by rw [hB]; unfold bnd; simp
  obtain ⟨D, hD⟩ : ∃ D, D = decBit d c := ⟨_, rfl⟩
  have hget : decGet bs d c = decScale bs D.1 D.2 := by unfold decGet; rw [if_pos hr, hD]
  have hD2 : D = if d.rest < B then (false, ⟨d.i, d.rest, B⟩) else (true, ⟨d.i, d.rest - B, d.r - B⟩) := by rw [hD, hB]; rfl
  have Hget := Lib.hid hget
  have HD := Lib.hid hD2
  have H := Lib.hid h
  have c2 := h.1.cell 2
  have c3 := h.1.cell 3
  have hlt := h.1.lt
  have hz : (Try.prog.info? 83).map (·.size) = some 4 := by kernel_rfl
  have Hz := Lib.hid hz
  simp at c2 c3
  obtain ⟨i, r, k⟩ := d
  simp only at *
  have e1 : decide (k ≤ r) = false := by simp; omega
  clear h hc hget hD2 hD hz hB
  go_enter Try.func63, Try.ntmps63
  go_wp2_with fail
  refine HC.out.mono ?_
  rintro e w' ⟨rfl, rfl⟩
  rw [e0]
  go_upto_region 4 with fail
  go_quiet (fail)
  have H2 := Lib.hid (H.out.fr0 ((Fr.refl [] w').drewN nq))
  have HFd := Lib.hid ((Fr.refl [] w').drewN nq)
  generalize w'.drewN nq = w2 at H2 HFd ⊢
  go_upto_region 6 with fail
  have hz4 : (Try.prog.info? 83).map (·.size) = some (#[Value.slice A bs.length cc, .int .i64 (i : Int), .int .i64 (r : Int), .int .i64 (k : Int)] : Array Value).size := Hz.out
  obtain ⟨n, hn⟩ : ∃ n, n = bs.length := ⟨_, rfl⟩
  rw [← hn] at hz4
  have Hn := Lib.hid hn
  have hR2 := H2.out.1
  rw [← hn] at hR2
  have HR2 := Lib.hid hR2
  clear hR2 hn
  go_upto_region 7 with (first
    | refine wpList_load_row rfl 83 _ rfl p rfl 83 _ _ _ HR2.out.here Try.underlying83 rfl hz4 ?_
    | refine wpList_store_row rfl 83 _ _ rfl w2.heap.size _ rfl rfl 83 _ (heap_alloc_new _ _) hz4 rfl rfl ?_)
  (try rw [World.setRow_alloc_new])
  generalize hw : w2.alloc (.cells #[.slice A n cc, .int .i64 (i : Int), .int .i64 (r : Int), .int .i64 (k : Int)] 83) = w3
  have hB3 : Blk w3 w2.heap.size 83 #[.slice A n cc, .int .i64 (i : Int), .int .i64 (r : Int), .int .i64 (k : Int)] := by rw [← hw]; exact Blk.new _ _ _
  have hF3 : Fr [] w2 w3 := by rw [← hw]; exact (Fr.refl _ _).alloc _
  obtain ⟨q, hq⟩ : ∃ q, q = w2.heap.size := ⟨_, rfl⟩
  rw [← hq] at hB3 ⊢
  have Hq := Lib.hid hq
  have k2 := hB3.cell 2
  have k3 := hB3.cell 3
  have k4 := hB3.frozen 2
  have k5 := hB3.frozen 3
  have k6 := hB3.lt
  simp at k2 k3
  have HB3 := Lib.hid hB3
  have HF3 := Lib.hid hF3
  clear hw hq hB3 hF3 c2 c3 hlt HC e0 hz4
  by_cases hb : r < B
  · have eb : decide (r < B) = true := by simp [hb]
    obtain ⟨D1, hD1⟩ : ∃ D1 : Dec, D1 = ⟨i, r, B⟩ := ⟨_, rfl⟩
    have HrD : Hid (D1.rest < D1.r) := Lib.hid (by rw [hD1]; exact hb)
    have Hr1 : Hid (253952 ≤ D1.r) := Lib.hid (by rw [hD1]; exact hb1)
    rw [if_pos hb, ← hD1] at HD
    have hB4 : Blk (w3.setCell ⟨q, 3, none⟩ (.int .i64 (B : Int))) q 83 #[.slice A n cc, .int .i64 (D1.i : Int), .int .i64 (D1.rest : Int), .int .i64 (D1.r : Int)] := by
      rw [hD1]
      have := HB3.out.set_ 3 (.int .i64 (B : Int))
      simpa using this
    have hF4 : Fr [] w2 (w3.setCell ⟨q, 3, none⟩ (.int .i64 (B : Int))) := HF3.out.setCell (.inr (by rw [← Hq.out]; exact Nat.le_refl _)) _
    have HB4' := Lib.hid hB4
    have HF4' := Lib.hid hF4
    have HD1 := Lib.hid hD1
    clear hB4 hF4 hD1 hb
    go_wp2_with fail
    have HB4 := HB4'
    have HF4 := HF4'
    go_loopw [49] (fun _ wr => ∃ f : Dec, (f = D1 ∨ (D1.r < 16777216 ∧ decScale bs false D1 = some (false, f) ∧ 16777216 ≤ f.r)) ∧ Fr [] w2 wr ∧ Blk wr q 83 #[.slice A n cc, .int .i64 (f.i : Int), .int .i64 (f.rest : Int), .int .i64 (f.r : Int)]) (fun _ wr => 4294967296 - (intOf ((wr.cell? ⟨q, 3, none⟩).getD undef)).toNat)
    case atStart => exact ⟨D1, .inl rfl, HF4.out, HB4.out⟩
    case round =>
      obtain ⟨f, hf, hF, hB⟩ := hrel
      have Hf := Lib.hid hf
      have HF := Lib.hid hF
      have d0 := hB.cell 0
      have d1 := hB.cell 1
      have d2 := hB.cell 2
      have d3 := hB.cell 3
      have g1 := hB.frozen 1
      have g2 := hB.frozen 2
      have g3 := hB.frozen 3
      have hlq := hB.lt
      simp at d0 d1 d2 d3
      have HBr := Lib.hid hB
      clear hf hF hB
      by_cases hlt2 : f.r < 16777216
      · have hfe : f = D1 := by
          rcases Hf.out with h0 | ⟨_, _, h0⟩
          · exact h0
          · omega
        have eg : decide ((f.r : Int) < 16777216) = true := by simp; omega
        have Hfe := Lib.hid hfe
        clear hfe
        by_cases hin : f.i < n
        · have ei : decide (n ≤ f.i) = false := by simp; omega
          have hrest : f.rest < 16777216 := by rw [Hfe.out] at hlt2 ⊢; have := HrD.out; omega
          obtain ⟨x, hx⟩ : ∃ x, bs[f.i]? = some x := ⟨_, List.getElem?_eq_getElem (by have := Hn.out; omega)⟩
          have hmore : decScale bs false D1 = some (false, ⟨f.i + 1, 256 * f.rest + x.toNat, f.r * 256⟩) := by
            rw [← Hfe.out, decScale_more hlt2 (by rw [← Hn.out]; exact hin), List.getD_eq_getElem?_getD, hx]; rfl
          have hfi : f.i ≤ 1000000 := by rw [Hfe.out, HD1.out]; exact hi
          have hf1 : 253952 ≤ f.r := by rw [Hfe.out]; exact Hr1.out
          obtain ⟨I, R, G⟩ := f
          simp only at *
          have hcell : ∀ W, Fr [] w2 W → ∃ ad, A = some ad ∧ W.cell? (ad.add I) = some (.int .u8 (x.toNat : Int)) := by
            intro W hF
            have hS := H2.out.2.1.fr0 hF
            rw [← Hn.out] at hS
            obtain ⟨ad, r1, c1⟩ := hS.cellAt hx
            exact ⟨ad, r1, c1⟩
          obtain ⟨ad, rfl, -⟩ := hcell wr HF.out
          have hcells : ∀ W, Fr [] w2 W → W.cell? (ad.add I) = some (.int .u8 (x.toNat : Int)) := by
            intro W hF
            obtain ⟨a1, r1, c1⟩ := hcell W hF
            have r2 := Option.some.inj r1
            rw [r2]
            exact c1
          have hxl := x.toNat_lt
          obtain ⟨M, hM⟩ : ∃ M, M = G * 256 := ⟨_, rfl⟩
          have eM : 256 * (G : Int) = (M : Int) := by omega
          obtain ⟨U, hU⟩ : ∃ U, U = 256 * R + x.toNat := ⟨_, rfl⟩
          have eU : 256 * (R : Int) + (x.toNat : Int) = (U : Int) := by omega
          have v1 : IntKind.i64.wrap (256 * (R : Int)) = 256 * (R : Int) := IntWalk.i64_in _ (by omega)
          have v2 : IntKind.i64.wrap (U : Int) = (U : Int) := IntWalk.i64_in _ (by omega)
          have v3 : IntKind.i64.wrap (x.toNat : Int) = (x.toNat : Int) := IntWalk.i64_in _ (by omega)
          have v4 : IntKind.i64.wrap (M : Int) = (M : Int) := IntWalk.i64_in _ (by omega)
          rw [← hM, ← hU] at hmore
          have hqn : w2.heap.size ≤ q := by rw [Hq.out]; exact Nat.le_refl _
          have b5 : Blk (wr.setCell ⟨q, 3, none⟩ (.int .i64 (M : Int))) q 83 #[.slice (some ad) n cc, .int .i64 (I : Int), .int .i64 (R : Int), .int .i64 (M : Int)] := by
            have := HBr.out.set_ 3 (.int .i64 (M : Int)); simpa using this
          have f5 : Fr [] w2 (wr.setCell ⟨q, 3, none⟩ (.int .i64 (M : Int))) := HF.out.setCell (.inr hqn) _
          generalize hw5 : wr.setCell ⟨q, 3, none⟩ (.int .i64 (M : Int)) = w5 at b5 f5
          have Hw5 := Lib.hid hw5
          have Hmore := Lib.hid hmore
          have HM := Lib.hid hM
          have Hlt2 := Lib.hid hlt2
          have B5 := Lib.hid b5
          have F5 := Lib.hid f5
          have Hcells := Lib.hid hcells
          have Hd3 := Lib.hid d3
          clear hw5 hmore hM hlt2 hU hx hcell hcells b5 f5
          go_upto_region 18 with fail
          rw [Hw5.out]
          clear d0 d1 d2 d3 g1 g2 g3 hlq eg
          have d0 := B5.out.drew.cell 0
          have d1 := B5.out.drew.cell 1
          have d2 := B5.out.drew.cell 2
          have g2 := B5.out.drew.frozen 2
          simp at d0 d1 d2
          have dx := Hcells.out _ F5.out.drew
          have b6 : Blk (w5.drew.setCell ⟨q, 2, none⟩ (.int .i64 (U : Int))) q 83 #[.slice (some ad) n cc, .int .i64 (I : Int), .int .i64 (U : Int), .int .i64 (M : Int)] := by
            have := B5.out.drew.set_ 2 (.int .i64 (U : Int)); simpa using this
          have f6 : Fr [] w2 (w5.drew.setCell ⟨q, 2, none⟩ (.int .i64 (U : Int))) := F5.out.drew.setCell (.inr hqn) _
          have p0 := b6.cell 0
          have p1 := b6.cell 1
          simp at p0 p1
          have px := Hcells.out _ f6
          have B6 := Lib.hid b6
          have F6 := Lib.hid f6
          clear b6 f6
          refine wp_region_held_drew (S := fun W => W.cell? ⟨q, 0, none⟩ = some (.slice (some ad) n cc) ∧ W.cell? ⟨q, 1, none⟩ = some (.int .i64 (I : Int)) ∧ W.cell? (ad.add I) = some (.int .u8 (x.toNat : Int))) (by kernel_rfl) ?_ (fun hHeld => ?_)
          · (repeat' (first | trivial | assumption | refine ⟨?_, ?_⟩))
          refine wpAnyH_pick 0 (v := ?_) rfl (by kernel_rfl) (by kernel_rfl) (by kernel_rfl) (fun _ _ _ h => h) (by assumption) (by rfl) ?_ ?_
          rotate_left
          · (intro w hSw; (try dsimp only at hSw); go_simp) <;> (with_reducible rfl)
          (try simp only [Act.put, List.setIfInBounds_toArray, List.set_cons_zero, List.set_cons_succ])
          refine wpAnyH_pick 3 (v := ?_) rfl (by kernel_rfl) (by kernel_rfl) (by kernel_rfl) (fun _ _ _ h => h) (by assumption) (by rfl) ?_ ?_
          rotate_left
          · (intro w hSw; (try dsimp only at hSw); go_simp) <;> (with_reducible rfl)
          (try simp only [Act.put, List.setIfInBounds_toArray, List.set_cons_zero, List.set_cons_succ])
          refine wpAnyH_pick 4 (v := ?_) rfl (by kernel_rfl) (by kernel_rfl) (by kernel_rfl) (fun _ _ _ h => h) (by assumption) (by rfl) ?_ ?_
          rotate_left
          · (intro w hSw; (try dsimp only at hSw); go_simp) <;> (with_reducible rfl)
          (try simp only [Act.put, List.setIfInBounds_toArray, List.set_cons_zero, List.set_cons_succ])
          refine wpAnyH_pick 5 (v := ?_) rfl (by kernel_rfl) (by kernel_rfl) (by kernel_rfl) (fun _ _ _ h => h) (by assumption) (by rfl) ?_ ?_
          rotate_left
          · (intro w hSw; (try dsimp only at hSw); go_simp) <;> (with_reducible rfl)
          (try simp only [Act.put, List.setIfInBounds_toArray, List.set_cons_zero, List.set_cons_succ])
          refine wpAnyH_pick 6 (v := ?_) rfl (by kernel_rfl) (by kernel_rfl) (by kernel_rfl) (fun _ _ _ h => h) (by assumption) (by rfl) ?_ ?_
          rotate_left
          · (intro w hSw; (try dsimp only at hSw); go_simp) <;> (with_reducible rfl)
          (try simp only [Act.put, List.setIfInBounds_toArray, List.set_cons_zero, List.set_cons_succ])
          refine wpAnyH_pick 7 (v := ?_) rfl (by kernel_rfl) (by kernel_rfl) (by kernel_rfl) (fun _ _ _ h => h) (by assumption) (by rfl) ?_ ?_
          rotate_left
          · (intro w hSw; (try dsimp only at hSw); go_simp) <;> (with_reducible rfl)
          (try simp only [Act.put, List.setIfInBounds_toArray, List.set_cons_zero, List.set_cons_succ])
          refine wpAnyH_pick 8 (v := ?_) rfl (by kernel_rfl) (by kernel_rfl) (by kernel_rfl) (fun _ _ _ h => h) (by assumption) (by rfl) ?_ ?_
          rotate_left
          · (intro w hSw; (try dsimp only at hSw); go_simp) <;> (with_reducible rfl)
          (try simp only [Act.put, List.setIfInBounds_toArray, List.set_cons_zero, List.set_cons_succ])
          refine wpAnyH_pick 9 (v := ?_) rfl (by kernel_rfl) (by kernel_rfl) (by kernel_rfl) (fun _ _ _ h => h) (by assumption) (by rfl) ?_ ?_
          rotate_left
          · (intro w hSw; (try dsimp only at hSw); go_simp) <;> (with_reducible rfl)
          (try simp only [Act.put, List.setIfInBounds_toArray, List.set_cons_zero, List.set_cons_succ])
          refine wpAnyH_ready (rs := [1]) (by kernel_rfl) (by simp) ?_
          refine AllReadyH_pick rfl (fun K hK => ?_) (AllReadyH.nil)
          skip
          go_simp
          refine hK.out _ _ ?_ (fun hHeld => ?_)
          · (repeat' (first | trivial | assumption | refine ⟨?_, ?_⟩))
          clear hK K
          (try simp only [Act.put, List.setIfInBounds_toArray, List.set_cons_zero, List.set_cons_succ])
          refine wpAnyH_pick 2 (v := ?_) rfl (by kernel_rfl) (by kernel_rfl) (by kernel_rfl) (fun _ _ _ h => h) (by assumption) (by rfl) ?_ ?_
          rotate_left
          · (intro w hSw; (try dsimp only at hSw); go_simp) <;> (with_reducible rfl)
          (try simp only [Act.put, List.setIfInBounds_toArray, List.set_cons_zero, List.set_cons_succ])
          refine wpAnyH_pick 10 (v := ?_) rfl (by kernel_rfl) (by kernel_rfl) (by kernel_rfl) (fun _ _ _ h => h) (by assumption) (by rfl) ?_ ?_
          rotate_left
          · (intro w hSw; (try dsimp only at hSw); go_simp) <;> (with_reducible rfl)
          (try simp only [Act.put, List.setIfInBounds_toArray, List.set_cons_zero, List.set_cons_succ])
          refine wpAnyH_pick 11 (v := ?_) rfl (by kernel_rfl) (by kernel_rfl) (by kernel_rfl) (fun _ _ _ h => h) (by assumption) (by rfl) ?_ ?_
          rotate_left
          · (intro w hSw; (try dsimp only at hSw); go_simp) <;> (with_reducible rfl)
          (try simp only [Act.put, List.setIfInBounds_toArray, List.set_cons_zero, List.set_cons_succ])
          refine wpAnyH_ready (rs := [12]) (by kernel_rfl) (by simp) ?_
          refine AllReadyH_pick rfl (fun K hK => ?_) (AllReadyH.nil)
          skip
          go_simp
          refine hK.out _ _ ?_ (fun hHeld => ?_)
          · (repeat' (first | trivial | assumption | refine ⟨?_, ?_⟩))
          clear hK K
          (try simp only [Act.put, List.setIfInBounds_toArray, List.set_cons_zero, List.set_cons_succ])
          refine wpAnyH_done (by kernel_rfl) ?_ _
          skip
          have b7 : Blk (w5.setCell ⟨q, 2, none⟩ (.int .i64 (U : Int))).drew q 83 #[.slice (some ad) n cc, .int .i64 (I : Int), .int .i64 (U : Int), .int .i64 (M : Int)] := B6.out
          have f7 : Fr [] w2 (w5.setCell ⟨q, 2, none⟩ (.int .i64 (U : Int))).drew := F6.out
          generalize (w5.setCell ⟨q, 2, none⟩ (.int .i64 (U : Int))).drew = w7 at b7 f7 ⊢
          clear hHeld d0 d1 d2 g2 dx p0 p1 px B6 F6
          have d1 := b7.cell 1
          have g1 := b7.frozen 1
          have hlq := b7.lt
          simp at d1
          have b8 : Blk (w7.setCell ⟨q, 1, none⟩ (.int .i64 ((I + 1 : Nat) : Int))) q 83 #[.slice (some ad) n cc, .int .i64 ((I + 1 : Nat) : Int), .int .i64 (U : Int), .int .i64 (M : Int)] := by
            have := b7.set_ 1 (.int .i64 ((I + 1 : Nat) : Int)); simpa using this
          have f8 : Fr [] w2 (w7.setCell ⟨q, 1, none⟩ (.int .i64 ((I + 1 : Nat) : Int))) := f7.setCell (.inr hqn) _
          have B8 := Lib.hid b8
          have F8 := Lib.hid f8
          clear b7 f7 b8 f8
          go_wp2_with fail
          have hm3 : (w7.setCell ⟨q, 1, none⟩ (.int .i64 ((I : Int) + 1))).cell? ⟨q, 3, none⟩ = some (.int .i64 (M : Int)) := by
            have := B8.out.cell 3
            simpa using this
          have hMG : G < M ∧ 16777216 ≤ M ∧ M ≤ 4294967295 := by have := HM.out; have := Hlt2.out; omega
          refine ⟨⟨⟨I + 1, U, M⟩, .inr ⟨by rw [← Hfe.out]; exact Hlt2.out, Hmore.out, hMG.2.1⟩, F8.out, B8.out⟩, ?_⟩
          rw [hm3, Hd3.out]
          simp only [intOf, Option.getD_some]
          omega
        · have ei : decide ((n : Int) ≤ (f.i : Int)) = true := by simp; omega
          have ei2 : decide (n ≤ f.i) = true := by simp; omega
          have hnone : decScale bs false D1 = none := by rw [← Hfe.out]; exact decScale_none hlt2 (by rw [← Hn.out]; omega)
          have Hnone := Lib.hid hnone
          have Hlt2 := Lib.hid hlt2
          have Hin := Lib.hid hin
          clear hnone hlt2 hin
          go_wp2_with fail
          go_ret2
          refine .inr ⟨?_, rfl, HFd.out.trans HF.out (by simp)⟩
          rw [Hget.out, HD.out, Hnone.out]
      · have hdone : decScale bs false D1 = some (false, f) := by
          rcases Hf.out with h0 | ⟨_, h0, _⟩
          · rw [h0]; exact decScale_same (by rw [← h0]; exact hlt2)
          · exact h0
        have eg : decide ((f.r : Int) < 16777216) = false := by simp; omega
        have Hdone := Lib.hid hdone
        have hP := HR2.out.fr HF.out (by simp)
        have HP := Lib.hid hP
        have hz5 : (Try.prog.info? 83).map (·.size) = some (#[Value.slice A n cc, .int .i64 (f.i : Int), .int .i64 (f.rest : Int), .int .i64 (f.r : Int)] : Array Value).size := Hz.out
        have Hz5 := Lib.hid hz5
        clear hdone hlt2 hP hz5
        go_upto_region 20 with fail
        have m0 := HP.out.cell 0
        have m1 := HP.out.cell 1
        have m2 := HP.out.cell 2
        have m3 := HP.out.cell 3
        have n0 := HP.out.frozen 0
        have n1 := HP.out.frozen 1
        have n2 := HP.out.frozen 2
        have n3 := HP.out.frozen 3
        simp at m0 m1 m2 m3
        clear g1 g2 g3
        go_wp2_with fail
        go_ret2
        have hfr : Fr [p] wr ((((wr.setCell ⟨p, 0, none⟩ (.slice A n cc)).setCell ⟨p, 1, none⟩ (.int .i64 (f.i : Int))).setCell ⟨p, 2, none⟩ (.int .i64 (f.rest : Int))).setCell ⟨p, 3, none⟩ (.int .i64 (f.r : Int))) :=
          ((((Fr.refl [p] wr).setCell (.inl (by simp)) _).setCell (.inl (by simp)) _).setCell (.inl (by simp)) _).setCell (.inl (by simp)) _
        refine .inl ⟨false, f, by rw [Hget.out, HD.out, Hdone.out], rfl, ⟨?_, ?_, H2.out.2.2⟩, ((HFd.out.trans HF.out (by simp)).mono (S' := [p]) (by simp)).trans hfr (fun x hx => .inl hx)⟩
        · rw [← Hn.out]
          have := (((HP.out.set_ 0 (.slice A n cc)).set_ 1 (.int .i64 (f.i : Int))).set_ 2 (.int .i64 (f.rest : Int))).set_ 3 (.int .i64 (f.r : Int))
          simpa using this
        · refine (H2.out.2.1.fr0 HF.out).fr hfr ?_
          intro k hk hm
          simp at hm
          subst hm
          cases A with
          | none => simp [Value.ownBlock] at hk
          | some ad => exact H2.out.2.2 ad rfl (by simpa [Value.ownBlock] using hk)
  · have eb : decide (r < B) = false := by simp [hb]
    obtain ⟨D1, hD1⟩ : ∃ D1 : Dec, D1 = ⟨i, r - B, k - B⟩ := ⟨_, rfl⟩
    have HrD : Hid (D1.rest < D1.r) := Lib.hid (by rw [hD1]; simp only; omega)
    have Hr1 : Hid (253952 ≤ D1.r) := Lib.hid (by rw [hD1]; simp only; omega)
    rw [if_neg hb, ← hD1] at HD
    obtain ⟨R1, hR1⟩ : ∃ R1, R1 = r - B := ⟨_, rfl⟩
    obtain ⟨K1, hK1⟩ : ∃ K1, K1 = k - B := ⟨_, rfl⟩
    have eR : (r : Int) - (B : Int) = (R1 : Int) := by omega
    have eK : (k : Int) - (B : Int) = (K1 : Int) := by omega
    have hB4 : Blk ((w3.setCell ⟨q, 2, none⟩ (.int .i64 (R1 : Int))).setCell ⟨q, 3, none⟩ (.int .i64 (K1 : Int))) q 83 #[.slice A n cc, .int .i64 (D1.i : Int), .int .i64 (D1.rest : Int), .int .i64 (D1.r : Int)] := by
      rw [hD1, hR1, hK1]
      have := (HB3.out.set_ 2 (.int .i64 ((r - B : Nat) : Int))).set_ 3 (.int .i64 ((k - B : Nat) : Int))
      simpa using this
    have hqw : w2.heap.size ≤ q := by rw [← Hq.out]; exact Nat.le_refl _
    have hF4 : Fr [] w2 ((w3.setCell ⟨q, 2, none⟩ (.int .i64 (R1 : Int))).setCell ⟨q, 3, none⟩ (.int .i64 (K1 : Int))) := (HF3.out.setCell (.inr hqw) _).setCell (.inr hqw) _
    have k7 := (HB3.out.set_ 2 (.int .i64 (R1 : Int))).cell 3
    have k8 := (HB3.out.set_ 2 (.int .i64 (R1 : Int))).frozen 3
    simp at k7
    have HB4' := Lib.hid hB4
    have HF4' := Lib.hid hF4
    have HD1 := Lib.hid hD1
    clear hB4 hF4 hD1 hb hR1 hK1 hqw
    go_wp2_with fail
    have HB4 := HB4'
    have HF4 := HF4'
    go_loopw [49] (fun _ wr => ∃ f : Dec, (f = D1 ∨ (D1.r < 16777216 ∧ decScale bs true D1 = some (true, f) ∧ 16777216 ≤ f.r)) ∧ Fr [] w2 wr ∧ Blk wr q 83 #[.slice A n cc, .int .i64 (f.i : Int), .int .i64 (f.rest : Int), .int .i64 (f.r : Int)]) (fun _ wr => 4294967296 - (intOf ((wr.cell? ⟨q, 3, none⟩).getD undef)).toNat)
    case atStart => exact ⟨D1, .inl rfl, HF4.out, HB4.out⟩
    case round =>
      obtain ⟨f, hf, hF, hB⟩ := hrel
      have Hf := Lib.hid hf
      have HF := Lib.hid hF
      have d0 := hB.cell 0
      have d1 := hB.cell 1
      have d2 := hB.cell 2
      have d3 := hB.cell 3
      have g1 := hB.frozen 1
      have g2 := hB.frozen 2
      have g3 := hB.frozen 3
      have hlq := hB.lt
      simp at d0 d1 d2 d3
      have HBr := Lib.hid hB
      clear hf hF hB
      by_cases hlt2 : f.r < 16777216
      · have hfe : f = D1 := by
          rcases Hf.out with h0 | ⟨_, _, h0⟩
          · exact h0
          · omega
        have eg : decide ((f.r : Int) < 16777216) = true := by simp; omega
        have Hfe := Lib.hid hfe
        clear hfe
        by_cases hin : f.i < n
        · have ei : decide (n ≤ f.i) = false := by simp; omega
          have hrest : f.rest < 16777216 := by rw [Hfe.out] at hlt2 ⊢; have := HrD.out; omega
          obtain ⟨x, hx⟩ : ∃ x, bs[f.i]? = some x := ⟨_, List.getElem?_eq_getElem (by have := Hn.out; omega)⟩
          have hmore : decScale bs true D1 = some (true, ⟨f.i + 1, 256 * f.rest + x.toNat, f.r * 256⟩) := by
            rw [← Hfe.out, decScale_more hlt2 (by rw [← Hn.out]; exact hin), List.getD_eq_getElem?_getD, hx]; rfl
          have hfi : f.i ≤ 1000000 := by rw [Hfe.out, HD1.out]; exact hi
          have hf1 : 253952 ≤ f.r := by rw [Hfe.out]; exact Hr1.out
          obtain ⟨I, R, G⟩ := f
          simp only at *
          have hcell : ∀ W, Fr [] w2 W → ∃ ad, A = some ad ∧ W.cell? (ad.add I) = some (.int .u8 (x.toNat : Int)) := by
            intro W hF
            have hS := H2.out.2.1.fr0 hF
            rw [← Hn.out] at hS
            obtain ⟨ad, r1, c1⟩ := hS.cellAt hx
            exact ⟨ad, r1, c1⟩
          obtain ⟨ad, rfl, -⟩ := hcell wr HF.out
          have hcells : ∀ W, Fr [] w2 W → W.cell? (ad.add I) = some (.int .u8 (x.toNat : Int)) := by
            intro W hF
            obtain ⟨a1, r1, c1⟩ := hcell W hF
            have r2 := Option.some.inj r1
            rw [r2]
            exact c1
          have hxl := x.toNat_lt
          obtain ⟨M, hM⟩ : ∃ M, M = G * 256 := ⟨_, rfl⟩
          have eM : 256 * (G : Int) = (M : Int) := by omega
          obtain ⟨U, hU⟩ : ∃ U, U = 256 * R + x.toNat := ⟨_, rfl⟩
          have eU : 256 * (R : Int) + (x.toNat : Int) = (U : Int) := by omega
          have v1 : IntKind.i64.wrap (256 * (R : Int)) = 256 * (R : Int) := IntWalk.i64_in _ (by omega)
          have v2 : IntKind.i64.wrap (U : Int) = (U : Int) := IntWalk.i64_in _ (by omega)
          have v3 : IntKind.i64.wrap (x.toNat : Int) = (x.toNat : Int) := IntWalk.i64_in _ (by omega)
          have v4 : IntKind.i64.wrap (M : Int) = (M : Int) := IntWalk.i64_in _ (by omega)
          rw [← hM, ← hU] at hmore
          have hqn : w2.heap.size ≤ q := by rw [Hq.out]; exact Nat.le_refl _
          have b5 : Blk (wr.setCell ⟨q, 3, none⟩ (.int .i64 (M : Int))) q 83 #[.slice (some ad) n cc, .int .i64 (I : Int), .int .i64 (R : Int), .int .i64 (M : Int)] := by
            have := HBr.out.set_ 3 (.int .i64 (M : Int)); simpa using this
          have f5 : Fr [] w2 (wr.setCell ⟨q, 3, none⟩ (.int .i64 (M : Int))) := HF.out.setCell (.inr hqn) _
          generalize hw5 : wr.setCell ⟨q, 3, none⟩ (.int .i64 (M : Int)) = w5 at b5 f5
          have Hw5 := Lib.hid hw5
          have Hmore := Lib.hid hmore
          have HM := Lib.hid hM
          have Hlt2 := Lib.hid hlt2
          have B5 := Lib.hid b5
          have F5 := Lib.hid f5
          have Hcells := Lib.hid hcells
          have Hd3 := Lib.hid d3
          clear hw5 hmore hM hlt2 hU hx hcell hcells b5 f5
          go_upto_region 18 with fail
          rw [Hw5.out]
          clear d0 d1 d2 d3 g1 g2 g3 hlq eg
          have d0 := B5.out.drew.cell 0
          have d1 := B5.out.drew.cell 1
          have d2 := B5.out.drew.cell 2
          have g2 := B5.out.drew.frozen 2
          simp at d0 d1 d2
          have dx := Hcells.out _ F5.out.drew
          have b6 : Blk (w5.drew.setCell ⟨q, 2, none⟩ (.int .i64 (U : Int))) q 83 #[.slice (some ad) n cc, .int .i64 (I : Int), .int .i64 (U : Int), .int .i64 (M : Int)] := by
            have := B5.out.drew.set_ 2 (.int .i64 (U : Int)); simpa using this
          have f6 : Fr [] w2 (w5.drew.setCell ⟨q, 2, none⟩ (.int .i64 (U : Int))) := F5.out.drew.setCell (.inr hqn) _
          have p0 := b6.cell 0
          have p1 := b6.cell 1
          simp at p0 p1
          have px := Hcells.out _ f6
          have B6 := Lib.hid b6
          have F6 := Lib.hid f6
          clear b6 f6
          refine wp_region_held_drew (S := fun W => W.cell? ⟨q, 0, none⟩ = some (.slice (some ad) n cc) ∧ W.cell? ⟨q, 1, none⟩ = some (.int .i64 (I : Int)) ∧ W.cell? (ad.add I) = some (.int .u8 (x.toNat : Int))) (by kernel_rfl) ?_ (fun hHeld => ?_)
          · (repeat' (first | trivial | assumption | refine ⟨?_, ?_⟩))
          refine wpAnyH_pick 0 (v := ?_) rfl (by kernel_rfl) (by kernel_rfl) (by kernel_rfl) (fun _ _ _ h => h) (by assumption) (by rfl) ?_ ?_
          rotate_left
          · (intro w hSw; (try dsimp only at hSw); go_simp) <;> (with_reducible rfl)
          (try simp only [Act.put, List.setIfInBounds_toArray, List.set_cons_zero, List.set_cons_succ])
          refine wpAnyH_pick 3 (v := ?_) rfl (by kernel_rfl) (by kernel_rfl) (by kernel_rfl) (fun _ _ _ h => h) (by assumption) (by rfl) ?_ ?_
          rotate_left
          · (intro w hSw; (try dsimp only at hSw); go_simp) <;> (with_reducible rfl)
          (try simp only [Act.put, List.setIfInBounds_toArray, List.set_cons_zero, List.set_cons_succ])
          refine wpAnyH_pick 4 (v := ?_) rfl (by kernel_rfl) (by kernel_rfl) (by kernel_rfl) (fun _ _ _ h => h) (by assumption) (by rfl) ?_ ?_
          rotate_left
          · (intro w hSw; (try dsimp only at hSw); go_simp) <;> (with_reducible rfl)
          (try simp only [Act.put, List.setIfInBounds_toArray, List.set_cons_zero, List.set_cons_succ])
          refine wpAnyH_pick 5 (v := ?_) rfl (by kernel_rfl) (by kernel_rfl) (by kernel_rfl) (fun _ _ _ h => h) (by assumption) (by rfl) ?_ ?_
          rotate_left
          · (intro w hSw; (try dsimp only at hSw); go_simp) <;> (with_reducible rfl)
          (try simp only [Act.put, List.setIfInBounds_toArray, List.set_cons_zero, List.set_cons_succ])
          refine wpAnyH_pick 6 (v := ?_) rfl (by kernel_rfl) (by kernel_rfl) (by kernel_rfl) (fun _ _ _ h => h) (by assumption) (by rfl) ?_ ?_
          rotate_left
          · (intro w hSw; (try dsimp only at hSw); go_simp) <;> (with_reducible rfl)
          (try simp only [Act.put, List.setIfInBounds_toArray, List.set_cons_zero, List.set_cons_succ])
          refine wpAnyH_pick 7 (v := ?_) rfl (by kernel_rfl) (by kernel_rfl) (by kernel_rfl) (fun _ _ _ h => h) (by assumption) (by rfl) ?_ ?_
          rotate_left
          · (intro w hSw; (try dsimp only at hSw); go_simp) <;> (with_reducible rfl)
          (try simp only [Act.put, List.setIfInBounds_toArray, List.set_cons_zero, List.set_cons_succ])
          refine wpAnyH_pick 8 (v := ?_) rfl (by kernel_rfl) (by kernel_rfl) (by kernel_rfl) (fun _ _ _ h => h) (by assumption) (by rfl) ?_ ?_
          rotate_left
          · (intro w hSw; (try dsimp only at hSw); go_simp) <;> (with_reducible rfl)
          (try simp only [Act.put, List.setIfInBounds_toArray, List.set_cons_zero, List.set_cons_succ])
          refine wpAnyH_pick 9 (v := ?_) rfl (by kernel_rfl) (by kernel_rfl) (by kernel_rfl) (fun _ _ _ h => h) (by assumption) (by rfl) ?_ ?_
          rotate_left
          · (intro w hSw; (try dsimp only at hSw); go_simp) <;> (with_reducible rfl)
          (try simp only [Act.put, List.setIfInBounds_toArray, List.set_cons_zero, List.set_cons_succ])
          refine wpAnyH_ready (rs := [1]) (by kernel_rfl) (by simp) ?_
          refine AllReadyH_pick rfl (fun K hK => ?_) (AllReadyH.nil)
          skip
          go_simp
          refine hK.out _ _ ?_ (fun hHeld => ?_)
          · (repeat' (first | trivial | assumption | refine ⟨?_, ?_⟩))
          clear hK K
          (try simp only [Act.put, List.setIfInBounds_toArray, List.set_cons_zero, List.set_cons_succ])
          refine wpAnyH_pick 2 (v := ?_) rfl (by kernel_rfl) (by kernel_rfl) (by kernel_rfl) (fun _ _ _ h => h) (by assumption) (by rfl) ?_ ?_
          rotate_left
          · (intro w hSw; (try dsimp only at hSw); go_simp) <;> (with_reducible rfl)
          (try simp only [Act.put, List.setIfInBounds_toArray, List.set_cons_zero, List.set_cons_succ])
          refine wpAnyH_pick 10 (v := ?_) rfl (by kernel_rfl) (by kernel_rfl) (by kernel_rfl) (fun _ _ _ h => h) (by assumption) (by rfl) ?_ ?_
          rotate_left
          · (intro w hSw; (try dsimp only at hSw); go_simp) <;> (with_reducible rfl)
          (try simp only [Act.put, List.setIfInBounds_toArray, List.set_cons_zero, List.set_cons_succ])
          refine wpAnyH_pick 11 (v := ?_) rfl (by kernel_rfl) (by kernel_rfl) (by kernel_rfl) (fun _ _ _ h => h) (by assumption) (by rfl) ?_ ?_
          rotate_left
          · (intro w hSw; (try dsimp only at hSw); go_simp) <;> (with_reducible rfl)
          (try simp only [Act.put, List.setIfInBounds_toArray, List.set_cons_zero, List.set_cons_succ])
          refine wpAnyH_ready (rs := [12]) (by kernel_rfl) (by simp) ?_
          refine AllReadyH_pick rfl (fun K hK => ?_) (AllReadyH.nil)
          skip
          go_simp
          refine hK.out _ _ ?_ (fun hHeld => ?_)
          · (repeat' (first | trivial | assumption | refine ⟨?_, ?_⟩))
          clear hK K
          (try simp only [Act.put, List.setIfInBounds_toArray, List.set_cons_zero, List.set_cons_succ])
          refine wpAnyH_done (by kernel_rfl) ?_ _
          skip
          have b7 : Blk (w5.setCell ⟨q, 2, none⟩ (.int .i64 (U : Int))).drew q 83 #[.slice (some ad) n cc, .int .i64 (I : Int), .int .i64 (U : Int), .int .i64 (M : Int)] := B6.out
          have f7 : Fr [] w2 (w5.setCell ⟨q, 2, none⟩ (.int .i64 (U : Int))).drew := F6.out
          generalize (w5.setCell ⟨q, 2, none⟩ (.int .i64 (U : Int))).drew = w7 at b7 f7 ⊢
          clear hHeld d0 d1 d2 g2 dx p0 p1 px B6 F6
          have d1 := b7.cell 1
          have g1 := b7.frozen 1
          have hlq := b7.lt
          simp at d1
          have b8 : Blk (w7.setCell ⟨q, 1, none⟩ (.int .i64 ((I + 1 : Nat) : Int))) q 83 #[.slice (some ad) n cc, .int .i64 ((I + 1 : Nat) : Int), .int .i64 (U : Int), .int .i64 (M : Int)] := by
            have := b7.set_ 1 (.int .i64 ((I + 1 : Nat) : Int)); simpa using this
          have f8 : Fr [] w2 (w7.setCell ⟨q, 1, none⟩ (.int .i64 ((I + 1 : Nat) : Int))) := f7.setCell (.inr hqn) _
          have B8 := Lib.hid b8
          have F8 := Lib.hid f8
          clear b7 f7 b8 f8
          go_wp2_with fail
          have hm3 : (w7.setCell ⟨q, 1, none⟩ (.int .i64 ((I : Int) + 1))).cell? ⟨q, 3, none⟩ = some (.int .i64 (M : Int)) := by
            have := B8.out.cell 3
            simpa using this
          have hMG : G < M ∧ 16777216 ≤ M ∧ M ≤ 4294967295 := by have := HM.out; have := Hlt2.out; omega
          refine ⟨⟨⟨I + 1, U, M⟩, .inr ⟨by rw [← Hfe.out]; exact Hlt2.out, Hmore.out, hMG.2.1⟩, F8.out, B8.out⟩, ?_⟩
          rw [hm3, Hd3.out]
          simp only [intOf, Option.getD_some]
          omega
        · have ei : decide ((n : Int) ≤ (f.i : Int)) = true := by simp; omega
          have ei2 : decide (n ≤ f.i) = true := by simp; omega
          have hnone : decScale bs true D1 = none := by rw [← Hfe.out]; exact decScale_none hlt2 (by rw [← Hn.out]; omega)
          have Hnone := Lib.hid hnone
          have Hlt2 := Lib.hid hlt2
          have Hin := Lib.hid hin
          clear hnone hlt2 hin
          go_wp2_with fail
          go_ret2
          refine .inr ⟨?_, rfl, HFd.out.trans HF.out (by simp)⟩
          rw [Hget.out, HD.out, Hnone.out]
      · have hdone : decScale bs true D1 = some (true, f) := by
          rcases Hf.out with h0 | ⟨_, h0, _⟩
          · rw [h0]; exact decScale_same (by rw [← h0]; exact hlt2)
          · exact h0
        have eg : decide ((f.r : Int) < 16777216) = false := by simp; omega
        have Hdone := Lib.hid hdone
        have hP := HR2.out.fr HF.out (by simp)
        have HP := Lib.hid hP
        have hz5 : (Try.prog.info? 83).map (·.size) = some (#[Value.slice A n cc, .int .i64 (f.i : Int), .int .i64 (f.rest : Int), .int .i64 (f.r : Int)] : Array Value).size := Hz.out
        have Hz5 := Lib.hid hz5
        clear hdone hlt2 hP hz5
        go_upto_region 20 with fail
        have m0 := HP.out.cell 0
        have m1 := HP.out.cell 1
        have m2 := HP.out.cell 2
        have m3 := HP.out.cell 3
        have n0 := HP.out.frozen 0
        have n1 := HP.out.frozen 1
        have n2 := HP.out.frozen 2
        have n3 := HP.out.frozen 3
        simp at m0 m1 m2 m3
        clear g1 g2 g3
        go_wp2_with fail
        go_ret2
        have hfr : Fr [p] wr ((((wr.setCell ⟨p, 0, none⟩ (.slice A n cc)).setCell ⟨p, 1, none⟩ (.int .i64 (f.i : Int))).setCell ⟨p, 2, none⟩ (.int .i64 (f.rest : Int))).setCell ⟨p, 3, none⟩ (.int .i64 (f.r : Int))) :=
          ((((Fr.refl [p] wr).setCell (.inl (by simp)) _).setCell (.inl (by simp)) _).setCell (.inl (by simp)) _).setCell (.inl (by simp)) _
        refine .inl ⟨true, f, by rw [Hget.out, HD.out, Hdone.out], rfl, ⟨?_, ?_, H2.out.2.2⟩, ((HFd.out.trans HF.out (by simp)).mono (S' := [p]) (by simp)).trans hfr (fun x hx => .inl hx)⟩
        · rw [← Hn.out]
          have := (((HP.out.set_ 0 (.slice A n cc)).set_ 1 (.int .i64 (f.i : Int))).set_ 2 (.int .i64 (f.rest : Int))).set_ 3 (.int .i64 (f.r : Int))
          simpa using this
        · refine (H2.out.2.1.fr0 HF.out).fr hfr ?_
          intro k hk hm
          simp at hm
          subst hm
          cases A with
          | none => simp [Value.ownBlock] at hk
          | some ad => exact H2.out.2.2 ad rfl (by simpa [Value.ownBlock] using hk)
end Go.Proofs.Ytfjlepnodmeaaaa

/-
  The document's decoder: its frame, and Get whole; conditions: the range and the place are bounded as named.
-/
namespace Go.Proofs.Ytfjlepnodmeaaaa
open Go.RowKit

theorem Rd.fr {w w' : World} {p : Nat} {A : Option Addr} {c : Nat} {bs : List UInt8} {d : Dec} {S : List Nat} (h : Rd w p A c bs d) (hf : Fr S w w') (h1 : p ∉ S) (h2 : ∀ ad, A = some ad → ad.block ∉ S) : Rd w' p A c bs d := by
  refine ⟨h.1.fr hf h1, h.2.1.fr hf (fun k hk => ?_), h.2.2⟩
  cases A with
  | none => simp [Value.ownBlock] at hk
  | some ad =>
    have : k = ad.block := by simpa [Value.ownBlock] using hk.symm
    rw [this]
    exact h2 ad rfl

theorem rget_total (p : Nat) (A : Option Addr) (cc : Nat) (bs : List UInt8) (d : Dec) (c : Nat) (w : World) (h : Rd w p A cc bs d) (hc : rightC c) (hr1 : 16777216 ≤ d.r) (hr2 : d.r ≤ 4294967295) (hi : d.i ≤ 1000000) :
    Calls Try.prog 63 #[pt p, .int .i64 (c : Int)] w fun e w' =>
      (∃ bit d', decGet bs d c = some (bit, d') ∧ e = .returned (.tuple #[.int .i64 (bit.toNat : Int), .int .i64 0]) ∧ Rd w' p A cc bs d' ∧ Fr [p] w w') ∨
      (decGet bs d c = none ∧ e = .returned (.tuple #[.int .i64 0, .int .i64 41]) ∧ Fr [] w w') := by
  by_cases hr : d.rest < d.r
  · exact rget_any p A cc bs d c w h hc hr hr1 hr2 hi
  · refine (rget_great p A cc bs d c w h hc (by omega)).mono ?_
    rintro e w' ⟨he, m, hw⟩
    exact .inr ⟨by unfold decGet; rw [if_neg hr], he, by rw [hw]; exact (Fr.refl _ _).drewN m⟩

/-- What getting keeps. -/
theorem got_keeps {bs : List UInt8} {d d' : Dec} {c : Nat} {b : Bool} (hg : decGet bs d c = some (b, d')) (hc : rightC c) (h1 : 16777216 ≤ d.r) (h2 : d.r ≤ 4294967295) (h3 : d.i ≤ bs.length) : 16777216 ≤ d'.r ∧ d'.r ≤ 4294967295 ∧ d'.i ≤ bs.length := by
  have b1 := bnd_lo h1 hc
  have b2 := bnd_hi h1 hc
  unfold decGet decScale decBit at hg
  by_cases hr : d.rest < bnd d.r c
  · simp only [if_pos hr] at hg
    split at hg
    · split at hg
      · split at hg
        · injection hg with hg; injection hg with _ hg; subst hg; simp only; omega
        · cases hg
      · injection hg with hg; injection hg with _ hg; subst hg; simp only; omega
    · cases hg
  · simp only [if_neg hr] at hg
    split at hg
    · split at hg
      · split at hg
        · injection hg with hg; injection hg with _ hg; subst hg; simp only; omega
        · cases hg
      · injection hg with hg; injection hg with _ hg; subst hg; simp only; omega
    · cases hg
end Go.Proofs.Ytfjlepnodmeaaaa

/-
  Contracts of the document's book: get.
-/
namespace Go.Proofs.Ytfjlepnodmeaaaa
open Go.RowKit

/-- The document's book and decoder, apart. -/
structure Eye (w : World) (q : Nat) (B : Chs) (p : Nat) (A : Option Addr) (cc : Nat) (bs : List UInt8) (d : Dec) : Prop where
  bk : Rb w q B
  de : Rd w p A cc bs d
  qp : q ≠ p
  qa : ∀ ad, A = some ad → ad.block ≠ q
  fine : FineB B
  lo : 16777216 ≤ d.r
  hi : d.r ≤ 4294967295
  at_ : d.i ≤ bs.length
theorem Eye.fr0 {w w' : World} {q p cc : Nat} {B : Chs} {A : Option Addr} {bs : List UInt8} {d : Dec} (h : Eye w q B p A cc bs d) (hf : Fr [] w w') : Eye w' q B p A cc bs d :=
  ⟨h.bk.fr hf (by simp), h.de.fr0 hf, h.qp, h.qa, h.fine, h.lo, h.hi, h.at_⟩

set_option maxRecDepth 20000 in
theorem rgetB_any (w : World) (q p t cc : Nat) (A : Option Addr) (bs : List UInt8) (d : Dec) (B : Chs) (i : Option Nat) (h : Eye w q B p A cc bs d) (ht : t < 16) (hi : ∀ j, i = some j → j < 37) (hn : bs.length ≤ 100000) :
    Calls Try.prog 53 #[pt q, pt p, .int .i64 (t : Int), .int .i64 (plI i)] w fun r w' =>
      (∃ b B' d', getEv bs t B d i = some (b, B', d') ∧ r = .returned (.tuple #[.int .i64 (b.toNat : Int), .int .i64 0]) ∧ Eye w' q B' p A cc bs d' ∧ Fr [q, p] w w') ∨
      (getEv bs t B d i = none ∧ r = .returned (.tuple #[.int .i64 0, .int .i64 41]) ∧ Fr [q, p] w w') := by
  have hc := chOf_right h.fine t i
  have hil := h.at_
  cases i with
  | none =>
    have HG := Lib.hid (rget_total p A cc bs d 1024 w h.de hc h.lo h.hi (by omega))
    have H := Lib.hid h
    clear h
    show Calls Try.prog 53 #[pt q, pt p, .int .i64 (t : Int), .int .i64 (-1)] w _
    go_enter Try.func53, Try.ntmps53
    go_wp2_with fail
    refine HG.out.mono ?_
    rintro r w1 (⟨bit, d', hg, rfl, hD, hF⟩ | ⟨hg, rfl, hF⟩)
    · have hk := got_keeps hg hc H.out.lo H.out.hi H.out.at_
      have HD := Lib.hid hD; have HF := Lib.hid hF; have Hg := Lib.hid hg
      clear hD hF hg HG
      go_wp2_with fail
      go_ret2
      refine .inl ⟨bit, B, d', ?_, rfl, ⟨H.out.bk.fr HF.out (by simp; exact H.out.qp), HD.out, H.out.qp, H.out.qa, H.out.fine, hk.1, hk.2.1, hk.2.2⟩, HF.out.mono (by simp)⟩
      unfold getEv chOf
      rw [Hg.out]
      rfl
    · have HF := Lib.hid hF; have Hg := Lib.hid hg
      clear hF hg HG
      go_wp2_with fail
      go_ret2
      refine .inr ⟨?_, rfl, HF.out.mono (by simp)⟩
      unfold getEv chOf
      rw [Hg.out]
  | some i =>
    have hi37 := hi i rfl
    obtain ⟨c, hcc⟩ : ∃ c, c = B (37 * t + i) := ⟨_, rfl⟩
    have hcr : rightC c := by rw [hcc]; exact hc
    have hG := rget_total p A cc bs d c w h.de hcr h.lo h.hi (by omega)
    have hb := h.bk.cell (j := t * 37 + i) (by omega)
    have ka : w.cell? ⟨q, t * 37 + i, none⟩ = some (.int .i64 (c : Int)) := by rw [hb, hcc, show t * 37 + i = 37 * t + i by omega]
    have e1 : decide ((i : Int) < 0) = false := by simp
    have HG := Lib.hid hG
    have H := Lib.hid h
    have Hc := Lib.hid hcc
    clear h hG hb hcc hc hi
    show Calls Try.prog 53 #[pt q, pt p, .int .i64 (t : Int), .int .i64 (i : Int)] w _
    go_enter Try.func53, Try.ntmps53
    go_wp2_with fail
    refine HG.out.mono ?_
    rintro r w1 (⟨bit, d', hg, rfl, hD, hF⟩ | ⟨hg, rfl, hF⟩)
    · have hk := got_keeps hg hcr H.out.lo H.out.hi H.out.at_
      have hbk1 : Rb w1 q B := H.out.bk.fr hF (by simp; exact H.out.qp)
      have kb1 : w1.drew.cell? ⟨q, t * 37 + i, none⟩ = some (.int .i64 (c : Int)) := by
        have := hbk1.cell (j := t * 37 + i) (by omega)
        rw [show t * 37 + i = 37 * t + i by omega, ← Hc.out] at this
        rw [show t * 37 + i = 37 * t + i by omega]
        exact this
      have kf1 : w1.drew.frozen? ⟨q, t * 37 + i, none⟩ = false := Blk.frozen hbk1 _
      have hN := fun W => rnext_any c (bit.toNat : Int) W (by have := hcr.2; omega)
      have hbb : ((bit.toNat : Int) != 0) = bit := by cases bit <;> rfl
      rw [hbb] at hN
      obtain ⟨y, hy⟩ : ∃ y, y = nextC c bit := ⟨_, rfl⟩
      rw [← hy] at hN
      have HN := Lib.hid hN
      have Hy := Lib.hid hy
      have Hk := Lib.hid hk
      have HD := Lib.hid hD; have HF := Lib.hid hF; have Hg := Lib.hid hg; have HB1 := Lib.hid hbk1
      clear hD hF hg HG hk hbk1 hN hy hbb ka
      go_upto_region 5 with fail
      have q1 : (t : Int) < 16 := by omega
      have q2 : (i : Int) < 37 := by omega
      refine wp_region_held_drew (S := fun _ => True) (by kernel_rfl) ?_ (fun hHeld => ?_)
      · trivial
      refine wpAnyH_pick 0 (v := ?_) rfl (by kernel_rfl) (by kernel_rfl) (by kernel_rfl) (fun _ _ _ h => h) (by assumption) (by rfl) ?_ ?_
      rotate_left
      · (intro w hSw; (try dsimp only at hSw); go_simp) <;> (with_reducible rfl)
      (try simp only [Act.put, List.setIfInBounds_toArray, List.set_cons_zero, List.set_cons_succ])
      refine wpAnyH_pick 1 (v := ?_) rfl (by kernel_rfl) (by kernel_rfl) (by kernel_rfl) (fun _ _ _ h => h) (by assumption) (by rfl) ?_ ?_
      rotate_left
      · (intro w hSw; (try dsimp only at hSw); go_simp) <;> (with_reducible rfl)
      (try simp only [Act.put, List.setIfInBounds_toArray, List.set_cons_zero, List.set_cons_succ])
      refine wpAnyH_pick 2 (v := ?_) rfl (by kernel_rfl) (by kernel_rfl) (by kernel_rfl) (fun _ _ _ h => h) (by assumption) (by rfl) ?_ ?_
      rotate_left
      · (intro w hSw; (try dsimp only at hSw); go_simp) <;> (with_reducible rfl)
      (try simp only [Act.put, List.setIfInBounds_toArray, List.set_cons_zero, List.set_cons_succ])
      refine wpAnyH_pick 3 (v := ?_) rfl (by kernel_rfl) (by kernel_rfl) (by kernel_rfl) (fun _ _ _ h => h) (by assumption) (by rfl) ?_ ?_
      rotate_left
      · (intro w hSw; (try dsimp only at hSw); go_simp) <;> (with_reducible rfl)
      (try simp only [Act.put, List.setIfInBounds_toArray, List.set_cons_zero, List.set_cons_succ])
      refine wpAnyH_pick 4 (v := ?_) rfl (by kernel_rfl) (by kernel_rfl) (by kernel_rfl) (fun _ _ _ h => h) (by assumption) (by rfl) ?_ ?_
      rotate_left
      · (intro w hSw; (try dsimp only at hSw); go_simp) <;> (with_reducible rfl)
      (try simp only [Act.put, List.setIfInBounds_toArray, List.set_cons_zero, List.set_cons_succ])
      refine wpAnyH_pick 5 (v := ?_) rfl (by kernel_rfl) (by kernel_rfl) (by kernel_rfl) (fun _ _ _ h => h) (by assumption) (by rfl) ?_ ?_
      rotate_left
      · (intro w hSw; (try dsimp only at hSw); go_simp) <;> (with_reducible rfl)
      (try simp only [Act.put, List.setIfInBounds_toArray, List.set_cons_zero, List.set_cons_succ])
      refine wpAnyH_pick 6 (v := ?_) rfl (by kernel_rfl) (by kernel_rfl) (by kernel_rfl) (fun _ _ _ h => h) (by assumption) (by rfl) ?_ ?_
      rotate_left
      · (intro w hSw; (try dsimp only at hSw); go_simp) <;> (with_reducible rfl)
      (try simp only [Act.put, List.setIfInBounds_toArray, List.set_cons_zero, List.set_cons_succ])
      refine wpAnyH_pick 7 (v := ?_) rfl (by kernel_rfl) (by kernel_rfl) (by kernel_rfl) (fun _ _ _ h => h) (by assumption) (by rfl) ?_ ?_
      rotate_left
      · (intro w hSw; (try dsimp only at hSw); go_simp) <;> (with_reducible rfl)
      (try simp only [Act.put, List.setIfInBounds_toArray, List.set_cons_zero, List.set_cons_succ])
      refine wpAnyH_pick 8 (v := ?_) rfl (by kernel_rfl) (by kernel_rfl) (by kernel_rfl) (fun _ _ _ h => h) (by assumption) (by rfl) ?_ ?_
      rotate_left
      · (intro w hSw; (try dsimp only at hSw); go_simp) <;> (with_reducible rfl)
      (try simp only [Act.put, List.setIfInBounds_toArray, List.set_cons_zero, List.set_cons_succ])
      refine wpAnyH_pick 9 (v := ?_) rfl (by kernel_rfl) (by kernel_rfl) (by kernel_rfl) (fun _ _ _ h => h) (by assumption) (by rfl) ?_ ?_
      rotate_left
      · (intro w hSw; (try dsimp only at hSw); go_simp) <;> (with_reducible rfl)
      (try simp only [Act.put, List.setIfInBounds_toArray, List.set_cons_zero, List.set_cons_succ])
      refine wpAnyH_pick 11 (v := ?_) rfl (by kernel_rfl) (by kernel_rfl) (by kernel_rfl) (fun _ _ _ h => h) (by assumption) (by rfl) ?_ ?_
      rotate_left
      · (intro w hSw; (try dsimp only at hSw); go_simp) <;> (with_reducible rfl)
      (try simp only [Act.put, List.setIfInBounds_toArray, List.set_cons_zero, List.set_cons_succ])
      refine wpAnyH_pick 13 (v := ?_) rfl (by kernel_rfl) (by kernel_rfl) (by kernel_rfl) (fun _ _ _ h => h) (by assumption) (by rfl) ?_ ?_
      rotate_left
      · (intro w hSw; (try dsimp only at hSw); go_simp) <;> (with_reducible rfl)
      (try simp only [Act.put, List.setIfInBounds_toArray, List.set_cons_zero, List.set_cons_succ])
      refine wpAnyH_pick 14 (v := ?_) rfl (by kernel_rfl) (by kernel_rfl) (by kernel_rfl) (fun _ _ _ h => h) (by assumption) (by rfl) ?_ ?_
      rotate_left
      · (intro w hSw; (try dsimp only at hSw); go_simp) <;> (with_reducible rfl)
      (try simp only [Act.put, List.setIfInBounds_toArray, List.set_cons_zero, List.set_cons_succ])
      refine wpAnyH_pick 15 (v := ?_) rfl (by kernel_rfl) (by kernel_rfl) (by kernel_rfl) (fun _ _ _ h => h) (by assumption) (by rfl) ?_ ?_
      rotate_left
      · (intro w hSw; (try dsimp only at hSw); go_simp) <;> (with_reducible rfl)
      (try simp only [Act.put, List.setIfInBounds_toArray, List.set_cons_zero, List.set_cons_succ])
      refine wpAnyH_ready (rs := [10]) (by kernel_rfl) (by simp) ?_
      refine AllReadyH_pick rfl (fun K hK => ?_) (AllReadyH.nil)
      skip
      go_simp
      refine hK.out _ _ ?_ (fun hHeld => ?_)
      · trivial
      clear hK K
      (try simp only [Act.put, List.setIfInBounds_toArray, List.set_cons_zero, List.set_cons_succ])
      refine wpAnyH_ready (rs := [12]) (by kernel_rfl) (by simp) ?_
      refine AllReadyH_pick rfl (fun K hK => ?_) (AllReadyH.nil)
      go_simp
      refine (HN.out _).mono ?_
      rintro r1 wN ⟨rfl, rfl⟩
      go_wp2_with fail
      refine hK.out _ _ ?_ (fun hHeld => ?_)
      · trivial
      clear hK K
      (try simp only [Act.put, List.setIfInBounds_toArray, List.set_cons_zero, List.set_cons_succ])
      refine wpAnyH_pick 16 (v := ?_) rfl (by kernel_rfl) (by kernel_rfl) (by kernel_rfl) (fun _ _ _ h => h) (by assumption) (by rfl) ?_ ?_
      rotate_left
      · (intro w hSw; (try dsimp only at hSw); go_simp) <;> (with_reducible rfl)
      (try simp only [Act.put, List.setIfInBounds_toArray, List.set_cons_zero, List.set_cons_succ])
      refine wpAnyH_ready (rs := [17]) (by kernel_rfl) (by simp) ?_
      refine AllReadyH_pick rfl (fun K hK => ?_) (AllReadyH.nil)
      skip
      go_simp
      refine hK.out _ _ ?_ (fun hHeld => ?_)
      · trivial
      clear hK K
      (try simp only [Act.put, List.setIfInBounds_toArray, List.set_cons_zero, List.set_cons_succ])
      refine wpAnyH_done (by kernel_rfl) ?_ _
      skip
      go_wp2_with fail
      go_ret2
      have hF2 : Fr [q] w1 (w1.setCell ⟨q, t * 37 + i, none⟩ (.int .i64 (y : Int))).drew := ((Fr.refl [q] w1).setCell (.inl (by simp)) _).drew
      have hl : learn B t (some i) bit = upd B (t * 37 + i) y := by
        show upd B (37 * t + i) (nextC (B (37 * t + i)) bit) = _
        rw [Hy.out, Hc.out, show t * 37 + i = 37 * t + i by omega]
      refine .inl ⟨bit, learn B t (some i) bit, d', ?_, rfl, ⟨?_, ?_, H.out.qp, H.out.qa, learn_fine H.out.fine t _ bit, Hk.out.1, Hk.out.2.1, Hk.out.2.2⟩, ?_⟩
      · unfold getEv
        rw [show chOf B t (some i) = c from Hc.out.symm, Hg.out]
      · rw [hl]
        exact (HB1.out.set (t * 37 + i) y).drew
      · exact HD.out.fr hF2 (by simp; exact fun e => H.out.qp e.symm) (fun ad had => by simp; exact H.out.qa ad had)
      · exact (HF.out.mono (by simp)).trans hF2 (by simp)
    · have HF := Lib.hid hF; have Hg := Lib.hid hg
      clear hF hg HG ka
      go_wp2_with fail
      go_ret2
      refine .inr ⟨?_, rfl, HF.out.mono (by simp)⟩
      unfold getEv
      rw [show chOf B t (some i) = c from Hc.out.symm, Hg.out]
end Go.Proofs.Ytfjlepnodmeaaaa

/-
  Contracts of the document's book: Get.
-/
namespace Go.Proofs.Ytfjlepnodmeaaaa
open Go.RowKit

def GotPost (q p : Nat) (A : Option Addr) (cc : Nat) (bs : List UInt8) (w : World) (g : Got) (r : Ending) (w' : World) : Prop :=
  match g with
  | .bad e => r = .returned (.tuple #[.int .i64 0, .int .i64 e]) ∧ Fr [q, p] w w'
  | .ok v B d => r = .returned (.tuple #[.int .i64 v, .int .i64 0]) ∧ Eye w' q B p A cc bs d ∧ Fr [q, p] w w'

theorem rGet_bad (t : Int) (a b : Value) (w : World) (h : ¬ (0 ≤ t ∧ t ≤ 15)) :
    Calls Try.prog 35 #[a, b, .int .i64 t] w fun r w' => r = .returned (.tuple #[.int .i64 0, .int .i64 1]) ∧ w' = w := by
  have HT := rtopic_any t w
  rw [decide_eq_false h] at HT
  have HT := Lib.hid HT
  go_enter Try.func35, Try.ntmps35
  go_wp2_with fail
  refine HT.out.mono ?_
  rintro r w1 ⟨rfl, rfl⟩
  go_wp2_with fail
  go_ret2
  exact ⟨rfl, rfl⟩

set_option maxRecDepth 20000 in
set_option maxHeartbeats 4000000 in
theorem rGet_any (w : World) (q p t cc : Nat) (A : Option Addr) (bs : List UInt8) (d : Dec) (B : Chs) (h : Eye w q B p A cc bs d) (ht : t < 16) (hn : bs.length ≤ 100000) :
    Calls Try.prog 35 #[pt q, pt p, .int .i64 (t : Int)] w (GotPost q p A cc bs w (getNum bs t B d)) := by
  have HT := rtopic_any t w
  rw [decide_eq_true (by omega : 0 ≤ (t : Int) ∧ (t : Int) ≤ 15)] at HT
  have HT := Lib.hid HT
  obtain ⟨g, hg⟩ : ∃ g, g = getNum bs t B d := ⟨_, rfl⟩
  rw [← hg]
  have Hg := Lib.hid hg
  have H := Lib.hid h
  clear h hg
  go_enter Try.func35, Try.ntmps35
  go_wp2_with fail
  refine HT.out.mono ?_
  rintro r w1 ⟨rfl, rfl⟩
  clear HT
  go_wp2_with fail
  go_loopw [9] (fun s9 wr => ∃ (x : Nat) (B1 : Chs) (d1 : Dec), 1 ≤ x ∧ x ≤ 21 ∧ s9 = .int .i64 (x : Int) ∧ getLen bs t (21 - x) (x - 1) B1 d1 = getLen bs t 20 0 B d ∧ Eye wr q B1 p A cc bs d1 ∧ Fr [q, p] w1 wr) (fun s9 _ => 21 - (intOf s9).toNat)
  case atStart => exact ⟨1, B, d, by omega, by omega, rfl, rfl, H.out, Fr.refl _ _⟩
  case round =>
    obtain ⟨x, B1, d1, hx1, hx2, rfl, hL, hE, hF⟩ := hrel
    have HL := Lib.hid hL; have HE := Lib.hid hE; have HF := Lib.hid hF
    clear hL hE hF H
    rcases Nat.lt_or_ge x 21 with h21 | h21
    case' inl =>
      have e1 : decide ((x : Int) < 21) = true := by simp; omega
      have hG := rgetB_any wr q p t cc A bs d1 B1 (some (x - 1)) HE.out ht (fun j hj => by injection hj with hj; omega) hn
      rw [show plI (some (x - 1)) = (x : Int) - 1 from (by show ((x - 1 : Nat) : Int) = _; omega)] at hG
      have HG := Lib.hid hG
      have hstep : getLen bs t (21 - x) (x - 1) B1 d1 = match getEv bs t B1 d1 (some (x - 1)) with | none => none | some (b, B', d') => if b then getLen bs t (21 - (x + 1)) (x + 1 - 1) B' d' else some (x - 1, B', d') := by
        rw [show 21 - x = (21 - (x + 1)) + 1 by omega, show x + 1 - 1 = (x - 1) + 1 by omega]
        rfl
      have Hstep := Lib.hid hstep
      clear hG hstep
      go_wp2_with fail
      refine HG.out.mono ?_
      rintro r1 w2 (⟨bit, B2, d2, hge, rfl, hE2, hF2⟩ | ⟨hge, rfl, hF2⟩)
      rotate_left
      · have HF2 := Lib.hid (HF.out.trans hF2 (by simp))
        have hgb : g = .bad 41 := by
          rw [Hg.out]
          unfold getNum
          rw [← HL.out, Hstep.out, hge]
        have Hgb := Lib.hid hgb
        clear hF2 hge hgb HG
        go_wp2_with fail
        go_ret2
        rw [Hgb.out]
        exact ⟨rfl, HF2.out⟩
      have hLs := Hstep.out
      rw [hge, HL.out] at hLs
      have hF3 := HF.out.trans hF2 (by simp)
      have hEW := hE2
      cases bit with
      | true =>
        have HLs := Lib.hid hLs; have HF3 := Lib.hid hF3; have HE2 := Lib.hid hE2
        clear hge hLs hF3 hE2 hEW hF2 HG
        go_wp2_with fail
        exact ⟨⟨x + 1, B2, d2, by omega, by omega, by simp, HLs.out.symm, HE2.out, HF3.out⟩, by simp [intOf]; omega⟩
      | false => ?_
      have hres : getLen bs t 20 0 B d = some (x - 1, B2, d2) := hLs
      clear hLs hge hEW hF2
      have HR := Lib.hid hres; have HF3 := Lib.hid hF3; have HE3 := Lib.hid hE2
      clear hres hF3 hE2 HG Hstep HL HE HF
      go_upto_region 11 with fail
    case' inr =>
      have e1 : decide ((x : Int) < 21) = false := by simp; omega
      have hres : getLen bs t 20 0 B d = some (x - 1, B1, d1) := by
        have := HL.out
        rw [show 21 - x = 0 by omega] at this
        exact this.symm
      have HR := Lib.hid hres; have HF3 := HF; have HE3 := HE
      clear hres HL HE HF
      go_upto_region 11 with fail
      generalize wr = w2 at HF3 HE3 ⊢
      generalize B1 = B2 at HR HE3
      generalize d1 = d2 at HR HE3
    all_goals
      clear e1 h21 HT
      go_wp2_with fail
      go_loopw [12, 13] (fun s12 s13 wx => ∃ (i a V : Nat) (B3 : Chs) (d3 : Dec), i ≤ x - 1 ∧ a < 2 ^ i ∧ V = 2 ^ i + a ∧ s12 = .int .i64 (V : Int) ∧ s13 = .int .i64 (i : Int) ∧ getBits bs t (x - 1 - i) i a B3 d3 = getBits bs t (x - 1) 0 0 B2 d2 ∧ Eye wx q B3 p A cc bs d3 ∧ Fr [q, p] w1 wx) (fun _ s13 _ => 20 - (intOf s13).toNat)
      case atStart => exact ⟨0, 0, 1, B2, d2, by omega, by decide, rfl, rfl, rfl, rfl, HE3.out, HF3.out⟩
      case round =>
        obtain ⟨i, a, V, B3, d3, hi, ha, hV, rfl, rfl, hL, hE, hF⟩ := hrel
        have HL := Lib.hid hL; have HE := Lib.hid hE; have HF := Lib.hid hF; have HV := Lib.hid hV; have Ha := Lib.hid ha
        have hP20 : 2 ^ i ≤ 1048576 := Nat.pow_le_pow_right (n := 2) (i := i) (j := 20) (by omega) (by omega)
        obtain ⟨P, hP⟩ : ∃ P, P = 2 ^ i := ⟨_, rfl⟩
        have hVb : V ≤ 2097152 := by omega
        have hPV : P ≤ V := by omega
        rw [← hP] at hP20
        have HP := Lib.hid hP
        clear hL hE hF HF3 HE3 hV ha hP
        rcases Nat.lt_or_ge i (x - 1) with hix | hix
        · have e2 : decide ((i : Int) < (x : Int) - 1) = true := by simp; omega
          have eP : wrap64 ((2 : Int) ^ i) = (P : Int) := by
            rw [HP.out, show ((2 ^ i : Nat) : Int) = (2 : Int) ^ i by simp]
            have h1 : ((2 ^ i : Nat) : Int) = (2 : Int) ^ i := by simp
            have h2 := HP.out
            exact IntWalk.wrap64_in _ (by omega)
          have eVa : wrap64 ((V : Int) - (P : Int)) = (a : Int) := by
            have h1 := HV.out
            have h2 := HP.out
            have : (V : Int) - (P : Int) = (a : Int) := by omega
            rw [this]
            exact IntWalk.wrap64_in _ (by have := Ha.out; omega)
          have hPl := rplace_any i a wr (by omega) (by have := Ha.out; have := HP.out; omega)
          have hG := rgetB_any wr q p t cc A bs d3 B3 (place i a) HE.out ht (place_lt Ha.out) hn
          have hstep : getBits bs t (x - 1 - i) i a B3 d3 = match getEv bs t B3 d3 (place i a) with | none => none | some (b, B', d') => getBits bs t (x - 1 - (i + 1)) (i + 1) (2 * a + b.toNat) B' d' := by
            rw [show x - 1 - i = (x - 1 - (i + 1)) + 1 by omega]
            rfl
          obtain ⟨z, hz⟩ : ∃ z, z = plI (place i a) := ⟨_, rfl⟩
          rw [← hz] at hPl hG
          have HPl := Lib.hid hPl; have HG := Lib.hid hG; have Hstep := Lib.hid hstep
          have HeP := Lib.hid eP; have HeV := Lib.hid eVa
          clear hPl hG hstep hz eP eVa
          go_wp2_with fail
          rw [HeP.out, HeV.out]
          refine HPl.out.mono ?_
          rintro r1 w3 ⟨rfl, rfl⟩
          go_wp2_with fail
          refine HG.out.mono ?_
          rintro r1 w4 (⟨bit, B4, d4, hge, rfl, hE4, hF4⟩ | ⟨hge, rfl, hF4⟩)
          · have hLs := HL.out
            rw [Hstep.out, hge] at hLs
            have HLs := Lib.hid hLs
            have HF4 := Lib.hid (HF.out.trans hF4 (by simp))
            have HE4 := Lib.hid hE4
            have hb2 := Bool.toNat_le bit
            have hbV : ∃ V' : Nat, V' = 2 * V + bit.toNat := ⟨_, rfl⟩
            obtain ⟨V', hV'⟩ := hbV
            have HV' := Lib.hid hV'
            have eV' : 2 * (V : Int) + (bit.toNat : Int) = (V' : Int) := by omega
            clear hLs hge hE4 hF4 HG HPl hV'
            go_wp2_with fail
            refine ⟨⟨i + 1, 2 * a + bit.toNat, V', B4, d4, by omega, ?_, ?_, rfl, by simp, HLs.out, HE4.out, HF4.out⟩, by simp [intOf]; omega⟩
            · have := Ha.out
              rw [Nat.pow_succ]
              omega
            · have h1 := HV'.out
              have h2 := HV.out
              rw [Nat.pow_succ]
              omega
          · have HF4 := Lib.hid (HF.out.trans hF4 (by simp))
            have hgb : g = .bad 41 := by
              have hLs := HL.out
              rw [Hstep.out, hge] at hLs
              rw [Hg.out]
              unfold getNum
              rw [HR.out]
              simp only
              rw [← hLs]
            have Hgb := Lib.hid hgb
            clear hF4 hge hgb HG HPl
            go_wp2_with fail
            go_ret2
            rw [Hgb.out]
            exact ⟨rfl, HF4.out⟩
        · have e2 : decide ((i : Int) < (x : Int) - 1) = false := by simp; omega
          have hix2 : i = x - 1 := by omega
          have hLs := HL.out
          rw [hix2, Nat.sub_self] at hLs
          have hgn : g = if 1048576 < V - 1 then .bad 51 else .ok ((V - 1 : Nat) : Int) B3 d3 := by
            rw [Hg.out]
            unfold getNum
            rw [HR.out]
            simp only
            rw [← hLs]
            have h2 := HV.out
            rw [hix2] at h2
            rw [h2]
            rfl
          have hV1 : 1 ≤ V := by
            have := HV.out
            have := Nat.two_pow_pos i
            omega
          rcases Nat.lt_or_ge 1048576 (V - 1) with hb | hb
          · have e3 : decide (1048576 < (V : Int) - 1) = true := by simp; omega
            rw [if_pos hb] at hgn
            have Hgn := Lib.hid hgn
            clear hgn hLs hix2 hix hb
            go_wp2_with fail
            go_ret2
            rw [Hgn.out]
            exact ⟨rfl, HF.out⟩
          · have e3 : decide (1048576 < (V : Int) - 1) = false := by simp; omega
            rw [if_neg (by omega)] at hgn
            have Hgn := Lib.hid hgn
            have eV1 : ((V - 1 : Nat) : Int) = (V : Int) - 1 := by omega
            have HeV1 := Lib.hid eV1
            clear hgn hLs hix2 hix hb eV1
            go_wp2_with fail
            go_ret2
            rw [Hgn.out]
            refine ⟨?_, HE.out, HF.out⟩
            rw [HeV1.out]
            rfl
end Go.Proofs.Ytfjlepnodmeaaaa

/-
  Contracts of the document's book: GetOne.
-/
namespace Go.Proofs.Ytfjlepnodmeaaaa
open Go.RowKit

theorem rGetOne_bad (t n : Int) (a b : Value) (w : World) (h : ¬ (0 ≤ t ∧ t ≤ 15) ∨ n < 1 ∨ 16 < n) :
    Calls Try.prog 37 #[a, b, .int .i64 t, .int .i64 n] w fun r w' => r = .returned (.tuple #[.int .i64 0, .int .i64 1]) ∧ w' = w := by
  have HT := rtopic_any t w
  by_cases h1 : 0 ≤ t ∧ t ≤ 15
  · rw [decide_eq_true h1] at HT
    have HT := Lib.hid HT
    by_cases h2 : n < 1
    · have e1 : decide (n < 1) = true := by simpa using h2
      go_enter Try.func37, Try.ntmps37
      go_wp2_with fail
      refine HT.out.mono ?_
      rintro r w1 ⟨rfl, rfl⟩
      go_wp2_with fail
      go_ret2
      exact ⟨rfl, rfl⟩
    · have e1 : decide (n < 1) = false := by simpa using h2
      have e2 : decide (16 < n) = true := by simp; omega
      go_enter Try.func37, Try.ntmps37
      go_wp2_with fail
      refine HT.out.mono ?_
      rintro r w1 ⟨rfl, rfl⟩
      go_wp2_with fail
      go_ret2
      exact ⟨rfl, rfl⟩
  · rw [decide_eq_false h1] at HT
    have HT := Lib.hid HT
    go_enter Try.func37, Try.ntmps37
    go_wp2_with fail
    refine HT.out.mono ?_
    rintro r w1 ⟨rfl, rfl⟩
    go_wp2_with fail
    go_ret2
    exact ⟨rfl, rfl⟩

set_option maxRecDepth 20000 in
set_option maxHeartbeats 4000000 in
theorem rGetOne_any (w : World) (q p t m cc : Nat) (A : Option Addr) (bs : List UInt8) (d : Dec) (B : Chs) (h : Eye w q B p A cc bs d) (ht : t < 16) (hm1 : 1 ≤ m) (hm2 : m ≤ 16) (hn : bs.length ≤ 100000) :
    Calls Try.prog 37 #[pt q, pt p, .int .i64 (t : Int), .int .i64 (m : Int)] w (GotPost q p A cc bs w (getOne bs t m B d)) := by
  have HT := rtopic_any t w
  rw [decide_eq_true (by omega : 0 ≤ (t : Int) ∧ (t : Int) ≤ 15)] at HT
  have HT := Lib.hid HT
  have e1 : decide ((m : Int) < 1) = false := by simp; omega
  have e2 : decide (16 < (m : Int)) = false := by simp; omega
  obtain ⟨g, hg⟩ : ∃ g, g = getOne bs t m B d := ⟨_, rfl⟩
  rw [← hg]
  obtain ⟨N, hN⟩ : ∃ N, N = bitLen (m - 1) := ⟨_, rfl⟩
  have hN4 : N ≤ 4 := by rw [hN]; exact bitLen_le hm2
  have HW := rwidth_any m w (by omega) (by omega)
  rw [← hN] at HW
  unfold getOne at hg
  rw [← hN] at hg
  have HW := Lib.hid HW
  have Hg := Lib.hid hg
  have H := Lib.hid h
  clear h hg hN
  go_enter Try.func37, Try.ntmps37
  go_wp2_with fail
  refine HT.out.mono ?_
  rintro r w1 ⟨rfl, rfl⟩
  clear HT
  go_wp2_with fail
  refine HW.out.mono ?_
  rintro r w2 ⟨rfl, rfl⟩
  clear HW
  go_wp2_with fail
  go_loopw [11, 13] (fun s11 s13 wx => ∃ (i a : Nat) (B3 : Chs) (d3 : Dec), i ≤ N ∧ a < 2 ^ i ∧ s11 = .int .i64 (a : Int) ∧ s13 = .int .i64 (i : Int) ∧ getBits bs t (N - i) i a B3 d3 = getBits bs t N 0 0 B d ∧ Eye wx q B3 p A cc bs d3 ∧ Fr [q, p] w2 wx) (fun _ s13 _ => 20 - (intOf s13).toNat)
  case atStart => exact ⟨0, 0, B, d, by omega, by decide, rfl, rfl, rfl, H.out, Fr.refl _ _⟩
  case round =>
    obtain ⟨i, a, B3, d3, hi, ha, rfl, rfl, hL, hE, hF⟩ := hrel
    have HL := Lib.hid hL; have HE := Lib.hid hE; have HF := Lib.hid hF; have Ha := Lib.hid ha
    have hP : 2 ^ i ≤ 16 := Nat.pow_le_pow_right (n := 2) (i := i) (j := 4) (by omega) (by omega)
    have ha16 : a < 16 := by omega
    clear hL hE hF H ha hP
    by_cases hix : i < N
    · have e3 : decide (i < N) = true := by simpa using hix
      have hPl := rplace_any i a wr (by omega) (by omega)
      have hG := rgetB_any wr q p t cc A bs d3 B3 (place i a) HE.out ht (place_lt Ha.out) hn
      have hstep : getBits bs t (N - i) i a B3 d3 = match getEv bs t B3 d3 (place i a) with | none => none | some (b, B', d') => getBits bs t (N - (i + 1)) (i + 1) (2 * a + b.toNat) B' d' := by
        rw [show N - i = (N - (i + 1)) + 1 by omega]
        rfl
      obtain ⟨z, hz⟩ : ∃ z, z = plI (place i a) := ⟨_, rfl⟩
      rw [← hz] at hPl hG
      have HPl := Lib.hid hPl; have HG := Lib.hid hG; have Hstep := Lib.hid hstep
      clear hPl hG hstep hz
      go_wp2_with fail
      refine HPl.out.mono ?_
      rintro r1 w3 ⟨rfl, rfl⟩
      go_wp2_with fail
      refine HG.out.mono ?_
      rintro r1 w4 (⟨bit, B4, d4, hge, rfl, hE4, hF4⟩ | ⟨hge, rfl, hF4⟩)
      · have hLs := HL.out
        rw [Hstep.out, hge] at hLs
        have HLs := Lib.hid hLs
        have HF4 := Lib.hid (HF.out.trans hF4 (by simp))
        have HE4 := Lib.hid hE4
        have hb2 := Bool.toNat_le bit
        obtain ⟨V', hV'⟩ : ∃ V' : Nat, V' = 2 * a + bit.toNat := ⟨_, rfl⟩
        have HV' := Lib.hid hV'
        have eV' : 2 * (a : Int) + (bit.toNat : Int) = (V' : Int) := by omega
        clear hLs hge hE4 hF4 HG HPl hV'
        go_wp2_with fail
        refine ⟨⟨i + 1, V', B4, d4, by omega, ?_, rfl, by simp, by rw [HV'.out]; exact HLs.out, HE4.out, HF4.out⟩, by simp [intOf]; omega⟩
        have := Ha.out
        have := HV'.out
        rw [Nat.pow_succ]
        omega
      · have HF4 := Lib.hid (HF.out.trans hF4 (by simp))
        have hgb : g = .bad 41 := by
          have hLs := HL.out
          rw [Hstep.out, hge] at hLs
          rw [Hg.out, ← hLs]
        have Hgb := Lib.hid hgb
        clear hF4 hge hgb HG HPl
        go_wp2_with fail
        go_ret2
        rw [Hgb.out]
        exact ⟨rfl, HF4.out⟩
    · have e3 : decide (i < N) = false := by simpa using hix
      have hix2 : i = N := by omega
      have hLs := HL.out
      rw [hix2, Nat.sub_self] at hLs
      have hgn : g = if m ≤ a then .bad 51 else .ok (a : Int) B3 d3 := by
        rw [Hg.out, ← hLs]
        rfl
      by_cases hb : m ≤ a
      · have e4 : decide (m ≤ a) = true := by simpa using hb
        rw [if_pos hb] at hgn
        have Hgn := Lib.hid hgn
        clear hgn hLs hix2 hix hb
        go_wp2_with fail
        go_ret2
        rw [Hgn.out]
        exact ⟨rfl, HF.out⟩
      · have e4 : decide (m ≤ a) = false := by simpa using hb
        rw [if_neg hb] at hgn
        have Hgn := Lib.hid hgn
        clear hgn hLs hix2 hix hb
        go_wp2_with fail
        go_ret2
        rw [Hgn.out]
        exact ⟨rfl, HE.out, HF.out⟩
end Go.Proofs.Ytfjlepnodmeaaaa

/-
  The laws' acts of a book, and of the document's: which function an act calls. No condition.
-/
namespace Go.Proofs.Ytfjlepnodmeaaaa
open Go.RowKit

set_option maxRecDepth 20000 in
theorem lput_any (a : Act5) (u x : Value) (w : World) (Q : Ending → World → Prop) (hQ : ∀ r w', Q r w' → ∃ z : Int, r = .returned (.int .i64 z))
    (h1 : a.1 = 1 → ∀ w1, Fr [] w w1 → Calls Try.prog 25 #[u, x, .int .i64 a.2.1, .int .i64 a.2.2.2] w1 Q)
    (h2 : a.1 = 2 → ∀ w1, Fr [] w w1 → Calls Try.prog 26 #[u, x, .int .i64 a.2.1, .int .i64 a.2.2.2] w1 Q)
    (h3 : a.1 ≠ 1 → a.1 ≠ 2 → ∀ w1, Fr [] w w1 → Calls Try.prog 27 #[u, x, .int .i64 a.2.1, .int .i64 a.2.2.1, .int .i64 a.2.2.2] w1 Q) :
    Calls Try.prog 13 #[vAct a, u, x] w Q := by
  obtain ⟨k, t, n, v⟩ := a
  have H1 := Lib.hid h1; have H2 := Lib.hid h2; have H3 := Lib.hid h3; have HQ := Lib.hid hQ
  clear h1 h2 h3 hQ
  have hF : Fr [] w (w.alloc (.cells #[.int .i64 k, .int .i64 t, .int .i64 n, .int .i64 v] 33)) := (Fr.refl _ _).alloc _
  have HF := Lib.hid hF
  clear hF
  unfold vAct
  by_cases e1 : k = 1
  · have b1 : (k == 1) = true := by simp [e1]
    have HE := Lib.hid e1
    clear e1
    go_enter Try.func13, Try.ntmps13
    go_wp2_with fail
    refine (H1.out HE.out _ HF.out).mono ?_
    rintro r w2 hq
    obtain ⟨z, rfl⟩ := HQ.out _ _ hq
    have hq := Lib.hid hq
    go_wp2_with fail
    first | exact hq.out | (go_ret2; exact hq.out)
  · have b1 : (k == 1) = false := by simp [e1]
    by_cases e2 : k = 2
    · have b2 : (k == 2) = true := by simp [e2]
      have HE := Lib.hid e2
      clear e1 e2
      go_enter Try.func13, Try.ntmps13
      go_wp2_with fail
      refine (H2.out HE.out _ HF.out).mono ?_
      rintro r w2 hq
      obtain ⟨z, rfl⟩ := HQ.out _ _ hq
      have hq := Lib.hid hq
      go_wp2_with fail
      first | exact hq.out | (go_ret2; exact hq.out)
    · have b2 : (k == 2) = false := by simp [e2]
      have HE1 := Lib.hid e1
      have HE2 := Lib.hid e2
      clear e1 e2
      go_enter Try.func13, Try.ntmps13
      go_wp2_with fail
      refine (H3.out HE1.out HE2.out _ HF.out).mono ?_
      rintro r w2 hq
      obtain ⟨z, rfl⟩ := HQ.out _ _ hq
      have hq := Lib.hid hq
      go_wp2_with fail
      first | exact hq.out | (go_ret2; exact hq.out)

set_option maxRecDepth 20000 in
theorem lputRef_any (a : Act5) (u x : Value) (w : World) (Q : Ending → World → Prop) (hQ : ∀ r w', Q r w' → ∃ z : Int, r = .returned (.int .i64 z))
    (h1 : a.1 = 1 → ∀ w1, Fr [] w w1 → Calls Try.prog 28 #[u, x, .int .i64 a.2.1, .int .i64 a.2.2.2] w1 Q)
    (h2 : a.1 = 2 → ∀ w1, Fr [] w w1 → Calls Try.prog 29 #[u, x, .int .i64 a.2.1, .int .i64 a.2.2.2] w1 Q)
    (h3 : a.1 ≠ 1 → a.1 ≠ 2 → ∀ w1, Fr [] w w1 → Calls Try.prog 30 #[u, x, .int .i64 a.2.1, .int .i64 a.2.2.1, .int .i64 a.2.2.2] w1 Q) :
    Calls Try.prog 14 #[vAct a, u, x] w Q := by
  obtain ⟨k, t, n, v⟩ := a
  have H1 := Lib.hid h1; have H2 := Lib.hid h2; have H3 := Lib.hid h3; have HQ := Lib.hid hQ
  clear h1 h2 h3 hQ
  have hF : Fr [] w (w.alloc (.cells #[.int .i64 k, .int .i64 t, .int .i64 n, .int .i64 v] 33)) := (Fr.refl _ _).alloc _
  have HF := Lib.hid hF
  clear hF
  unfold vAct
  by_cases e1 : k = 1
  · have b1 : (k == 1) = true := by simp [e1]
    have HE := Lib.hid e1
    clear e1
    go_enter Try.func14, Try.ntmps14
    go_wp2_with fail
    refine (H1.out HE.out _ HF.out).mono ?_
    rintro r w2 hq
    obtain ⟨z, rfl⟩ := HQ.out _ _ hq
    have hq := Lib.hid hq
    go_wp2_with fail
    first | exact hq.out | (go_ret2; exact hq.out)
  · have b1 : (k == 1) = false := by simp [e1]
    by_cases e2 : k = 2
    · have b2 : (k == 2) = true := by simp [e2]
      have HE := Lib.hid e2
      clear e1 e2
      go_enter Try.func14, Try.ntmps14
      go_wp2_with fail
      refine (H2.out HE.out _ HF.out).mono ?_
      rintro r w2 hq
      obtain ⟨z, rfl⟩ := HQ.out _ _ hq
      have hq := Lib.hid hq
      go_wp2_with fail
      first | exact hq.out | (go_ret2; exact hq.out)
    · have b2 : (k == 2) = false := by simp [e2]
      have HE1 := Lib.hid e1
      have HE2 := Lib.hid e2
      clear e1 e2
      go_enter Try.func14, Try.ntmps14
      go_wp2_with fail
      refine (H3.out HE1.out HE2.out _ HF.out).mono ?_
      rintro r w2 hq
      obtain ⟨z, rfl⟩ := HQ.out _ _ hq
      have hq := Lib.hid hq
      go_wp2_with fail
      first | exact hq.out | (go_ret2; exact hq.out)

set_option maxRecDepth 20000 in
theorem lget_any (a : Act5) (u x : Value) (w : World) (Q : Ending → World → Prop) (hQ : ∀ r w', Q r w' → ∃ z y : Int, r = .returned (.tuple #[.int .i64 z, .int .i64 y]))
    (h1 : a.1 = 1 → ∀ w1, Fr [] w w1 → Calls Try.prog 34 #[u, x, .int .i64 a.2.1] w1 Q)
    (h2 : a.1 = 2 → ∀ w1, Fr [] w w1 → Calls Try.prog 31 #[u, x, .int .i64 a.2.1] w1 Q)
    (h3 : a.1 ≠ 1 → a.1 ≠ 2 → ∀ w1, Fr [] w w1 → Calls Try.prog 32 #[u, x, .int .i64 a.2.1, .int .i64 a.2.2.1] w1 Q) :
    Calls Try.prog 20 #[vAct a, u, x] w Q := by
  obtain ⟨k, t, n, v⟩ := a
  have H1 := Lib.hid h1; have H2 := Lib.hid h2; have H3 := Lib.hid h3; have HQ := Lib.hid hQ
  clear h1 h2 h3 hQ
  have hF : Fr [] w (w.alloc (.cells #[.int .i64 k, .int .i64 t, .int .i64 n, .int .i64 v] 33)) := (Fr.refl _ _).alloc _
  have HF := Lib.hid hF
  clear hF
  unfold vAct
  by_cases e1 : k = 1
  · have b1 : (k == 1) = true := by simp [e1]
    have HE := Lib.hid e1
    clear e1
    go_enter Try.func20, Try.ntmps20
    go_wp2_with fail
    refine (H1.out HE.out _ HF.out).mono ?_
    rintro r w2 hq
    obtain ⟨z, y, rfl⟩ := HQ.out _ _ hq
    have hq := Lib.hid hq
    go_wp2_with fail
    first | exact hq.out | (go_ret2; exact hq.out)
  · have b1 : (k == 1) = false := by simp [e1]
    by_cases e2 : k = 2
    · have b2 : (k == 2) = true := by simp [e2]
      have HE := Lib.hid e2
      clear e1 e2
      go_enter Try.func20, Try.ntmps20
      go_wp2_with fail
      refine (H2.out HE.out _ HF.out).mono ?_
      rintro r w2 hq
      obtain ⟨z, y, rfl⟩ := HQ.out _ _ hq
      have hq := Lib.hid hq
      go_wp2_with fail
      first | exact hq.out | (go_ret2; exact hq.out)
    · have b2 : (k == 2) = false := by simp [e2]
      have HE1 := Lib.hid e1
      have HE2 := Lib.hid e2
      clear e1 e2
      go_enter Try.func20, Try.ntmps20
      go_wp2_with fail
      refine (H3.out HE1.out HE2.out _ HF.out).mono ?_
      rintro r w2 hq
      obtain ⟨z, y, rfl⟩ := HQ.out _ _ hq
      have hq := Lib.hid hq
      go_wp2_with fail
      first | exact hq.out | (go_ret2; exact hq.out)

set_option maxRecDepth 20000 in
theorem lgetRef_any (a : Act5) (u x : Value) (w : World) (Q : Ending → World → Prop) (hQ : ∀ r w', Q r w' → ∃ z y : Int, r = .returned (.tuple #[.int .i64 z, .int .i64 y]))
    (h1 : a.1 = 1 → ∀ w1, Fr [] w w1 → Calls Try.prog 35 #[u, x, .int .i64 a.2.1] w1 Q)
    (h2 : a.1 = 2 → ∀ w1, Fr [] w w1 → Calls Try.prog 36 #[u, x, .int .i64 a.2.1] w1 Q)
    (h3 : a.1 ≠ 1 → a.1 ≠ 2 → ∀ w1, Fr [] w w1 → Calls Try.prog 37 #[u, x, .int .i64 a.2.1, .int .i64 a.2.2.1] w1 Q) :
    Calls Try.prog 21 #[vAct a, u, x] w Q := by
  obtain ⟨k, t, n, v⟩ := a
  have H1 := Lib.hid h1; have H2 := Lib.hid h2; have H3 := Lib.hid h3; have HQ := Lib.hid hQ
  clear h1 h2 h3 hQ
  have hF : Fr [] w (w.alloc (.cells #[.int .i64 k, .int .i64 t, .int .i64 n, .int .i64 v] 33)) := (Fr.refl _ _).alloc _
  have HF := Lib.hid hF
  clear hF
  unfold vAct
  by_cases e1 : k = 1
  · have b1 : (k == 1) = true := by simp [e1]
    have HE := Lib.hid e1
    clear e1
    go_enter Try.func21, Try.ntmps21
    go_wp2_with fail
    refine (H1.out HE.out _ HF.out).mono ?_
    rintro r w2 hq
    obtain ⟨z, y, rfl⟩ := HQ.out _ _ hq
    have hq := Lib.hid hq
    go_wp2_with fail
    first | exact hq.out | (go_ret2; exact hq.out)
  · have b1 : (k == 1) = false := by simp [e1]
    by_cases e2 : k = 2
    · have b2 : (k == 2) = true := by simp [e2]
      have HE := Lib.hid e2
      clear e1 e2
      go_enter Try.func21, Try.ntmps21
      go_wp2_with fail
      refine (H2.out HE.out _ HF.out).mono ?_
      rintro r w2 hq
      obtain ⟨z, y, rfl⟩ := HQ.out _ _ hq
      have hq := Lib.hid hq
      go_wp2_with fail
      first | exact hq.out | (go_ret2; exact hq.out)
    · have b2 : (k == 2) = false := by simp [e2]
      have HE1 := Lib.hid e1
      have HE2 := Lib.hid e2
      clear e1 e2
      go_enter Try.func21, Try.ntmps21
      go_wp2_with fail
      refine (H3.out HE1.out HE2.out _ HF.out).mono ?_
      rintro r w2 hq
      obtain ⟨z, y, rfl⟩ := HQ.out _ _ hq
      have hq := Lib.hid hq
      go_wp2_with fail
      first | exact hq.out | (go_ret2; exact hq.out)

end Go.Proofs.Ytfjlepnodmeaaaa

/-
  Contracts of the document's book: Put.
-/
namespace Go.Proofs.Ytfjlepnodmeaaaa
open Go.RowKit

theorem onesEvs_snoc : ∀ (k n : Nat), onesEvs n (k + 1) = onesEvs n k ++ [(some (n + k), true)]
  | 0, n => rfl
  | k + 1, n => by
    show (some n, true) :: onesEvs (n + 1) (k + 1) = _
    rw [onesEvs_snoc k (n + 1), show n + 1 + k = n + (k + 1) by omega]
    rfl
theorem bitEvs_snoc : ∀ (l : List Bool) (i a : Nat) (b : Bool), bitEvs i a (l ++ [b]) = bitEvs i a l ++ [(place (i + l.length) (l.foldl (fun a b => 2 * a + b.toNat) a), b)]
  | [], _, _, _ => rfl
  | c :: l, i, a, b => by
    show (place i a, c) :: bitEvs (i + 1) (2 * a + c.toNat) (l ++ [b]) = _
    rw [bitEvs_snoc l (i + 1) _ b, show i + 1 + l.length = i + (c :: l).length by simp; omega]
    rfl
theorem bitEvs_take {l : List Bool} {j : Nat} (h : j < l.length) : bitEvs 0 0 (l.take (j + 1)) = bitEvs 0 0 (l.take j) ++ [(place j (number (l.take j)), l.getD j false)] := by
  rw [List.take_add_one, List.getElem?_eq_getElem h, Option.toList_some, bitEvs_snoc, List.length_take, Nat.min_eq_left (by omega), Nat.zero_add, List.getD_eq_getElem?_getD, List.getElem?_eq_getElem h]
  rfl

/-- Behind a row of bits, from w0 on. -/
def PenAt (w0 : World) (q p t : Nat) (v0 : Value) (B : Chs) (e : Enc) (w : World) (l : List Ev) : Prop :=
  ∃ v', Pen w q (learned t B l) p v' (puts e (track t B l)) ∧ PenFr q p v0 v' w0 w
theorem Pen.at_ {w : World} {q p t : Nat} {v : Value} {B : Chs} {e : Enc} (h : Pen w q B p v e) : PenAt w q p t v B e w [] := ⟨v, h, PenFr.refl q p v w⟩
theorem Pen.fr0 {w w' : World} {q p : Nat} {v : Value} {B : Chs} {e : Enc} (h : Pen w q B p v e) (hf : Fr [] w w') : Pen w' q B p v e :=
  ⟨h.bk.fr hf (by simp), h.en.fr0 hf, h.qp, h.qv, h.fine, h.ok⟩
theorem PenFr.fr0 {q p : Nat} {v v' : Value} {w w2 w3 : World} (h : PenFr q p v v' w w2) (hf : Fr [] w2 w3) : PenFr q p v v' w w3 :=
  ⟨h.1.trans hf (by simp), h.2⟩
theorem PenAt.fr0 {w0 w w' : World} {q p t : Nat} {v0 : Value} {B : Chs} {e : Enc} {l : List Ev} (h : PenAt w0 q p t v0 B e w l) (hf : Fr [] w w') : PenAt w0 q p t v0 B e w' l := by
  obtain ⟨v', h1, h2⟩ := h
  exact ⟨v', h1.fr0 hf, h2.fr0 hf⟩
theorem PenAt.put {w0 W : World} {q p t : Nat} {v0 : Value} {B : Chs} {e : Enc} {l : List Ev} (h : PenAt w0 q p t v0 B e W l) (i : Option Nat) (bit : Bool) (ht : t < 16) (hi : ∀ j, i = some j → j < 37) (hn : e.n + l.length ≤ 100000) :
    Calls Try.prog 45 #[pt q, pt p, .int .i64 (t : Int), .int .i64 (plI i), .int .u8 (bit.toNat : Int)] W fun r w' => r = .returned (.tuple #[]) ∧ PenAt w0 q p t v0 B e w' (l ++ [(i, bit)]) := by
  obtain ⟨v', h1, h2⟩ := h
  have hn2 := puts_n (track t B l) e
  rw [track_length] at hn2
  refine (rputB_any W q p t v' _ _ i bit h1 ht hi (by omega)).mono ?_
  rintro r w' ⟨hr, v2, h3, h4⟩
  refine ⟨hr, v2, ?_, h2.trans h4⟩
  rw [learned_append, track_append, puts_append]
  exact h3
/-- One row of bits behind another. -/
theorem PenAt.join {w0 w1 w : World} {q p t : Nat} {v0 v1 : Value} {B : Chs} {e : Enc} {l m : List Ev} (h : PenFr q p v0 v1 w0 w1) (k : PenAt w1 q p t v1 (learned t B l) (puts e (track t B l)) w m) : PenAt w0 q p t v0 B e w (l ++ m) := by
  obtain ⟨v', h1, h2⟩ := k
  refine ⟨v', ?_, h.trans h2⟩
  rw [learned_append, track_append, puts_append]
  exact h1

theorem PenAt.row {w0 W : World} {q p t : Nat} {v0 : Value} {B : Chs} {e : Enc} {l : List Ev} (h : PenAt w0 q p t v0 B e W l) {ty : TypeId} {g n c : Nat} {xs : List Value} (hO : Own w0 ty (.slice (some ⟨g, 0, none⟩) n c) xs) (h1 : g ≠ q) (h2 : g ≠ p) (h3 : v0.ownBlock ≠ some g) : Own W ty (.slice (some ⟨g, 0, none⟩) n c) xs := by
  obtain ⟨v', -, hf⟩ := h
  refine hO.fr hf.1 fun k hk hm => ?_
  have : g = k := by simpa [Value.ownBlock] using hk
  subst this
  rcases List.mem_cons.1 hm with hm | hm
  · exact h1 hm
  · rcases List.mem_cons.1 hm with hm | hm
    · exact h2 hm
    · exact h3 (by simpa using hm)
theorem Src.first {w : World} {A : Option Addr} {n c k : Nat} {xs : List Value} (h : Src w (.slice A n c) xs) (hk : k ≤ n) : Src w (.slice A k c) (xs.take k) := by
  rcases h with ⟨h1, rfl⟩ | ⟨ad, c', h1, hle, hc⟩
  · injection h1 with e1 e2 e3
    subst e1 e2 e3
    obtain rfl : k = 0 := by omega
    exact .inl ⟨rfl, rfl⟩
  · injection h1 with e1 e2 e3
    subst e1 e2 e3
    refine .inr ⟨ad, c, by simp; omega, by simp; omega, fun j u hu => hc j u ?_⟩
    rw [List.getElem?_take] at hu
    split at hu
    · exact hu
    · cases hu
theorem bitsU_take (l : List Bool) (k : Nat) : bitsU (l.take k) = (bitsU l).take k := by simp [bitsU]
theorem bitsU_getD (l : List Bool) (k : Nat) (h : k < l.length) : (bitsU l)[k]? = some (u8b (l.getD k false)) := by
  rw [bitsU, List.getElem?_map, List.getElem?_eq_getElem h, List.getD_eq_getElem?_getD, List.getElem?_eq_getElem h]
  rfl

theorem rPut_bad (t v : Int) (a b : Value) (w : World) (h : ¬ (0 ≤ t ∧ t ≤ 15) ∨ v < 0 ∨ 1048576 < v) :
    Calls Try.prog 28 #[a, b, .int .i64 t, .int .i64 v] w fun r w' => r = .returned (.int .i64 1) ∧ w' = w := by
  have HT := rtopic_any t w
  by_cases h1 : 0 ≤ t ∧ t ≤ 15
  · rw [decide_eq_true h1] at HT
    have HT := Lib.hid HT
    by_cases h2 : v < 0
    · have e1 : decide (v < 0) = true := by simpa using h2
      go_enter Try.func28, Try.ntmps28
      go_wp2_with fail
      refine HT.out.mono ?_
      rintro r w1 ⟨rfl, rfl⟩
      go_wp2_with fail
      go_ret
      exact ⟨rfl, rfl⟩
    · have e1 : decide (v < 0) = false := by simpa using h2
      have e2 : decide (1048576 < v) = true := by simp; omega
      go_enter Try.func28, Try.ntmps28
      go_wp2_with fail
      refine HT.out.mono ?_
      rintro r w1 ⟨rfl, rfl⟩
      go_wp2_with fail
      go_ret
      exact ⟨rfl, rfl⟩
  · rw [decide_eq_false h1] at HT
    have HT := Lib.hid HT
    go_enter Try.func28, Try.ntmps28
    go_wp2_with fail
    refine HT.out.mono ?_
    rintro r w1 ⟨rfl, rfl⟩
    go_wp2_with fail
    go_ret
    exact ⟨rfl, rfl⟩

set_option maxRecDepth 20000 in
set_option maxHeartbeats 4000000 in
theorem rPut_ok (w : World) (q p t n : Nat) (v : Value) (B : Chs) (e : Enc) (h : Pen w q B p v e) (ht : t < 16) (hn : n ≤ 1048576) (he : e.n ≤ 90000) :
    Calls Try.prog 28 #[pt q, pt p, .int .i64 (t : Int), .int .i64 (n : Int)] w fun r w' => r = .returned (.int .i64 0) ∧ PenAt w q p t v B e w' (numEvs n) := by
  have HT := rtopic_any t w
  rw [decide_eq_true (by omega : 0 ≤ (t : Int) ∧ (t : Int) ≤ 15)] at HT
  have HT := Lib.hid HT
  have e1 : decide (1048576 < (n : Int)) = false := by simp; omega
  have e0 : decide ((n : Int) < 0) = false := by simp
  obtain ⟨N, hN⟩ : ∃ N, N = (n + 1).log2 := ⟨_, rfl⟩
  have hb : bitLen (n + 1) = N + 1 := by unfold bitLen; rw [if_neg (by omega), hN]
  have hN20 : N ≤ 20 := by rw [hN]; exact log2_level hn
  have H0 := Lib.hid (h.at_ (t := t))
  have Hb := Lib.hid hb
  have HN := Lib.hid hN
  clear h hb hN
  go_enter Try.func28, Try.ntmps28
  go_wp2_with fail
  refine HT.out.mono ?_
  rintro r w1 ⟨rfl, rfl⟩
  clear HT
  go_wp2_with fail
  go_loopw [10, 11] (fun s10 s11 wr => ∃ (x k : Nat), k ≤ n + 1 ∧ s10 = .int .i64 (x : Int) ∧ s11 = .int .i64 (k : Int) ∧ x + bitLen k = N + 1 ∧ wr = w1) (fun _ s11 _ => (intOf s11).toNat)
  case atStart => exact ⟨0, n + 1, by omega, rfl, by simp, by have := Hb.out; omega, by trivial⟩
  case round =>
    obtain ⟨x, k, hk, rfl, rfl, hx, rfl⟩ := hrel
    have Hx := Lib.hid hx; clear hx
    by_cases h0 : 0 < k
    · have e2 : decide (0 < k) = true := by simpa using h0
      have Hs := Lib.hid (bitLen_step (v := k) (by omega))
      have hxb : x ≤ 21 := by have := Hx.out; omega
      go_wp2_with fail
      exact ⟨⟨x + 1, k / 2, by omega, by simp, by simp, by have := Hx.out; have := Hs.out; omega, by trivial⟩, by simp [intOf]; omega⟩
    · have e2 : decide (0 < k) = false := by simpa using h0
      have hx1 : x = N + 1 := by
        have := Hx.out
        rw [show k = 0 by omega] at this
        simpa [bitLen] using this
      have Hx1 := Lib.hid hx1
      have hxa : 1 ≤ x := by omega
      have hxb : x ≤ 21 := by omega
      clear Hx hk HT hx1
      go_wp2_with fail
      go_loopw [12] (fun s12 wx => ∃ i : Nat, i ≤ N ∧ s12 = .int .i64 (i : Int) ∧ PenAt wr q p t v B e wx (onesEvs 0 i)) (fun s12 _ => 20 - (intOf s12).toNat)
      case atStart => exact ⟨0, by omega, rfl, H0.out⟩
      case round =>
        clear H0
        obtain ⟨i, hi, rfl, hP⟩ := hrel
        have HP := Lib.hid hP; clear hP
        by_cases hiN : i < N
        · have e3 : decide ((i : Int) < (x : Int) - 1) = true := by have := Hx1.out; simp; omega
          have HPut := Lib.hid (HP.out.put (some i) true ht (fun j hj => by injection hj with hj; omega) (by simp; omega))
          have hpl : plI (some i) = (i : Int) := rfl
          rw [hpl, show ((true.toNat : Nat) : Int) = 1 from rfl, show onesEvs 0 i ++ [(some i, true)] = onesEvs 0 (i + 1) by rw [onesEvs_snoc, Nat.zero_add]] at HPut
          clear hpl
          go_wp2_with fail
          refine HPut.out.mono ?_
          rintro r1 w2 ⟨rfl, hP2⟩
          have HP2 := Lib.hid hP2; clear hP2 HPut
          go_wp2_with fail
          exact ⟨⟨i + 1, by omega, by simp, HP2.out⟩, by simp [intOf]; omega⟩
        · have e3 : decide ((i : Int) < (x : Int) - 1) = false := by have := Hx1.out; simp; omega
          have hiN2 : i = N := by omega
          have HiN := Lib.hid hiN2
          have exi : (x : Int) - 1 = (i : Int) := by have := Hx1.out; omega
          have Hxi := Lib.hid exi
          clear hi hiN hiN2 exi
          rcases Nat.lt_or_ge i 20 with h20 | h20
          case' inl =>
            have e4 : decide ((x : Int) < 21) = true := by have := Hx1.out; have := HiN.out; simp; omega
            have HPut := Lib.hid (HP.out.put (some i) false ht (fun j hj => by injection hj with hj; omega) (by simp; omega))
            have hpl : plI (some i) = (i : Int) := rfl
            rw [hpl, ← Hxi.out, show ((false.toNat : Nat) : Int) = 0 from rfl, show onesEvs 0 i ++ [(some i, false)] = onesEvs 0 i ++ stopEvs i by unfold stopEvs; rw [if_pos h20]] at HPut
            clear hpl
            go_wp2_with fail
            refine HPut.out.mono ?_
            rintro r1 w2 ⟨rfl, hQ⟩
            go_upto_region 15 with fail
            clear HPut
          case' inr =>
            have e4 : decide ((x : Int) < 21) = false := by have := Hx1.out; have := HiN.out; simp; omega
            have hQ := HP.out
            rw [show onesEvs 0 i = onesEvs 0 i ++ stopEvs i by unfold stopEvs; rw [if_neg (by omega), List.append_nil]] at hQ
            go_upto_region 15 with fail
            clear HP
            generalize wr = w2 at hQ ⊢
          all_goals
            rw [HiN.out] at hQ
            obtain ⟨v1, hPen, hPF⟩ := hQ
            have hDg := digits_any' (n + 1) N w2 (by omega) (by omega)
            have HPen := Lib.hid hPen
            have HPF := Lib.hid hPF
            rw [show ((n + 1 : Nat) : Int) = (n : Int) + 1 by simp, show (N : Int) = (x : Int) - 1 by have := Hx1.out; omega] at hDg
            have HDg := Lib.hid hDg
            have eU : IntKind.u64.wrap ((n : Int) + 1) = (n : Int) + 1 := IntWalk.u64_in _ (by omega)
            clear hPen hPF hDg e4 h20 e3
            go_wp2_with fail
            refine HDg.out.mono ?_
            rintro r1 w5 ⟨c5, rfl, hO5, hF5⟩
            have hlq := HPen.out.bk.lt
            have hlp := HPen.out.en.1.lt
            have hlv : v1.ownBlock ≠ some w2.heap.size := fun hk => by
              rcases HPen.out.en.2.1.form with ⟨rfl, -⟩ | ⟨g, cap, cur, rfl, hb, -⟩
              · simp [Value.ownBlock] at hk
              · have : g = w2.heap.size := by simpa [Value.ownBlock] using hk
                have := hb.lt
                omega
            obtain ⟨g, hg⟩ : ∃ g, g = w2.heap.size := ⟨_, rfl⟩
            rw [← hg] at hO5 hlv ⊢
            obtain ⟨B1, hB1⟩ : ∃ B1, B1 = learned t B (onesEvs 0 N ++ stopEvs N) := ⟨_, rfl⟩
            obtain ⟨f1, hf1⟩ : ∃ f1, f1 = puts e (track t B (onesEvs 0 N ++ stopEvs N)) := ⟨_, rfl⟩
            have hfn : f1.n ≤ 90021 := by
              have := puts_n (track t B (onesEvs 0 N ++ stopEvs N)) e
              rw [← hf1, track_length, List.length_append, onesEvs_length] at this
              have h2 : (stopEvs N).length ≤ 1 := by unfold stopEvs; split <;> simp
              omega
            obtain ⟨ds, hds⟩ : ∃ ds, ds = digits (n + 1) N := ⟨_, rfl⟩
            have hdl : ds.length = N := by rw [hds]; simp
            have hPF := HPF.out.fr0 hF5
            have hP5 := HPen.out.fr0 hF5
            rw [← hB1, ← hf1] at hP5
            rw [← hds] at hO5
            have HQ := Lib.hid (hP5.at_ (t := t))
            have HPF5 := Lib.hid hPF
            have HO : Hid (∀ W l, PenAt w5 q p t v1 B1 f1 W l → Own W 5 (.slice (some ⟨g, 0, none⟩) N c5) ((bitsU ds).map B8)) := Lib.hid fun W l hW => hW.row hO5 (by omega) (by omega) hlv
            have HB1 := Lib.hid hB1; have Hf1 := Lib.hid hf1; have Hds := Lib.hid hds; have Hdl := Lib.hid hdl
            clear hlq hlp hlv hg hB1 hf1 hds hdl hPF hP5 hO5 hF5 HPen HPF HDg
            go_wp2_with fail
            go_loopw [14] (fun s14 wx => ∃ j : Nat, j ≤ N ∧ s14 = .int .i64 (j : Int) ∧ PenAt w5 q p t v1 B1 f1 wx (bitEvs 0 0 (ds.take j))) (fun s14 _ => 20 - (intOf s14).toNat)
            case atStart => exact ⟨0, by omega, rfl, HQ.out⟩
            case round =>
              clear HQ
              obtain ⟨j, hj, rfl, hP⟩ := hrel
              have HP := Lib.hid hP; clear hP
              by_cases hjN : j < N
              · have e3 : decide ((j : Int) < (x : Int) - 1) = true := by have := Hx1.out; simp; omega
                have hOw := HO.out _ _ HP.out
                obtain ⟨bit, hbit⟩ : ∃ bit, bit = ds.getD j false := ⟨_, rfl⟩
                have hcell : wr.cell? ⟨g, j, none⟩ = some (.int .u8 (bit.toNat : Int)) := by
                  have h1 := (hOw.at_ (j := j) (by simp; rw [Hdl.out]; exact hjN)).1
                  rw [h1, List.getElem?_map, bitsU_getD ds j (by rw [Hdl.out]; exact hjN), ← hbit]
                  exact congrArg some (B8_u8b bit)
                obtain ⟨a, ha⟩ : ∃ a, a = number (ds.take j) := ⟨_, rfl⟩
                have halt : a < 2 ^ j := by
                  have := number_lt (ds.take j)
                  rw [List.length_take, Nat.min_eq_left (by rw [Hdl.out]; omega)] at this
                  omega
                have ha20 : a < 1048576 := Nat.lt_of_lt_of_le halt (Nat.pow_le_pow_right (n := 2) (i := j) (j := 20) (by omega) (by omega))
                have hNum := number_any (.slice (some ⟨g, 0, none⟩) j c5) (ds.take j) wr.drew (by rw [bitsU_take, List.map_take]; exact ((hOw.src).first (by omega)).drew) (by rw [List.length_take]; omega)
                rw [← ha] at hNum
                have hPl := rplace_any j a wr.drew (by omega) (by omega)
                obtain ⟨pl, hpl⟩ : ∃ pl, pl = place j a := ⟨_, rfl⟩
                have hPu := (HP.out.fr0 (Fr.refl [] wr).drew).put pl bit ht (by rw [hpl]; exact place_lt halt) (by rw [bitEvs_length, List.length_take]; omega)
                have hsn : bitEvs 0 0 (ds.take j) ++ [(pl, bit)] = bitEvs 0 0 (ds.take (j + 1)) := by rw [bitEvs_take (by rw [Hdl.out]; exact hjN), ← ha, ← hbit, hpl]
                rw [hsn] at hPu
                rw [← hpl] at hPl
                obtain ⟨z, hz⟩ : ∃ z, z = plI pl := ⟨_, rfl⟩
                rw [← hz] at hPl hPu
                have HNum := Lib.hid hNum; have HPl := Lib.hid hPl; have HPu := Lib.hid hPu
                have eA : IntKind.i64.wrap (a : Int) = (a : Int) := IntWalk.i64_in _ (by omega)
                have qc : j ≤ c5 := by
                  rcases hOw.form with ⟨h1, -⟩ | ⟨g', cap, cur, h1, -, h2, -⟩
                  · cases h1
                  · injection h1 with h3 h4 h5
                    rw [h5]
                    omega
                have hcw : ∀ W l, PenAt w5 q p t v1 B1 f1 W l → W.cell? ⟨g, j, none⟩ = some (.int .u8 (bit.toNat : Int)) := fun W l hW => by
                  have h1 := ((HO.out W l hW).at_ (j := j) (by simp; rw [Hdl.out]; exact hjN)).1
                  rw [h1, List.getElem?_map, bitsU_getD ds j (by rw [Hdl.out]; exact hjN), ← hbit]
                  exact congrArg some (B8_u8b bit)
                have Hcw := Lib.hid hcw
                clear hcw
                clear hNum hPl hPu hsn hz hpl ha halt hbit hOw HP
                go_upto_region 19 with fail
                have hcell2 : wr.drew.cell? ⟨g, j, none⟩ = some (.int .u8 (bit.toNat : Int)) := hcell
                have qj : (j : Int) < (N : Int) := by omega
                refine wp_region_held_drew (S := fun W => W.cell? ⟨g, j, none⟩ = some (.int .u8 (bit.toNat : Int))) (by kernel_rfl) ?_ (fun hHeld => ?_)
                · (repeat' (first | trivial | assumption | refine ⟨?_, ?_⟩))
                refine wpAnyH_pick 0 (v := ?_) rfl (by kernel_rfl) (by kernel_rfl) (by kernel_rfl) (fun _ _ _ h => h) (by assumption) (by rfl) ?_ ?_
                rotate_left
                · (intro w hSw; (try dsimp only at hSw); go_simp) <;> (with_reducible rfl)
                (try simp only [Act.put, List.setIfInBounds_toArray, List.set_cons_zero, List.set_cons_succ])
                refine wpAnyH_pick 1 (v := ?_) rfl (by kernel_rfl) (by kernel_rfl) (by kernel_rfl) (fun _ _ _ h => h) (by assumption) (by rfl) ?_ ?_
                rotate_left
                · (intro w hSw; (try dsimp only at hSw); go_simp) <;> (with_reducible rfl)
                (try simp only [Act.put, List.setIfInBounds_toArray, List.set_cons_zero, List.set_cons_succ])
                refine wpAnyH_pick 2 (v := ?_) rfl (by kernel_rfl) (by kernel_rfl) (by kernel_rfl) (fun _ _ _ h => h) (by assumption) (by rfl) ?_ ?_
                rotate_left
                · (intro w hSw; (try dsimp only at hSw); go_simp) <;> (with_reducible rfl)
                (try simp only [Act.put, List.setIfInBounds_toArray, List.set_cons_zero, List.set_cons_succ])
                refine wpAnyH_pick 3 (v := ?_) rfl (by kernel_rfl) (by kernel_rfl) (by kernel_rfl) (fun _ _ _ h => h) (by assumption) (by rfl) ?_ ?_
                rotate_left
                · (intro w hSw; (try dsimp only at hSw); go_simp) <;> (with_reducible rfl)
                (try simp only [Act.put, List.setIfInBounds_toArray, List.set_cons_zero, List.set_cons_succ])
                refine wpAnyH_pick 4 (v := ?_) rfl (by kernel_rfl) (by kernel_rfl) (by kernel_rfl) (fun _ _ _ h => h) (by assumption) (by rfl) ?_ ?_
                rotate_left
                · (intro w hSw; (try dsimp only at hSw); go_simp) <;> (with_reducible rfl)
                (try simp only [Act.put, List.setIfInBounds_toArray, List.set_cons_zero, List.set_cons_succ])
                refine wpAnyH_pick 5 (v := ?_) rfl (by kernel_rfl) (by kernel_rfl) (by kernel_rfl) (fun _ _ _ h => h) (by assumption) (by rfl) ?_ ?_
                rotate_left
                · (intro w hSw; (try dsimp only at hSw); go_simp) <;> (with_reducible rfl)
                (try simp only [Act.put, List.setIfInBounds_toArray, List.set_cons_zero, List.set_cons_succ])
                refine wpAnyH_pick 6 (v := ?_) rfl (by kernel_rfl) (by kernel_rfl) (by kernel_rfl) (fun _ _ _ h => h) (by assumption) (by rfl) ?_ ?_
                rotate_left
                · (intro w hSw; (try dsimp only at hSw); go_simp) <;> (with_reducible rfl)
                (try simp only [Act.put, List.setIfInBounds_toArray, List.set_cons_zero, List.set_cons_succ])
                refine wpAnyH_pick 10 (v := ?_) rfl (by kernel_rfl) (by kernel_rfl) (by kernel_rfl) (fun _ _ _ h => h) (by assumption) (by rfl) ?_ ?_
                rotate_left
                · (intro w hSw; (try dsimp only at hSw); go_simp) <;> (with_reducible rfl)
                (try simp only [Act.put, List.setIfInBounds_toArray, List.set_cons_zero, List.set_cons_succ])
                refine wpAnyH_pick 11 (v := ?_) rfl (by kernel_rfl) (by kernel_rfl) (by kernel_rfl) (fun _ _ _ h => h) (by assumption) (by rfl) ?_ ?_
                rotate_left
                · (intro w hSw; (try dsimp only at hSw); go_simp) <;> (with_reducible rfl)
                (try simp only [Act.put, List.setIfInBounds_toArray, List.set_cons_zero, List.set_cons_succ])
                refine wpAnyH_pick 12 (v := ?_) rfl (by kernel_rfl) (by kernel_rfl) (by kernel_rfl) (fun _ _ _ h => h) (by assumption) (by rfl) ?_ ?_
                rotate_left
                · (intro w hSw; (try dsimp only at hSw); go_simp) <;> (with_reducible rfl)
                (try simp only [Act.put, List.setIfInBounds_toArray, List.set_cons_zero, List.set_cons_succ])
                refine wpAnyH_pick 13 (v := ?_) rfl (by kernel_rfl) (by kernel_rfl) (by kernel_rfl) (fun _ _ _ h => h) (by assumption) (by rfl) ?_ ?_
                rotate_left
                · (intro w hSw; (try dsimp only at hSw); go_simp) <;> (with_reducible rfl)
                (try simp only [Act.put, List.setIfInBounds_toArray, List.set_cons_zero, List.set_cons_succ])
                refine wpAnyH_ready (rs := [7]) (by kernel_rfl) (by simp) ?_
                refine AllReadyH_pick rfl (fun K hK => ?_) (AllReadyH.nil)
                go_simp
                refine HNum.out.mono ?_
                rintro r1 wN ⟨rfl, rfl⟩
                go_wp2_with fail
                refine hK.out _ _ ?_ (fun hHeld => ?_)
                · (repeat' (first | trivial | assumption | refine ⟨?_, ?_⟩))
                clear hK K
                (try simp only [Act.put, List.setIfInBounds_toArray, List.set_cons_zero, List.set_cons_succ])
                refine wpAnyH_pick 8 (v := ?_) rfl (by kernel_rfl) (by kernel_rfl) (by kernel_rfl) (fun _ _ _ h => h) (by assumption) (by rfl) ?_ ?_
                rotate_left
                · (intro w hSw; (try dsimp only at hSw); go_simp) <;> (with_reducible rfl)
                (try simp only [Act.put, List.setIfInBounds_toArray, List.set_cons_zero, List.set_cons_succ])
                refine wpAnyH_ready (rs := [9]) (by kernel_rfl) (by simp) ?_
                refine AllReadyH_pick rfl (fun K hK => ?_) (AllReadyH.nil)
                go_simp
                refine HPl.out.mono ?_
                rintro r1 wP ⟨rfl, rfl⟩
                go_wp2_with fail
                refine hK.out _ _ ?_ (fun hHeld => ?_)
                · (repeat' (first | trivial | assumption | refine ⟨?_, ?_⟩))
                clear hK K
                (try simp only [Act.put, List.setIfInBounds_toArray, List.set_cons_zero, List.set_cons_succ])
                refine wpAnyH_ready (rs := [14]) (by kernel_rfl) (by simp) ?_
                refine AllReadyH_pick rfl (fun K hK => ?_) (AllReadyH.nil)
                go_simp
                refine HPu.out.mono ?_
                rintro r1 w6 ⟨rfl, hP6⟩
                have hc6 : w6.cell? ⟨g, j, none⟩ = some (.int .u8 (bit.toNat : Int)) := Hcw.out _ _ hP6
                have HP6 := Lib.hid hP6; clear hP6
                go_wp2_with fail
                refine hK.out _ _ ?_ (fun hHeld => ?_)
                · (repeat' (first | trivial | assumption | refine ⟨?_, ?_⟩))
                clear hK K
                (try simp only [Act.put, List.setIfInBounds_toArray, List.set_cons_zero, List.set_cons_succ])
                refine wpAnyH_done (by kernel_rfl) ?_ _
                skip
                go_wp2_with fail
                exact ⟨⟨j + 1, by omega, by simp, HP6.out⟩, by simp [intOf]; omega⟩
              · have e3 : decide ((j : Int) < (x : Int) - 1) = false := by have := Hx1.out; simp; omega
                have hjN2 : j = N := by omega
                have hfin := HP.out
                rw [hjN2, List.take_of_length_le (by rw [Hdl.out]; exact Nat.le_refl _)] at hfin
                rw [HB1.out, Hf1.out] at hfin
                have hall := PenAt.join HPF5.out hfin
                rw [List.append_assoc, Hds.out, HN.out] at hall
                have HAll := Lib.hid hall
                clear hfin hall hjN2
                go_wp2_with fail
                go_ret
                exact ⟨rfl, HAll.out⟩
end Go.Proofs.Ytfjlepnodmeaaaa

/-
  Contracts of the document's book: PutSigned, PutOne.
-/
namespace Go.Proofs.Ytfjlepnodmeaaaa
open Go.RowKit

theorem rPutSigned_bad (t v : Int) (a b : Value) (w : World) (h : ¬ (0 ≤ t ∧ t ≤ 15) ∨ v < -1048576 ∨ 1048576 < v) (hv1 : -9223372036854775808 ≤ v) (hv2 : v ≤ 9223372036854775807) :
    Calls Try.prog 29 #[a, b, .int .i64 t, .int .i64 v] w fun r w' => r = .returned (.int .i64 1) ∧ w' = w := by
  by_cases h1 : v < -1048576
  · have e1 : decide (v < -1048576) = true := by simpa using h1
    go_enter Try.func29, Try.ntmps29
    go_wp2_with fail
    go_ret
    exact ⟨rfl, rfl⟩
  · have e1 : decide (v < -1048576) = false := by simpa using h1
    by_cases h2 : 1048576 < v
    · have e2 : decide (1048576 < v) = true := by simpa using h2
      go_enter Try.func29, Try.ntmps29
      go_wp2_with fail
      go_ret
      exact ⟨rfl, rfl⟩
    · have e2 : decide (1048576 < v) = false := by simpa using h2
      by_cases h3 : 0 ≤ v
      · have q1 : -v ≤ v := by omega
        have HB := Lib.hid (rPut_bad t v a b w (by omega))
        go_enter Try.func29, Try.ntmps29
        go_wp2_with fail
        refine HB.out.mono ?_
        rintro r w1 ⟨rfl, rfl⟩
        go_wp2_with fail
        go_ret
        exact ⟨rfl, rfl⟩
      · have q1 : ¬ (-v ≤ v) := by omega
        have HB := Lib.hid (rPut_bad t (-v) a b w (by omega))
        go_enter Try.func29, Try.ntmps29
        go_wp2_with fail
        refine HB.out.mono ?_
        rintro r w1 ⟨rfl, rfl⟩
        go_wp2_with fail
        go_ret
        exact ⟨rfl, rfl⟩

theorem PenAt.len {w0 W : World} {q p t : Nat} {v0 : Value} {B : Chs} {e : Enc} {l m : List Ev} (h : PenAt w0 q p t v0 B e W l) (k : m = l) : PenAt w0 q p t v0 B e W m := k ▸ h

theorem rPutSigned_ok (w : World) (q p t : Nat) (x : Int) (v : Value) (B : Chs) (e : Enc) (h : Pen w q B p v e) (ht : t < 16) (h1 : -1048576 ≤ x) (h2 : x ≤ 1048576) (he : e.n ≤ 90000) :
    Calls Try.prog 29 #[pt q, pt p, .int .i64 (t : Int), .int .i64 x] w fun r w' => r = .returned (.int .i64 0) ∧ PenAt w q p t v B e w' (sgnEvs x) := by
  have e1 : decide (x < -1048576) = false := by simp; omega
  have e2 : decide (1048576 < x) = false := by simp; omega
  have hlen := numEvs_length (v := x.natAbs) (by omega)
  have HP := rPut_ok w q p t x.natAbs v B e h ht (by omega) he
  by_cases h3 : 0 ≤ x
  · have q1 : -x ≤ x := by omega
    rw [show ((x.natAbs : Nat) : Int) = x by omega] at HP
    have HP := Lib.hid HP
    by_cases h4 : 0 < x
    · have e3 : decide (0 < x) = true := by simpa using h4
      have e4 : decide (x < 0) = false := by simp; omega
      have hs : sgnEvs x = numEvs x.natAbs ++ [(some 36, false)] := by
        unfold sgnEvs signEvs
        rw [if_neg (by omega), e4]
      have Hs := Lib.hid hs
      clear hs h
      go_enter Try.func29, Try.ntmps29
      go_wp2_with fail
      refine HP.out.mono ?_
      rintro r w1 ⟨rfl, hA⟩
      have HPut := Lib.hid (hA.put (some 36) false ht (fun j hj => by injection hj with hj; omega) (by omega))
      have hpl : plI (some 36) = 36 := rfl
      rw [hpl, show ((false.toNat : Nat) : Int) = 0 from rfl, ← Hs.out] at HPut
      clear hpl hA HP
      go_wp2_with fail
      refine HPut.out.mono ?_
      rintro r1 w2 ⟨rfl, hA2⟩
      have HA2 := Lib.hid hA2
      clear hA2 HPut
      go_wp2_with fail
      go_ret
      exact ⟨rfl, HA2.out⟩
    · have e3 : decide (0 < x) = false := by simpa using h4
      have e4 : decide (x < 0) = false := by simp; omega
      have hs : sgnEvs x = numEvs x.natAbs := by
        unfold sgnEvs signEvs
        rw [if_pos (by omega), List.append_nil]
      have Hs := Lib.hid hs
      clear hs h
      go_enter Try.func29, Try.ntmps29
      go_wp2_with fail
      refine HP.out.mono ?_
      rintro r w1 ⟨rfl, hA⟩
      have HA := Lib.hid (hA.len Hs.out)
      clear hA HP
      go_wp2_with fail
      go_ret
      exact ⟨rfl, HA.out⟩
  · have q1 : ¬ (-x ≤ x) := by omega
    rw [show ((x.natAbs : Nat) : Int) = -x by omega] at HP
    have HP := Lib.hid HP
    have e3 : decide (0 < x) = false := by simp; omega
    have e4 : decide (x < 0) = true := by simp; omega
    have hs : sgnEvs x = numEvs x.natAbs ++ [(some 36, true)] := by
      unfold sgnEvs signEvs
      rw [if_neg (by omega), e4]
    have Hs := Lib.hid hs
    clear hs h
    go_enter Try.func29, Try.ntmps29
    go_wp2_with fail
    refine HP.out.mono ?_
    rintro r w1 ⟨rfl, hA⟩
    have HPut := Lib.hid (hA.put (some 36) true ht (fun j hj => by injection hj with hj; omega) (by omega))
    have hpl : plI (some 36) = 36 := rfl
    rw [hpl, show ((true.toNat : Nat) : Int) = 1 from rfl, ← Hs.out] at HPut
    clear hpl hA HP
    go_wp2_with fail
    refine HPut.out.mono ?_
    rintro r1 w2 ⟨rfl, hA2⟩
    have HA2 := Lib.hid hA2
    clear hA2 HPut
    go_wp2_with fail
    go_ret
    exact ⟨rfl, HA2.out⟩
theorem rPutOne_bad (t n v : Int) (a b : Value) (w : World) (h : ¬ (0 ≤ t ∧ t ≤ 15) ∨ n < 1 ∨ 16 < n ∨ v < 0 ∨ n ≤ v) :
    Calls Try.prog 30 #[a, b, .int .i64 t, .int .i64 n, .int .i64 v] w fun r w' => r = .returned (.int .i64 1) ∧ w' = w := by
  have HT := rtopic_any t w
  by_cases h1 : 0 ≤ t ∧ t ≤ 15
  · rw [decide_eq_true h1] at HT
    have HT := Lib.hid HT
    by_cases h2 : n < 1
    · have e1 : decide (n < 1) = true := by simpa using h2
      go_enter Try.func30, Try.ntmps30
      go_wp2_with fail
      refine HT.out.mono ?_
      rintro r w1 ⟨rfl, rfl⟩
      go_wp2_with fail
      go_ret
      exact ⟨rfl, rfl⟩
    · have e1 : decide (n < 1) = false := by simpa using h2
      by_cases h3 : 16 < n
      · have e2 : decide (16 < n) = true := by simpa using h3
        go_enter Try.func30, Try.ntmps30
        go_wp2_with fail
        refine HT.out.mono ?_
        rintro r w1 ⟨rfl, rfl⟩
        go_wp2_with fail
        go_ret
        exact ⟨rfl, rfl⟩
      · have e2 : decide (16 < n) = false := by simpa using h3
        by_cases h4 : v < 0
        · have e3 : decide (v < 0) = true := by simpa using h4
          go_enter Try.func30, Try.ntmps30
          go_wp2_with fail
          refine HT.out.mono ?_
          rintro r w1 ⟨rfl, rfl⟩
          go_wp2_with fail
          go_ret
          exact ⟨rfl, rfl⟩
        · have e3 : decide (v < 0) = false := by simpa using h4
          have e4 : decide (n ≤ v) = true := by simp; omega
          go_enter Try.func30, Try.ntmps30
          go_wp2_with fail
          refine HT.out.mono ?_
          rintro r w1 ⟨rfl, rfl⟩
          go_wp2_with fail
          go_ret
          exact ⟨rfl, rfl⟩
  · rw [decide_eq_false h1] at HT
    have HT := Lib.hid HT
    go_enter Try.func30, Try.ntmps30
    go_wp2_with fail
    refine HT.out.mono ?_
    rintro r w1 ⟨rfl, rfl⟩
    go_wp2_with fail
    go_ret
    exact ⟨rfl, rfl⟩

set_option maxRecDepth 20000 in
set_option maxHeartbeats 4000000 in
theorem rPutOne_ok (w : World) (q p t m n : Nat) (v : Value) (B : Chs) (e : Enc) (h : Pen w q B p v e) (ht : t < 16) (hm1 : 1 ≤ m) (hm2 : m ≤ 16) (hn : n < m) (he : e.n ≤ 90000) :
    Calls Try.prog 30 #[pt q, pt p, .int .i64 (t : Int), .int .i64 (m : Int), .int .i64 (n : Int)] w fun r w' => r = .returned (.int .i64 0) ∧ PenAt w q p t v B e w' (oneEvs m n) := by
  have HT := rtopic_any t w
  rw [decide_eq_true (by omega : 0 ≤ (t : Int) ∧ (t : Int) ≤ 15)] at HT
  have HT := Lib.hid HT
  have e1 : decide ((m : Int) < 1) = false := by simp; omega
  have e2 : decide (16 < (m : Int)) = false := by simp; omega
  have e4 : decide ((n : Int) < 0) = false := by simp
  have e5 : decide (m ≤ n) = false := by simp; omega
  obtain ⟨N, hN⟩ : ∃ N, N = bitLen (m - 1) := ⟨_, rfl⟩
  have hN20 : N ≤ 4 := by rw [hN]; exact bitLen_le hm2
  have HW := rwidth_any m w (by omega) (by omega)
  rw [← hN] at HW
  have HW := Lib.hid HW
  have hDg := digits_any' n N w (by omega) (by omega)
  have HDg := Lib.hid hDg
  have HN := Lib.hid hN
  have H := Lib.hid h
  have eU : IntKind.u64.wrap (n : Int) = (n : Int) := IntWalk.u64_in _ (by omega)
  clear h hN hDg
  go_enter Try.func30, Try.ntmps30
  go_wp2_with fail
  refine HT.out.mono ?_
  rintro r w1 ⟨rfl, rfl⟩
  clear HT
  go_wp2_with fail
  refine HW.out.mono ?_
  rintro r w2 ⟨rfl, rfl⟩
  clear HW
  go_wp2_with fail
  refine HDg.out.mono ?_
  rintro r1 w5 ⟨c5, rfl, hO5, hF5⟩
  have hlq := H.out.bk.lt
  have hlp := H.out.en.1.lt
  have hlv : v.ownBlock ≠ some w2.heap.size := fun hk => by
    rcases H.out.en.2.1.form with ⟨rfl, -⟩ | ⟨g, cap, cur, rfl, hb, -⟩
    · simp [Value.ownBlock] at hk
    · have : g = w2.heap.size := by simpa [Value.ownBlock] using hk
      have := hb.lt
      omega
  obtain ⟨g, hg⟩ : ∃ g, g = w2.heap.size := ⟨_, rfl⟩
  rw [← hg] at hO5 hlv ⊢
  obtain ⟨ds, hds⟩ : ∃ ds, ds = digits n N := ⟨_, rfl⟩
  have hdl : ds.length = N := by rw [hds]; simp
  rw [← hds] at hO5
  have hP5 := H.out.fr0 hF5
  have HQ := Lib.hid (hP5.at_ (t := t))
  have HF5 : Hid (PenFr q p v v w2 w5) := Lib.hid ((PenFr.refl q p v w2).fr0 hF5)
  have HO : Hid (∀ W l, PenAt w5 q p t v B e W l → Own W 5 (.slice (some ⟨g, 0, none⟩) N c5) ((bitsU ds).map B8)) := Lib.hid fun W l hW => hW.row hO5 (by omega) (by omega) hlv
  have Hds := Lib.hid hds; have Hdl := Lib.hid hdl
  clear hlq hlp hlv hg hds hdl hP5 hO5 hF5 HDg H
  go_wp2_with fail
  go_loopw [13] (fun s13 wx => ∃ j : Nat, j ≤ N ∧ s13 = .int .i64 (j : Int) ∧ PenAt w5 q p t v B e wx (bitEvs 0 0 (ds.take j))) (fun s13 _ => 20 - (intOf s13).toNat)
  case atStart => exact ⟨0, by omega, rfl, HQ.out⟩
  case round =>
    clear HQ
    obtain ⟨j, hj, rfl, hP⟩ := hrel
    have HP := Lib.hid hP; clear hP
    by_cases hjN : j < N
    · have e3 : decide (j < N) = true := by simpa using hjN
      have hOw := HO.out _ _ HP.out
      obtain ⟨bit, hbit⟩ : ∃ bit, bit = ds.getD j false := ⟨_, rfl⟩
      have hcell : wr.cell? ⟨g, j, none⟩ = some (.int .u8 (bit.toNat : Int)) := by
        have h1 := (hOw.at_ (j := j) (by simp; rw [Hdl.out]; exact hjN)).1
        rw [h1, List.getElem?_map, bitsU_getD ds j (by rw [Hdl.out]; exact hjN), ← hbit]
        exact congrArg some (B8_u8b bit)
      obtain ⟨a, ha⟩ : ∃ a, a = number (ds.take j) := ⟨_, rfl⟩
      have halt : a < 2 ^ j := by
        have := number_lt (ds.take j)
        rw [List.length_take, Nat.min_eq_left (by rw [Hdl.out]; omega)] at this
        omega
      have ha20 : a < 1048576 := Nat.lt_of_lt_of_le halt (Nat.pow_le_pow_right (n := 2) (i := j) (j := 20) (by omega) (by omega))
      have hNum := number_any (.slice (some ⟨g, 0, none⟩) j c5) (ds.take j) wr.drew (by rw [bitsU_take, List.map_take]; exact ((hOw.src).first (by omega)).drew) (by rw [List.length_take]; omega)
      rw [← ha] at hNum
      have hPl := rplace_any j a wr.drew (by omega) (by omega)
      obtain ⟨pl, hpl⟩ : ∃ pl, pl = place j a := ⟨_, rfl⟩
      have hPu := (HP.out.fr0 (Fr.refl [] wr).drew).put pl bit ht (by rw [hpl]; exact place_lt halt) (by rw [bitEvs_length, List.length_take]; omega)
      have hsn : bitEvs 0 0 (ds.take j) ++ [(pl, bit)] = bitEvs 0 0 (ds.take (j + 1)) := by rw [bitEvs_take (by rw [Hdl.out]; exact hjN), ← ha, ← hbit, hpl]
      rw [hsn] at hPu
      rw [← hpl] at hPl
      obtain ⟨z, hz⟩ : ∃ z, z = plI pl := ⟨_, rfl⟩
      rw [← hz] at hPl hPu
      have HNum := Lib.hid hNum; have HPl := Lib.hid hPl; have HPu := Lib.hid hPu
      have eA : IntKind.i64.wrap (a : Int) = (a : Int) := IntWalk.i64_in _ (by omega)
      have qc : j ≤ c5 := by
        rcases hOw.form with ⟨h1, -⟩ | ⟨g', cap, cur, h1, -, h2, -⟩
        · cases h1
        · injection h1 with h3 h4 h5
          rw [h5]
          omega
      have hcw : ∀ W l, PenAt w5 q p t v B e W l → W.cell? ⟨g, j, none⟩ = some (.int .u8 (bit.toNat : Int)) := fun W l hW => by
        have h1 := ((HO.out W l hW).at_ (j := j) (by simp; rw [Hdl.out]; exact hjN)).1
        rw [h1, List.getElem?_map, bitsU_getD ds j (by rw [Hdl.out]; exact hjN), ← hbit]
        exact congrArg some (B8_u8b bit)
      have Hcw := Lib.hid hcw
      clear hcw
      clear hNum hPl hPu hsn hz hpl ha halt hbit hOw HP
      go_upto_region 8 with fail
      have hcell2 : wr.drew.cell? ⟨g, j, none⟩ = some (.int .u8 (bit.toNat : Int)) := hcell
      have qj : (j : Int) < (N : Int) := by omega
      refine wp_region_held_drew (S := fun W => W.cell? ⟨g, j, none⟩ = some (.int .u8 (bit.toNat : Int))) (by kernel_rfl) ?_ (fun hHeld => ?_)
      · (repeat' (first | trivial | assumption | refine ⟨?_, ?_⟩))
      refine wpAnyH_pick 0 (v := ?_) rfl (by kernel_rfl) (by kernel_rfl) (by kernel_rfl) (fun _ _ _ h => h) (by assumption) (by rfl) ?_ ?_
      rotate_left
      · (intro w hSw; (try dsimp only at hSw); go_simp) <;> (with_reducible rfl)
      (try simp only [Act.put, List.setIfInBounds_toArray, List.set_cons_zero, List.set_cons_succ])
      refine wpAnyH_pick 1 (v := ?_) rfl (by kernel_rfl) (by kernel_rfl) (by kernel_rfl) (fun _ _ _ h => h) (by assumption) (by rfl) ?_ ?_
      rotate_left
      · (intro w hSw; (try dsimp only at hSw); go_simp) <;> (with_reducible rfl)
      (try simp only [Act.put, List.setIfInBounds_toArray, List.set_cons_zero, List.set_cons_succ])
      refine wpAnyH_pick 2 (v := ?_) rfl (by kernel_rfl) (by kernel_rfl) (by kernel_rfl) (fun _ _ _ h => h) (by assumption) (by rfl) ?_ ?_
      rotate_left
      · (intro w hSw; (try dsimp only at hSw); go_simp) <;> (with_reducible rfl)
      (try simp only [Act.put, List.setIfInBounds_toArray, List.set_cons_zero, List.set_cons_succ])
      refine wpAnyH_pick 3 (v := ?_) rfl (by kernel_rfl) (by kernel_rfl) (by kernel_rfl) (fun _ _ _ h => h) (by assumption) (by rfl) ?_ ?_
      rotate_left
      · (intro w hSw; (try dsimp only at hSw); go_simp) <;> (with_reducible rfl)
      (try simp only [Act.put, List.setIfInBounds_toArray, List.set_cons_zero, List.set_cons_succ])
      refine wpAnyH_pick 4 (v := ?_) rfl (by kernel_rfl) (by kernel_rfl) (by kernel_rfl) (fun _ _ _ h => h) (by assumption) (by rfl) ?_ ?_
      rotate_left
      · (intro w hSw; (try dsimp only at hSw); go_simp) <;> (with_reducible rfl)
      (try simp only [Act.put, List.setIfInBounds_toArray, List.set_cons_zero, List.set_cons_succ])
      refine wpAnyH_pick 5 (v := ?_) rfl (by kernel_rfl) (by kernel_rfl) (by kernel_rfl) (fun _ _ _ h => h) (by assumption) (by rfl) ?_ ?_
      rotate_left
      · (intro w hSw; (try dsimp only at hSw); go_simp) <;> (with_reducible rfl)
      (try simp only [Act.put, List.setIfInBounds_toArray, List.set_cons_zero, List.set_cons_succ])
      refine wpAnyH_pick 6 (v := ?_) rfl (by kernel_rfl) (by kernel_rfl) (by kernel_rfl) (fun _ _ _ h => h) (by assumption) (by rfl) ?_ ?_
      rotate_left
      · (intro w hSw; (try dsimp only at hSw); go_simp) <;> (with_reducible rfl)
      (try simp only [Act.put, List.setIfInBounds_toArray, List.set_cons_zero, List.set_cons_succ])
      refine wpAnyH_pick 10 (v := ?_) rfl (by kernel_rfl) (by kernel_rfl) (by kernel_rfl) (fun _ _ _ h => h) (by assumption) (by rfl) ?_ ?_
      rotate_left
      · (intro w hSw; (try dsimp only at hSw); go_simp) <;> (with_reducible rfl)
      (try simp only [Act.put, List.setIfInBounds_toArray, List.set_cons_zero, List.set_cons_succ])
      refine wpAnyH_pick 11 (v := ?_) rfl (by kernel_rfl) (by kernel_rfl) (by kernel_rfl) (fun _ _ _ h => h) (by assumption) (by rfl) ?_ ?_
      rotate_left
      · (intro w hSw; (try dsimp only at hSw); go_simp) <;> (with_reducible rfl)
      (try simp only [Act.put, List.setIfInBounds_toArray, List.set_cons_zero, List.set_cons_succ])
      refine wpAnyH_pick 12 (v := ?_) rfl (by kernel_rfl) (by kernel_rfl) (by kernel_rfl) (fun _ _ _ h => h) (by assumption) (by rfl) ?_ ?_
      rotate_left
      · (intro w hSw; (try dsimp only at hSw); go_simp) <;> (with_reducible rfl)
      (try simp only [Act.put, List.setIfInBounds_toArray, List.set_cons_zero, List.set_cons_succ])
      refine wpAnyH_pick 13 (v := ?_) rfl (by kernel_rfl) (by kernel_rfl) (by kernel_rfl) (fun _ _ _ h => h) (by assumption) (by rfl) ?_ ?_
      rotate_left
      · (intro w hSw; (try dsimp only at hSw); go_simp) <;> (with_reducible rfl)
      (try simp only [Act.put, List.setIfInBounds_toArray, List.set_cons_zero, List.set_cons_succ])
      refine wpAnyH_ready (rs := [7]) (by kernel_rfl) (by simp) ?_
      refine AllReadyH_pick rfl (fun K hK => ?_) (AllReadyH.nil)
      go_simp
      refine HNum.out.mono ?_
      rintro r1 wN ⟨rfl, rfl⟩
      go_wp2_with fail
      refine hK.out _ _ ?_ (fun hHeld => ?_)
      · (repeat' (first | trivial | assumption | refine ⟨?_, ?_⟩))
      clear hK K
      (try simp only [Act.put, List.setIfInBounds_toArray, List.set_cons_zero, List.set_cons_succ])
      refine wpAnyH_pick 8 (v := ?_) rfl (by kernel_rfl) (by kernel_rfl) (by kernel_rfl) (fun _ _ _ h => h) (by assumption) (by rfl) ?_ ?_
      rotate_left
      · (intro w hSw; (try dsimp only at hSw); go_simp) <;> (with_reducible rfl)
      (try simp only [Act.put, List.setIfInBounds_toArray, List.set_cons_zero, List.set_cons_succ])
      refine wpAnyH_ready (rs := [9]) (by kernel_rfl) (by simp) ?_
      refine AllReadyH_pick rfl (fun K hK => ?_) (AllReadyH.nil)
      go_simp
      refine HPl.out.mono ?_
      rintro r1 wP ⟨rfl, rfl⟩
      go_wp2_with fail
      refine hK.out _ _ ?_ (fun hHeld => ?_)
      · (repeat' (first | trivial | assumption | refine ⟨?_, ?_⟩))
      clear hK K
      (try simp only [Act.put, List.setIfInBounds_toArray, List.set_cons_zero, List.set_cons_succ])
      refine wpAnyH_ready (rs := [14]) (by kernel_rfl) (by simp) ?_
      refine AllReadyH_pick rfl (fun K hK => ?_) (AllReadyH.nil)
      go_simp
      refine HPu.out.mono ?_
      rintro r1 w6 ⟨rfl, hP6⟩
      have hc6 : w6.cell? ⟨g, j, none⟩ = some (.int .u8 (bit.toNat : Int)) := Hcw.out _ _ hP6
      have HP6 := Lib.hid hP6; clear hP6
      go_wp2_with fail
      refine hK.out _ _ ?_ (fun hHeld => ?_)
      · (repeat' (first | trivial | assumption | refine ⟨?_, ?_⟩))
      clear hK K
      (try simp only [Act.put, List.setIfInBounds_toArray, List.set_cons_zero, List.set_cons_succ])
      refine wpAnyH_done (by kernel_rfl) ?_ _
      skip
      go_wp2_with fail
      exact ⟨⟨j + 1, by omega, by simp, HP6.out⟩, by simp [intOf]; omega⟩
    · have e3 : decide (j < N) = false := by simpa using hjN
      have hjN2 : j = N := by omega
      have hfin := HP.out
      rw [hjN2, List.take_of_length_le (by rw [Hdl.out]; exact Nat.le_refl _), Hds.out, HN.out] at hfin
      have hall := PenAt.join (l := []) HF5.out hfin
      have HAll := Lib.hid hall
      clear hfin hall hjN2
      go_wp2_with fail
      go_ret
      exact ⟨rfl, HAll.out⟩
end Go.Proofs.Ytfjlepnodmeaaaa

/-
  A book and an encoder in memory that is new since the law's beginning; what an act makes of them, out of the book's contracts; the document's likewise.
-/
namespace Go.Proofs.Ytfjlepnodmeaaaa
open Go.RowKit

/-! What an act answers, and what it makes of the chances and of the code. -/
def errOf (a : Act5) : Int := match evsOf a with | none => 1 | some _ => 0
def bkAct (a : Act5) (B : Chs) : Chs := match evsOf a with | none => B | some l => learned (topicOf a) B l
def enAct (a : Act5) (B : Chs) (e : Enc) : Enc := match evsOf a with | none => e | some l => puts e (track (topicOf a) B l)
theorem bkAct_fine {a : Act5} {B : Chs} (h : FineB B) : FineB (bkAct a B) := by
  unfold bkAct
  split
  · exact h
  · exact learned_fine _ _ h
theorem enAct_ok {a : Act5} {B : Chs} {e : Enc} (h : FineB B) (he : e.Ok) : (enAct a B e).Ok := by
  unfold enAct
  split
  · exact he
  · exact puts_ok he (track_rights _ _ h)
theorem enAct_n (a : Act5) (B : Chs) (e : Enc) : (enAct a B e).n ≤ e.n + 42 := by
  unfold enAct
  split
  · omega
  · rename_i l h
    have h1 := puts_n (track (topicOf a) B l) e
    have h2 := actEvs_length h
    rw [track_length] at h1
    omega
theorem errOf_cases (a : Act5) : (errOf a = 0 ∧ ∃ l, evsOf a = some l) ∨ (errOf a = 1 ∧ evsOf a = none ∧ ∀ B e, bkAct a B = B ∧ enAct a B e = e) := by
  unfold errOf bkAct enAct
  cases h : evsOf a with
  | none => exact .inr ⟨rfl, rfl, fun _ _ => ⟨rfl, rfl⟩⟩
  | some l => exact .inl ⟨rfl, l, rfl⟩
theorem evsOf_topic {a : Act5} {l : List Ev} (h : evsOf a = some l) : topicOf a < 16 ∧ (a.2.1 = (topicOf a : Int)) := by
  unfold evsOf actEvs at h
  unfold topicOf
  split at h
  · cases h
  · omega

/-- A book and an encoder, apart. -/
structure Quill {X : EncSpec} {Y : DecSpec} (Z : BookSpec X Y) (w0 w : World) (b : Nat) (B : Chs) (p : Nat) (D : List Nat) (e : Enc) : Prop where
  bk : Z.Bo w b B
  li : Live X w0 w p D e
  nb : w0.heap.size ≤ b
  sep : b ∉ p :: D
  fine : FineB B
section
variable {X : EncSpec} {Y : DecSpec} {Z : BookSpec X Y} {w0 w w1 w' : World} {b : Nat} {B B' : Chs} {p : Nat} {D D' : List Nat} {e e' : Enc}
theorem Quill.fr0 (h : Quill Z w0 w b B p D e) (hf : Fr [] w w') : Quill Z w0 w' b B p D e :=
  ⟨Z.fr h.bk hf (by simp), h.li.fr0 hf, h.nb, h.sep, h.fine⟩
/-- What putting an act does. -/
def QuillPost (Z : BookSpec X Y) (w0 w : World) (b : Nat) (B : Chs) (p : Nat) (D : List Nat) (e : Enc) (a : Act5) (r : Ending) (w' : World) : Prop :=
  r = .returned (.int .i64 (errOf a)) ∧ ∃ D', Quill Z w0 w' b (bkAct a B) p D' (enAct a B e) ∧ Fr (b :: p :: D) w w' ∧ (∀ k ∈ D', k ∈ D ∨ w.heap.size ≤ k) ∧ (evsOf a = none → Fr [] w w')
theorem Quill.posted {a : Act5} {r : Ending} (h : Quill Z w0 w b B p D e) (h01 : Fr [] w w1) {k n : Int} (ha : actEvs k a.2.1 n a.2.2.2 = evsOf a) (hp : PutPost Z.Bo X.En w1 b B p D e k a.2.1 n a.2.2.2 r w') : QuillPost Z w0 w b B p D e a r w' := by
  unfold PutPost at hp
  rw [ha] at hp
  unfold QuillPost errOf bkAct enAct
  cases hl : evsOf a with
  | none =>
    rw [hl] at hp
    obtain ⟨hr, hf⟩ := hp
    have hf' := h01.trans hf (by simp)
    exact ⟨hr, D, h.fr0 hf', hf'.mono (by simp), fun k hk => .inl hk, fun _ => hf'⟩
  | some l =>
    rw [hl] at hp
    obtain ⟨hr, D', hb, he, hf, hd⟩ := hp
    have hf' : Fr (b :: p :: D) w w' := (h01.mono (by simp)).trans hf (fun x hx => .inl hx)
    have hd' : ∀ k ∈ D', k ∈ D ∨ w.heap.size ≤ k := fun k hk => (hd k hk).imp id (fun h => Nat.le_trans h01.size h)
    have hbl := Z.lt h.bk
    refine ⟨hr, D', ⟨hb, ⟨he, h.li.fr.trans hf' ?_, ?_, puts_ok h.li.ok (track_rights _ _ h.fine)⟩, h.nb, ?_, learned_fine _ _ h.fine⟩, hf', hd', fun he => by cases he⟩
    · intro x hx
      rcases List.mem_cons.1 hx with rfl | hx
      · exact .inr h.nb
      · exact .inr (h.li.new x hx)
    · intro k hk
      rcases List.mem_cons.1 hk with rfl | hk
      · exact h.li.new _ (List.mem_cons_self ..)
      · rcases hd' k hk with h1 | h1
        · exact h.li.new k (List.mem_cons_of_mem _ h1)
        · exact Nat.le_trans h.li.fr.size h1
    · intro hm
      rcases List.mem_cons.1 hm with hm | hm
      · exact h.sep (by rw [hm]; exact List.mem_cons_self ..)
      · rcases hd' b hm with h1 | h1
        · exact h.sep (List.mem_cons_of_mem _ h1)
        · omega
/-- An act put by the book. -/
theorem Quill.put {a : Act5} (h : Quill Z w0 w b B p D e) (ha : InA a) (hn : e.n ≤ 50000) :
    Calls Try.prog 13 #[vAct a, pt b, pt p] w (QuillPost Z w0 w b B p D e a) := by
  obtain ⟨h1, h2, h3, h4⟩ := ha
  refine lput_any a (pt b) (pt p) w _ (fun r w' hq => ⟨_, hq.1⟩) ?_ ?_ ?_
  · intro hk w1 hf
    have hq := h.fr0 hf
    refine (Z.put w1 b B p D e a.2.1 a.2.2.2 hq.bk hq.li.en hq.sep hq.fine hq.li.ok hn h2 h4).mono fun r w' hp => h.posted hf ?_ hp
    unfold evsOf; rw [hk]; rfl
  · intro hk w1 hf
    have hq := h.fr0 hf
    refine (Z.putS w1 b B p D e a.2.1 a.2.2.2 hq.bk hq.li.en hq.sep hq.fine hq.li.ok hn h2 h4).mono fun r w' hp => h.posted hf ?_ hp
    unfold evsOf; rw [hk]; rfl
  · intro hk1 hk2 w1 hf
    have hq := h.fr0 hf
    refine (Z.putO w1 b B p D e a.2.1 a.2.2.1 a.2.2.2 hq.bk hq.li.en hq.sep hq.fine hq.li.ok hn h2 h3 h4).mono fun r w' hp => h.posted hf ?_ hp
    unfold evsOf; rw [actEvs_k3 hk1 hk2]
end

/-- An act put by the document's book. -/
def PenPost (w : World) (q m : Nat) (v : Value) (B : Chs) (e : Enc) (a : Act5) (r : Ending) (w' : World) : Prop :=
  r = .returned (.int .i64 (errOf a)) ∧ ∃ v', Pen w' q (bkAct a B) m v' (enAct a B e) ∧ PenFr q m v v' w w'
theorem PenAt.posted {w w1 w' : World} {q m : Nat} {v : Value} {B : Chs} {e : Enc} {a : Act5} {r : Ending} {l : List Ev} (hf : Fr [] w w1) (hl : evsOf a = some l) (hr : r = .returned (.int .i64 0)) (h : PenAt w1 q m (topicOf a) v B e w' l) : PenPost w q m v B e a r w' := by
  unfold PenPost errOf bkAct enAct
  rw [hl]
  obtain ⟨v', h1, h2⟩ := h
  refine ⟨hr, v', h1, (hf.mono (by simp)).trans h2.1 (fun x hx => .inl hx), ?_⟩
  rcases h2.2 with h3 | ⟨g, h3, h4⟩
  · exact .inl h3
  · exact .inr ⟨g, h3, Nat.le_trans hf.size h4⟩
theorem Pen.refused {w w1 : World} {q m : Nat} {v : Value} {B : Chs} {e : Enc} {a : Act5} {r : Ending} (h : Pen w q B m v e) (hf : Fr [] w w1) (hl : evsOf a = none) (hr : r = .returned (.int .i64 1)) : PenPost w q m v B e a r w1 := by
  unfold PenPost errOf bkAct enAct
  rw [hl]
  exact ⟨hr, v, h.fr0 hf, hf.mono (by simp), .inl rfl⟩
theorem Pen.put {w : World} {q m : Nat} {v : Value} {B : Chs} {e : Enc} {a : Act5} (h : Pen w q B m v e) (ha : InA a) (hn : e.n ≤ 50000) :
    Calls Try.prog 14 #[vAct a, pt q, pt m] w (PenPost w q m v B e a) := by
  obtain ⟨k, t, n, x⟩ := a
  obtain ⟨h1, h2, h3, h4⟩ := ha
  simp only at h1 h2 h3 h4
  refine lputRef_any (k, t, n, x) (pt q) (pt m) w _ (fun r w' hq => ⟨_, hq.1⟩) ?_ ?_ ?_
  · intro hk w1 hf
    simp only at hk ⊢
    subst hk
    by_cases hg : (0 ≤ t ∧ t ≤ 15) ∧ 0 ≤ x ∧ x ≤ 1048576
    · have hl : evsOf (1, t, n, x) = some (numEvs x.toNat) := by
        unfold evsOf actEvs
        rw [if_neg (by simp only; omega), if_pos rfl, if_pos hg.2]
      have := rPut_ok w1 q m t.toNat x.toNat v B e (h.fr0 hf) (by omega) (by omega) (by omega)
      rw [show ((t.toNat : Nat) : Int) = t by omega, show ((x.toNat : Nat) : Int) = x by omega] at this
      exact this.mono fun r w' ⟨hr, hp⟩ => hp.posted hf hl hr
    · have hl : evsOf (1, t, n, x) = none := by
        by_cases ht : t < 0 ∨ 15 < t
        · unfold evsOf actEvs; rw [if_pos ht]
        · unfold evsOf actEvs; rw [if_neg ht, if_pos rfl, if_neg (by simp only; omega)]
      refine (rPut_bad t x (pt q) (pt m) w1 (by omega)).mono ?_
      rintro r w' ⟨hr, rfl⟩
      exact h.refused hf hl hr
  · intro hk w1 hf
    simp only at hk ⊢
    subst hk
    by_cases hg : (0 ≤ t ∧ t ≤ 15) ∧ -1048576 ≤ x ∧ x ≤ 1048576
    · have hl : evsOf (2, t, n, x) = some (sgnEvs x) := by
        unfold evsOf actEvs
        rw [if_neg (by simp only; omega), if_neg (by simp only; omega), if_pos rfl, if_pos hg.2]
      have := rPutSigned_ok w1 q m t.toNat x v B e (h.fr0 hf) (by omega) (by omega) (by omega) (by omega)
      rw [show ((t.toNat : Nat) : Int) = t by omega] at this
      exact this.mono fun r w' ⟨hr, hp⟩ => hp.posted hf hl hr
    · have hl : evsOf (2, t, n, x) = none := by
        by_cases ht : t < 0 ∨ 15 < t
        · unfold evsOf actEvs; rw [if_pos ht]
        · unfold evsOf actEvs; rw [if_neg ht, if_neg (by simp only; omega), if_pos rfl, if_neg (by simp only; omega)]
      refine (rPutSigned_bad t x (pt q) (pt m) w1 (by omega) h4.1 h4.2).mono ?_
      rintro r w' ⟨hr, rfl⟩
      exact h.refused hf hl hr
  · intro hk1 hk2 w1 hf
    simp only at hk1 hk2 ⊢
    by_cases hg : (0 ≤ t ∧ t ≤ 15) ∧ 1 ≤ n ∧ n ≤ 16 ∧ 0 ≤ x ∧ x < n
    · have hl : evsOf (k, t, n, x) = some (oneEvs n.toNat x.toNat) := by
        unfold evsOf actEvs
        rw [if_neg (by simp only; omega), if_neg (by simp only; omega), if_neg (by simp only; omega), if_pos hg.2]
      have := rPutOne_ok w1 q m t.toNat n.toNat x.toNat v B e (h.fr0 hf) (by omega) (by omega) (by omega) (by omega) (by omega)
      rw [show ((t.toNat : Nat) : Int) = t by omega, show ((n.toNat : Nat) : Int) = n by omega, show ((x.toNat : Nat) : Int) = x by omega] at this
      exact this.mono fun r w' ⟨hr, hp⟩ => hp.posted hf hl hr
    · have hl : evsOf (k, t, n, x) = none := by
        by_cases ht : t < 0 ∨ 15 < t
        · unfold evsOf actEvs; rw [if_pos ht]
        · unfold evsOf actEvs; rw [if_neg ht, if_neg (by simp only; omega), if_neg (by simp only; omega), if_neg (by simp only; omega)]
      refine (rPutOne_bad t n x (pt q) (pt m) w1 (by omega)).mono ?_
      rintro r w' ⟨hr, rfl⟩
      exact h.refused hf hl hr

/-- The two books and encoders, all apart. -/
structure Duo {X : EncSpec} {Y : DecSpec} (Z : BookSpec X Y) (w0 w : World) (b : Nat) (B : Chs) (p : Nat) (D : List Nat) (e : Enc) (q m : Nat) (v : Value) : Prop where
  a : Quill Z w0 w b B p D e
  r : Pen w q B m v e
  sep : ∀ k ∈ b :: p :: D, k ≠ q ∧ k ≠ m ∧ v.ownBlock ≠ some k
  nq : w0.heap.size ≤ q
  nm : w0.heap.size ≤ m
  nv : ∀ k, v.ownBlock = some k → w0.heap.size ≤ k
section
variable {X : EncSpec} {Y : DecSpec} {Z : BookSpec X Y} {w0 w w' w2 : World} {b : Nat} {B : Chs} {p : Nat} {D : List Nat} {e : Enc} {q m : Nat} {v : Value} {a : Act5} {r : Ending}
theorem Duo.fr0 (h : Duo Z w0 w b B p D e q m v) (hf : Fr [] w w') : Duo Z w0 w' b B p D e q m v :=
  ⟨h.a.fr0 hf, h.r.fr0 hf, h.sep, h.nq, h.nm, h.nv⟩
theorem Quill.lt (h : Quill Z w0 w b B p D e) : ∀ k ∈ b :: p :: D, k < w.heap.size := by
  intro k hk
  rcases List.mem_cons.1 hk with rfl | hk
  · exact Z.lt h.bk
  · exact X.lt h.li.en k hk
theorem Quill.news (h : Quill Z w0 w b B p D e) : ∀ k ∈ b :: p :: D, w0.heap.size ≤ k := by
  intro k hk
  rcases List.mem_cons.1 hk with rfl | hk
  · exact h.nb
  · exact h.li.new k hk
theorem Quill.frS {S : List Nat} (h : Quill Z w0 w b B p D e) (hf : Fr S w w') (h1 : ∀ k ∈ b :: p :: D, k ∉ S) (h2 : ∀ x ∈ S, w0.heap.size ≤ x) : Quill Z w0 w' b B p D e :=
  ⟨Z.fr h.bk hf (h1 b (List.mem_cons_self ..)), ⟨X.fr h.li.en hf (fun k hk => h1 k (List.mem_cons_of_mem _ hk)), h.li.fr.trans hf (fun x hx => .inr (h2 x hx)), h.li.new, h.li.ok⟩, h.nb, h.sep, h.fine⟩
theorem Pen.frS {S : List Nat} (h : Pen w q B m v e) (hf : Fr S w w') (h1 : q ∉ S) (h2 : m ∉ S) (h3 : ∀ k, v.ownBlock = some k → k ∉ S) : Pen w' q B m v e :=
  ⟨h.bk.fr hf h1, h.en.fr hf h2 h3, h.qp, h.qv, h.fine, h.ok⟩
end
end Go.Proofs.Ytfjlepnodmeaaaa

/-
  Contracts of the document's book: GetSigned.
-/
namespace Go.Proofs.Ytfjlepnodmeaaaa
open Go.RowKit

theorem rGetSigned_bad (t : Int) (a b : Value) (w : World) (h : ¬ (0 ≤ t ∧ t ≤ 15)) :
    Calls Try.prog 36 #[a, b, .int .i64 t] w fun r w' => r = .returned (.tuple #[.int .i64 0, .int .i64 1]) ∧ w' = w := by
  have HG := Lib.hid (rGet_bad t a b w h)
  go_enter Try.func36, Try.ntmps36
  go_wp2_with fail
  refine HG.out.mono ?_
  rintro r w1 ⟨rfl, rfl⟩
  go_wp2_with fail
  go_ret2
  exact ⟨rfl, rfl⟩

theorem getNum_range {bs : List UInt8} {t : Nat} {B B' : Chs} {d d' : Dec} {v : Int} (h : getNum bs t B d = .ok v B' d') : 0 ≤ v ∧ v ≤ 1048576 := by
  unfold getNum at h
  split at h
  · cases h
  · split at h
    · cases h
    · split at h
      · cases h
      · rename_i hle
        injection h with h1 h2 h3
        omega

set_option maxRecDepth 20000 in
set_option maxHeartbeats 4000000 in
theorem rGetSigned_any (w : World) (q p t cc : Nat) (A : Option Addr) (bs : List UInt8) (d : Dec) (B : Chs) (h : Eye w q B p A cc bs d) (ht : t < 16) (hn : bs.length ≤ 100000) :
    Calls Try.prog 36 #[pt q, pt p, .int .i64 (t : Int)] w (GotPost q p A cc bs w (getSgn bs t B d)) := by
  have hG := rGet_any w q p t cc A bs d B h ht hn
  clear h
  unfold getSgn
  cases hN : getNum bs t B d with
  | bad e =>
    rw [hN] at hG
    simp only
    have he : e = 41 ∨ e = 51 := by
      unfold getNum at hN
      split at hN
      · injection hN with hN; exact .inl hN.symm
      · split at hN
        · injection hN with hN; exact .inl hN.symm
        · split at hN
          · injection hN with hN; exact .inr hN.symm
          · cases hN
    have HG := Lib.hid hG
    clear hG hN
    rcases he with rfl | rfl
    all_goals
      go_enter Try.func36, Try.ntmps36
      go_wp2_with fail
      refine HG.out.mono ?_
      rintro r w1 ⟨rfl, hF⟩
      have HF := Lib.hid hF
      clear hF HG
      go_wp2_with fail
      go_ret2
      exact ⟨rfl, HF.out⟩
  | ok v B1 d1 =>
    have hv := getNum_range hN
    rw [hN] at hG
    have HG := Lib.hid hG
    clear hG hN
    simp only
    by_cases h0 : v = 0
    · subst h0
      unfold getSign
      rw [if_pos rfl]
      go_enter Try.func36, Try.ntmps36
      go_wp2_with fail
      refine HG.out.mono ?_
      rintro r w1 ⟨rfl, hE, hF⟩
      have HF := Lib.hid hF; have HE := Lib.hid hE
      clear hF hE HG
      go_wp2_with fail
      go_ret2
      exact ⟨rfl, HE.out, HF.out⟩
    · have e0 : (v == 0) = false := by simpa using h0
      obtain ⟨g, hg⟩ : ∃ g, g = getSign bs t v B1 d1 := ⟨_, rfl⟩
      rw [← hg]
      unfold getSign at hg
      rw [if_neg h0] at hg
      have Hg := Lib.hid hg
      clear hg h0
      go_enter Try.func36, Try.ntmps36
      go_wp2_with fail
      refine HG.out.mono ?_
      rintro r w1 ⟨rfl, hE, hF⟩
      have hb := rgetB_any w1 q p t cc A bs d1 B1 (some 36) hE ht (fun j hj => by injection hj with hj; omega) hn
      rw [show plI (some 36) = 36 from rfl] at hb
      have HB := Lib.hid hb; have HF := Lib.hid hF
      clear hb hE hF HG
      go_wp2_with fail
      refine HB.out.mono ?_
      rintro r1 w2 (⟨bit, B2, d2, hge, rfl, hE2, hF2⟩ | ⟨hge, rfl, hF2⟩)
      · have HF2 := Lib.hid (HF.out.trans hF2 (by simp)); have HE2 := Lib.hid hE2
        have hgg : g = .ok (if bit then -v else v) B2 d2 := by rw [Hg.out, hge]
        cases bit with
        | true =>
          have Hgg := Lib.hid hgg
          clear hge hE2 hF2 hgg HB
          go_wp2_with fail
          go_ret2
          rw [Hgg.out]
          exact ⟨rfl, HE2.out, HF2.out⟩
        | false =>
          have Hgg := Lib.hid hgg
          clear hge hE2 hF2 hgg HB
          go_wp2_with fail
          go_ret2
          rw [Hgg.out]
          exact ⟨rfl, HE2.out, HF2.out⟩
      · have HF2 := Lib.hid (HF.out.trans hF2 (by simp))
        have hgg : g = .bad 41 := by rw [Hg.out, hge]
        have Hgg := Lib.hid hgg
        clear hge hF2 hgg HB
        go_wp2_with fail
        go_ret2
        rw [Hgg.out]
        exact ⟨rfl, HF2.out⟩
end Go.Proofs.Ytfjlepnodmeaaaa

/-
  A book and a decoder in memory that is new since the law's beginning; what getting an act makes of them, out of the book's contracts; the document's likewise.
-/
namespace Go.Proofs.Ytfjlepnodmeaaaa
open Go.RowKit

/-! What getting keeps. -/
structure Okd (bs : List UInt8) (B : Chs) (d : Dec) : Prop where
  fine : FineB B
  lo : 16777216 ≤ d.r
  hi : d.r ≤ 4294967295
  at_ : d.i ≤ bs.length
  rest : d.rest < 4294967296
section
variable {bs : List UInt8} {t : Nat} {B B' : Chs} {d d' : Dec}
theorem getEv_keeps {i : Option Nat} {b : Bool} (h : getEv bs t B d i = some (b, B', d')) (k : Okd bs B d) : Okd bs B' d' := by
  unfold getEv at h
  split at h
  · cases h
  · rename_i b1 d1 hg
    injection h with h
    injection h with h1 h
    injection h with h2 h3
    subst h1 h2 h3
    obtain ⟨k1, k2, k3⟩ := got_keeps hg (chOf_right k.fine t i) k.lo k.hi k.at_
    have k4 := got_rest hg
    exact ⟨learn_fine k.fine t i b1, k1, k2, k3, by omega⟩
theorem getLen_keeps : ∀ (k n : Nat) {n' : Nat} {B : Chs} {d : Dec}, getLen bs t k n B d = some (n', B', d') → Okd bs B d → Okd bs B' d'
  | 0, n, n', B, d, h, hk => by
    unfold getLen at h
    injection h with h
    injection h with h1 h
    injection h with h2 h3
    subst h2 h3
    exact hk
  | k + 1, n, n', B, d, h, hk => by
    unfold getLen at h
    split at h
    · cases h
    · rename_i b1 B1 d1 hg
      have hk1 := getEv_keeps hg hk
      split at h
      · exact getLen_keeps k (n + 1) h hk1
      · injection h with h
        injection h with h1 h
        injection h with h2 h3
        subst h2 h3
        exact hk1
theorem getBits_keeps : ∀ (k i a : Nat) {a' : Nat} {B : Chs} {d : Dec}, getBits bs t k i a B d = some (a', B', d') → Okd bs B d → Okd bs B' d'
  | 0, i, a, a', B, d, h, hk => by
    unfold getBits at h
    injection h with h
    injection h with h1 h
    injection h with h2 h3
    subst h2 h3
    exact hk
  | k + 1, i, a, a', B, d, h, hk => by
    unfold getBits at h
    split at h
    · cases h
    · rename_i b1 B1 d1 hg
      exact getBits_keeps k (i + 1) _ h (getEv_keeps hg hk)
def Got.Fine (bs : List UInt8) : Got → Prop
  | .bad e => e = 41 ∨ e = 51
  | .ok _ B d => Okd bs B d
theorem getNum_keeps (k : Okd bs B d) : (getNum bs t B d).Fine bs := by
  unfold getNum
  split
  · exact .inl rfl
  · rename_i n B1 d1 h1
    have k1 := getLen_keeps _ _ h1 k
    split
    · exact .inl rfl
    · rename_i a B2 d2 h2
      have k2 := getBits_keeps _ _ _ h2 k1
      split
      · exact .inr rfl
      · exact k2
theorem getSgn_keeps (k : Okd bs B d) : (getSgn bs t B d).Fine bs := by
  have h := getNum_keeps (t := t) k
  unfold getSgn
  split
  · rename_i e he
    rw [he] at h
    exact h
  · rename_i v B1 d1 he
    rw [he] at h
    have k1 : Okd bs B1 d1 := h
    unfold getSign
    split
    · exact k1
    · split
      · exact .inl rfl
      · rename_i b B2 d2 hg
        exact getEv_keeps hg k1
theorem getOne_keeps {n : Nat} (k : Okd bs B d) : (getOne bs t n B d).Fine bs := by
  unfold getOne
  split
  · exact .inl rfl
  · rename_i a B2 d2 h2
    have k2 := getBits_keeps _ _ _ h2 k
    split
    · exact .inr rfl
    · exact k2
theorem gotOf_keeps {a : Act5} (k : Okd bs B d) : (gotOf bs a B d = .bad 1 ∧ ∀ B d, gotOf bs a B d = .bad 1) ∨ (gotOf bs a B d).Fine bs := by
  unfold gotOf getAct
  by_cases h1 : a.2.1 < 0 ∨ 15 < a.2.1
  · simp only [if_pos h1]
    exact .inl ⟨trivial, fun _ _ => trivial⟩
  · by_cases h2 : a.1 = 1
    · simp only [if_neg h1, if_pos h2]
      exact .inr (getNum_keeps k)
    · by_cases h3 : a.1 = 2
      · simp only [if_neg h1, if_neg h2, if_pos h3]
        exact .inr (getSgn_keeps k)
      · by_cases h4 : a.2.2.1 < 1 ∨ 16 < a.2.2.1
        · simp only [if_neg h1, if_neg h2, if_neg h3, if_pos h4]
          exact .inl ⟨trivial, fun _ _ => trivial⟩
        · simp only [if_neg h1, if_neg h2, if_neg h3, if_neg h4]
          exact .inr (getOne_keeps k)
end

/-- A book and a decoder, apart. -/
structure Lens {X : EncSpec} {Y : DecSpec} (Z : BookSpec X Y) (w0 w : World) (b : Nat) (B : Chs) (y : Nat) (K : List Nat) (bs : List UInt8) (d : Dec) : Prop where
  bk : Z.Bo w b B
  de : Y.De w y K bs d
  fr : Fr [] w0 w
  nb : w0.heap.size ≤ b
  ny : w0.heap.size ≤ y
  sep : b ∉ y :: K
  ok : Okd bs B d
  len : bs.length ≤ 100000
section
variable {X : EncSpec} {Y : DecSpec} {Z : BookSpec X Y} {w0 w w1 w' : World} {b : Nat} {B B' : Chs} {y : Nat} {K : List Nat} {bs : List UInt8} {d d' : Dec} {a : Act5} {r : Ending}
theorem Lens.fr0 (h : Lens Z w0 w b B y K bs d) (hf : Fr [] w w') : Lens Z w0 w' b B y K bs d :=
  ⟨Z.fr h.bk hf (by simp), Y.fr h.de hf (by simp), h.fr.trans hf (by simp), h.nb, h.ny, h.sep, h.ok, h.len⟩
/-- What getting an act answers, and does. -/
def LensPost (Z : BookSpec X Y) (w0 w : World) (b : Nat) (y : Nat) (K : List Nat) (bs : List UInt8) (g : Got) (r : Ending) (w' : World) : Prop :=
  match g with
  | .bad e => r = .returned (.tuple #[.int .i64 0, .int .i64 e]) ∧ Fr [b, y] w w' ∧ (e = 1 → Fr [] w w')
  | .ok v B d => r = .returned (.tuple #[.int .i64 v, .int .i64 0]) ∧ Lens Z w0 w' b B y K bs d ∧ Fr [b, y] w w'
theorem LensPost.shape {g : Got} (h : LensPost Z w0 w b y K bs g r w') : ∃ z y : Int, r = .returned (.tuple #[.int .i64 z, .int .i64 y]) := by
  cases g with
  | bad e => exact ⟨_, _, h.1⟩
  | ok v B d => exact ⟨_, _, h.1⟩
theorem Lens.posted (h : Lens Z w0 w b B y K bs d) (h01 : Fr [] w w1) {g : Got} (hg : g = gotOf bs a B d) (hp : GetPost Z.Bo Y.De w1 b y K bs g r w') : LensPost Z w0 w b y K bs (gotOf bs a B d) r w' := by
  subst hg
  have hk := gotOf_keeps (a := a) h.ok
  unfold GetPost at hp
  unfold LensPost
  cases hg : gotOf bs a B d with
  | bad e =>
    rw [hg] at hp
    obtain ⟨hr, hf, h1⟩ := hp
    exact ⟨hr, (h01.mono (by simp)).trans hf (fun x hx => .inl hx), fun he => h01.trans (h1 he) (by simp)⟩
  | ok v B' d' =>
    rw [hg] at hp hk
    obtain ⟨hr, hb, hd, hf⟩ := hp
    rcases hk with ⟨hk, -⟩ | hk
    · cases hk
    · have hf' : Fr [b, y] w w' := (h01.mono (by simp)).trans hf (fun x hx => .inl hx)
      refine ⟨hr, ⟨hb, hd, h.fr.trans hf' (fun x hx => .inr ?_), h.nb, h.ny, h.sep, hk, h.len⟩, hf'⟩
      simp at hx
      rcases hx with rfl | rfl
      · exact h.nb
      · exact h.ny
/-- An act got by the book. -/
theorem Lens.get (h : Lens Z w0 w b B y K bs d) (ha : InA a) :
    Calls Try.prog 20 #[vAct a, pt b, pt y] w (LensPost Z w0 w b y K bs (gotOf bs a B d)) := by
  obtain ⟨h1, h2, h3, h4⟩ := ha
  refine lget_any a (pt b) (pt y) w _ (fun r w' hq => hq.shape) ?_ ?_ ?_
  · intro hk w1 hf
    have hq := h.fr0 hf
    refine (Z.get w1 b B y K bs d a.2.1 hq.bk hq.de hq.sep hq.ok.fine hq.ok.rest hq.ok.lo hq.ok.hi hq.ok.at_ hq.len h2).mono fun r w' hp => h.posted hf ?_ hp
    unfold gotOf; rw [hk]; rfl
  · intro hk w1 hf
    have hq := h.fr0 hf
    refine (Z.getS w1 b B y K bs d a.2.1 hq.bk hq.de hq.sep hq.ok.fine hq.ok.rest hq.ok.lo hq.ok.hi hq.ok.at_ hq.len h2).mono fun r w' hp => h.posted hf ?_ hp
    unfold gotOf; rw [hk]; rfl
  · intro hk1 hk2 w1 hf
    have hq := h.fr0 hf
    refine (Z.getO w1 b B y K bs d a.2.1 a.2.2.1 hq.bk hq.de hq.sep hq.ok.fine hq.ok.rest hq.ok.lo hq.ok.hi hq.ok.at_ hq.len h2 h3).mono fun r w' hp => h.posted hf ?_ hp
    unfold gotOf; rw [getAct_k3 hk1 hk2]
end

/-- An act got by the document's book. -/
def EyePost (q p : Nat) (A : Option Addr) (cc : Nat) (bs : List UInt8) (w : World) (g : Got) (r : Ending) (w' : World) : Prop :=
  match g with
  | .bad e => r = .returned (.tuple #[.int .i64 0, .int .i64 e]) ∧ Fr [q, p] w w' ∧ (e = 1 → Fr [] w w')
  | .ok v B d => r = .returned (.tuple #[.int .i64 v, .int .i64 0]) ∧ Eye w' q B p A cc bs d ∧ Fr [q, p] w w'
section
variable {w w1 w' : World} {q p cc : Nat} {A : Option Addr} {B : Chs} {bs : List UInt8} {d : Dec} {a : Act5} {r : Ending} {g : Got}
theorem EyePost.shape (h : EyePost q p A cc bs w g r w') : ∃ z y : Int, r = .returned (.tuple #[.int .i64 z, .int .i64 y]) := by
  cases g with
  | bad e => exact ⟨_, _, h.1⟩
  | ok v B d => exact ⟨_, _, h.1⟩
theorem GotPost.eye (hf : Fr [] w w1) (hg : g.Fine bs) (h : GotPost q p A cc bs w1 g r w') : EyePost q p A cc bs w g r w' := by
  cases g with
  | bad e =>
    obtain ⟨hr, h1⟩ := h
    refine ⟨hr, (hf.mono (by simp)).trans h1 (fun x hx => .inl hx), fun he => ?_⟩
    rcases hg with hg | hg <;> omega
  | ok v B d =>
    obtain ⟨hr, h1, h2⟩ := h
    exact ⟨hr, h1, (hf.mono (by simp)).trans h2 (fun x hx => .inl hx)⟩
theorem Eye.get (h : Eye w q B p A cc bs d) (ho : Okd bs B d) (hn : bs.length ≤ 100000) :
    Calls Try.prog 21 #[vAct a, pt q, pt p] w (EyePost q p A cc bs w (gotOf bs a B d)) := by
  obtain ⟨k, t, n, x⟩ := a
  refine lgetRef_any (k, t, n, x) (pt q) (pt p) w _ (fun r w' hq => hq.shape) ?_ ?_ ?_
  · intro hk w1 hf
    simp only at hk ⊢
    subst hk
    by_cases ht : t < 0 ∨ 15 < t
    · refine (rGet_bad t (pt q) (pt p) w1 (by omega)).mono ?_
      rintro r w' ⟨hr, rfl⟩
      unfold gotOf getAct
      rw [if_pos ht]
      exact ⟨hr, hf.mono (by simp), fun _ => hf⟩
    · have := rGet_any w1 q p t.toNat cc A bs d B (h.fr0 hf) (by omega) hn
      rw [show ((t.toNat : Nat) : Int) = t by omega] at this
      refine this.mono fun r w' hp => ?_
      unfold gotOf getAct
      rw [if_neg ht, if_pos rfl]
      exact hp.eye hf (getNum_keeps ho)
  · intro hk w1 hf
    simp only at hk ⊢
    subst hk
    by_cases ht : t < 0 ∨ 15 < t
    · refine (rGetSigned_bad t (pt q) (pt p) w1 (by omega)).mono ?_
      rintro r w' ⟨hr, rfl⟩
      unfold gotOf getAct
      rw [if_pos ht]
      exact ⟨hr, hf.mono (by simp), fun _ => hf⟩
    · have := rGetSigned_any w1 q p t.toNat cc A bs d B (h.fr0 hf) (by omega) hn
      rw [show ((t.toNat : Nat) : Int) = t by omega] at this
      refine this.mono fun r w' hp => ?_
      unfold gotOf getAct
      rw [if_neg ht, if_neg (by simp only; omega), if_pos rfl]
      exact hp.eye hf (getSgn_keeps ho)
  · intro hk1 hk2 w1 hf
    simp only at hk1 hk2 ⊢
    by_cases ht : t < 0 ∨ 15 < t
    · refine (rGetOne_bad t n (pt q) (pt p) w1 (by omega)).mono ?_
      rintro r w' ⟨hr, rfl⟩
      unfold gotOf getAct
      rw [if_pos ht]
      exact ⟨hr, hf.mono (by simp), fun _ => hf⟩
    · by_cases hn2 : n < 1 ∨ 16 < n
      · refine (rGetOne_bad t n (pt q) (pt p) w1 (by omega)).mono ?_
        rintro r w' ⟨hr, rfl⟩
        unfold gotOf getAct
        rw [if_neg ht, if_neg hk1, if_neg hk2, if_pos hn2]
        exact ⟨hr, hf.mono (by simp), fun _ => hf⟩
      · have := rGetOne_any w1 q p t.toNat n.toNat cc A bs d B (h.fr0 hf) (by omega) (by omega) (by omega) hn
        rw [show ((t.toNat : Nat) : Int) = t by omega, show ((n.toNat : Nat) : Int) = n by omega] at this
        refine this.mono fun r w' hp => ?_
        unfold gotOf getAct
        rw [if_neg ht, if_neg hk1, if_neg hk2, if_neg hn2]
        exact hp.eye hf (getOne_keeps ho)
end
end Go.Proofs.Ytfjlepnodmeaaaa

/-
  The live question of layer 5, out of the contracts.
-/
namespace Go.Proofs.Ytfjlepnodmeaaaa
open Go.RowKit

/-! Its numbers. -/
def lb1 : Chs := learned 3 newBook (sgnEvs (-70))
def le1 : Enc := puts encNew (track 3 newBook (sgnEvs (-70)))
def lb2 : Chs := learned 3 lb1 (oneEvs 5 4)
def le2 : Enc := puts le1 (track 3 lb1 (oneEvs 5 4))
def lbs : List UInt8 := bytesOf le2.n le2.v
theorem live5_fine : FineB lb1 ∧ FineB lb2 ∧ le1.Ok ∧ le2.Ok := by
  have h1 : FineB lb1 := learned_fine _ _ newBook_fine
  have h2 : le1.Ok := puts_ok encNew_ok (track_rights _ _ newBook_fine)
  exact ⟨h1, learned_fine _ _ h1, h2, puts_ok h2 (track_rights _ _ h1)⟩
theorem live5_evs : actEvs 2 3 0 (-70) = some (sgnEvs (-70)) ∧ actEvs 3 3 5 4 = some (oneEvs 5 4) := by
  constructor <;> rfl
theorem live5_n : le1.n ≤ 60 ∧ le2.n ≤ 120 ∧ 4 ≤ le2.n := by
  have h1 := puts_n (track 3 newBook (sgnEvs (-70))) encNew
  have h2 := puts_n (track 3 lb1 (oneEvs 5 4)) le1
  have h3 := actEvs_length live5_evs.1
  have h4 := actEvs_length live5_evs.2
  have h5 := puts_le (track 3 newBook (sgnEvs (-70))) encNew
  have h6 := puts_le (track 3 lb1 (oneEvs 5 4)) le1
  rw [track_length] at h1 h2
  change le1.n ≤ 4 + _ at h1
  change le2.n ≤ _ at h2
  change 4 ≤ le1.n at h5
  change le1.n ≤ le2.n at h6
  omega
theorem live5_same : sameB lb2 lb2 = true ∧ sameB lb2 newBook = false := ⟨sameB_refl _, sameB_false (j := 147) (by omega) (by decide +kernel)⟩
theorem live5_got : ∃ d1 d2, getAct lbs 2 3 0 newBook (decOpen lbs) = .ok (-70) lb1 d1 ∧ getAct lbs 3 3 5 lb1 d1 = .ok 4 lb2 d2 ∧ d2.i = lbs.length ∧ d2.rest = 0 := by
  obtain ⟨f1, f2, f3, f4⟩ := live5_fine
  have h0 : Ahd [] lbs (decOpen lbs) (track 3 newBook (sgnEvs (-70)) ++ (track 3 lb1 (oneEvs 5 4) ++ [])) := by
    have := ahd_open (L := track 3 newBook (sgnEvs (-70)) ++ (track 3 lb1 (oneEvs 5 4) ++ [])) (fun x hx => by
      rcases List.mem_append.1 hx with hx | hx
      · exact track_rights 3 _ newBook_fine x hx
      · exact track_rights 3 _ f1 x (by simpa using hx)) []
    rw [List.append_nil (bytesOf _ _)] at this
    have e : puts encNew (track 3 newBook (sgnEvs (-70)) ++ (track 3 lb1 (oneEvs 5 4) ++ [])) = le2 := by
      rw [puts_append, List.append_nil]
      rfl
    rw [e] at this
    exact this
  obtain ⟨d1, g1, h1⟩ := Ahd.act (t := 3) live5_evs.1 newBook (decOpen lbs) h0
  obtain ⟨d2, g2, h2⟩ := Ahd.act (t := 3) live5_evs.2 lb1 d1 h1
  exact ⟨d1, d2, g1, g2, h2.done.1, h2.done.2⟩

theorem in3 : InI 3 ∧ InI 5 ∧ InI 4 ∧ InI (-70) := by unfold InI; omega

theorem bytes_live2 {X : EncSpec} {w0 : World} (W : World) (p : Nat) (D : List Nat) (e : Enc) (h : Live X w0 W p D e) (hn : e.n ≤ 100000) :
    Calls Try.prog 16 #[pt p] W fun r W' => ∃ A c, r = .returned (.slice A e.n c) ∧ Src W' (.slice A e.n c) ((bytesOf e.n e.v).map B8) ∧ Live X w0 W' p D e ∧ Fr [] W W' ∧ ∀ ad, A = some ad → ad.block ∈ D ∨ W.heap.size ≤ ad.block :=
  (X.bytes W p D e h.en h.ok hn).mono fun r W' ⟨u, hr, hS, hF, hb⟩ => by
    obtain ⟨A, c, rfl⟩ := hS.slice
    rw [bytesOf_length] at hS hr
    exact ⟨A, c, hr, hS, h.fr0 hF, hF, fun ad had => hb ad.block (by rw [had]; rfl)⟩

set_option maxRecDepth 20000 in
set_option maxHeartbeats 4000000 in
theorem alive5_any {X : EncSpec} {Y : DecSpec} (Z : BookSpec X Y) (w : World) :
    Calls Try.prog 15 #[] w fun e w' => e = .returned (.bool true) ∧ Fr [] w w' := by
  obtain ⟨f1, f2, f3, f4⟩ := live5_fine
  obtain ⟨i3, i5, i4, i70⟩ := in3
  obtain ⟨n1, n2, n4⟩ := live5_n
  have Hf := Lib.hid (And.intro f1 (And.intro f2 (And.intro f3 f4)))
  have Hn := Lib.hid (And.intro n1 (And.intro n2 n4))
  clear f1 f2 f3 f4 n1 n2 n4
  go_enter Try.func15, Try.ntmps15
  go_wp2_with fail
  refine (Z.new w).mono ?_
  rintro e w1 ⟨b, rfl, hb1, hF1, nb⟩
  have HB1 := Lib.hid hb1; have HF1 := Lib.hid hF1; have NB := Lib.hid nb
  clear hb1 hF1 nb
  go_wp2_with fail
  refine (Z.new w1).mono ?_
  rintro e w2 ⟨c, rfl, hc2, hF2, nc⟩
  have hb2 := Z.fr HB1.out hF2 (by simp)
  have hbc : b < c := Nat.lt_of_lt_of_le (Z.lt HB1.out) nc
  have HB2 := Lib.hid hb2; have HC2 := Lib.hid hc2; have HF2 := Lib.hid (HF1.out.trans hF2 (by simp)); have Hbc := Lib.hid hbc
  clear hb2 hc2 hF2 nc hbc HB1 HF1
  go_wp2_with fail
  refine (new_live (X := X) w2 HF2.out).mono ?_
  rintro e w3 ⟨p, D, rfl, hL, hF3, np⟩
  have hlb := Z.lt HB2.out
  have hlc := Z.lt HC2.out
  have hq : Quill Z w w3 b newBook p D encNew := by
    refine ⟨Z.fr HB2.out hF3 (by simp), hL, NB.out, fun hm => ?_, newBook_fine⟩
    have := np b hm
    omega
  have hc3 := Z.fr HC2.out hF3 (by simp)
  have hcs : c ∉ b :: p :: D := by
    intro hm
    rcases List.mem_cons.1 hm with rfl | hm
    · have := Hbc.out; omega
    · have := np c hm
      omega
  have HQ := Lib.hid hq; have HC3 := Lib.hid hc3; have HCS := Lib.hid hcs
  clear hL hF3 np hlb hlc hq hc3 hcs HB2 HC2 HF2
  go_wp2_with fail
  refine (Z.putS w3 b newBook p D encNew 3 (-70) HQ.out.bk HQ.out.li.en HQ.out.sep HQ.out.fine HQ.out.li.ok (by decide) i3 i70).mono ?_
  rintro e w4 hp
  have hp : e = .returned (.int .i64 0) ∧ ∃ D', Quill Z w w4 b lb1 p D' le1 ∧ c ∉ b :: p :: D' ∧ Z.Bo w4 c newBook := by
    have h1 := HQ.out.posted (a := (2, 3, 0, -70)) (Fr.refl [] _) rfl hp
    obtain ⟨hr, D', hq, hf, hd, -⟩ := h1
    refine ⟨hr, D', hq, fun hm => ?_, Z.fr HC3.out hf HCS.out⟩
    rcases List.mem_cons.1 hm with hm | hm
    · exact HCS.out (by rw [hm]; exact List.mem_cons_self ..)
    · rcases List.mem_cons.1 hm with hm | hm
      · exact HCS.out (by rw [hm]; exact List.mem_cons_of_mem _ (List.mem_cons_self ..))
      · rcases hd c hm with h2 | h2
        · exact HCS.out (List.mem_cons_of_mem _ (List.mem_cons_of_mem _ h2))
        · have := Z.lt HC3.out; omega
  obtain ⟨rfl, D4, hq4, hcs4, hc4⟩ := hp
  have HQ4 := Lib.hid hq4; have HCS4 := Lib.hid hcs4; have HC4 := Lib.hid hc4
  clear hq4 hcs4 hc4 HQ HC3 HCS
  go_wp2_with fail
  refine (Z.putO w4 b lb1 p D4 le1 3 5 4 HQ4.out.bk HQ4.out.li.en HQ4.out.sep HQ4.out.fine HQ4.out.li.ok (by have := Hn.out.1; omega) i3 i5 i4).mono ?_
  rintro e w5 hp
  have hp : e = .returned (.int .i64 0) ∧ ∃ D', Quill Z w w5 b lb2 p D' le2 ∧ c ∉ b :: p :: D' ∧ Z.Bo w5 c newBook := by
    have h1 := HQ4.out.posted (a := (3, 3, 5, 4)) (Fr.refl [] _) rfl hp
    obtain ⟨hr, D', hq, hf, hd, -⟩ := h1
    refine ⟨hr, D', hq, fun hm => ?_, Z.fr HC4.out hf HCS4.out⟩
    rcases List.mem_cons.1 hm with hm | hm
    · exact HCS4.out (by rw [hm]; exact List.mem_cons_self ..)
    · rcases List.mem_cons.1 hm with hm | hm
      · exact HCS4.out (by rw [hm]; exact List.mem_cons_of_mem _ (List.mem_cons_self ..))
      · rcases hd c hm with h2 | h2
        · exact HCS4.out (List.mem_cons_of_mem _ (List.mem_cons_of_mem _ h2))
        · have := Z.lt HC4.out; omega
  obtain ⟨rfl, D5, hq5, hcs5, hc5⟩ := hp
  have HQ5 := Lib.hid hq5; have HC5 := Lib.hid hc5
  have hne : b ≠ c := fun h => hcs5 (by rw [h]; exact List.mem_cons_self ..)
  have hsD : b ∉ D5 ∧ c ∉ D5 := ⟨fun h => HQ5.out.sep (List.mem_cons_of_mem _ h), fun h => hcs5 (List.mem_cons_of_mem _ (List.mem_cons_of_mem _ h))⟩
  have HsD := Lib.hid hsD
  have Hne := Lib.hid hne
  have HBy : Hid (∀ W, Live X w W p D5 le2 → Calls Try.prog 16 #[pt p] W fun r W' => ∃ A c, r = .returned (.slice A lbs.length c) ∧ Src W' (.slice A lbs.length c) (lbs.map B8) ∧ Live X w W' p D5 le2 ∧ Fr [] W W' ∧ ∀ ad, A = some ad → ad.block ∈ D5 ∨ W.heap.size ≤ ad.block) := Lib.hid fun W hW => by
    have h := bytes_live2 W p D5 le2 hW (by have := Hn.out.2.1; omega)
    rw [show le2.n = lbs.length by unfold lbs; simp] at h
    exact h
  clear hq5 hcs5 hc5 hne hsD HQ4 HC4 HCS4
  obtain ⟨n, hnn⟩ : ∃ n, n = lbs.length := ⟨_, rfl⟩
  rw [← hnn] at HBy
  have Hnn := Lib.hid hnn
  clear hnn
  go_wp2_with fail
  refine (HBy.out _ HQ5.out.li).mono ?_
  rintro e w6 ⟨A, cc, rfl, hS, hL, hF6, hAb⟩
  have hq6 := HQ5.out.fr0 hF6
  have hc6 := Z.fr HC5.out hF6 (by simp)
  have hAs : ∀ ad, A = some ad → ad.block ≠ b ∧ ad.block ≠ c := by
    intro ad had
    have lb := Z.lt HQ5.out.bk
    have lc := Z.lt HC5.out
    rcases hAb ad had with h | h
    · exact ⟨fun e => HsD.out.1 (e ▸ h), fun e => HsD.out.2 (e ▸ h)⟩
    · omega
  have hlen : 4 ≤ lbs.length ∧ lbs.length ≤ 120 := by
    have := Hn.out
    unfold lbs
    simp
    omega
  have hO := Y.opens w6 A cc lbs (by rw [← Hnn.out]; exact hS) hlen.1 (by omega)
  rw [← Hnn.out] at hO
  have HO := Lib.hid hO; have HQ6 := Lib.hid hq6; have HC6 := Lib.hid hc6; have Hlen := Lib.hid hlen; have HAs := Lib.hid hAs
  clear hS hL hF6 hq6 hc6 hlen hO HQ5 HC5 HBy hAb hAs HsD
  go_wp2_with fail
  refine HO.out.mono ?_
  rintro e w7 ⟨y, K, rfl, hY, hF7, hy, hyK, hK⟩
  have lb := Z.lt HQ6.out.bk
  have lc := Z.lt HC6.out
  have hcy : c ∉ y :: K ∧ b ∉ y :: K := by
    have h1 : ∀ z, z < w6.heap.size → (∀ ad, A = some ad → ad.block ≠ z) → z ∉ y :: K := by
      intro z hz hzA hm
      rcases List.mem_cons.1 hm with rfl | hm
      · omega
      · rcases hK z hm with h | ⟨ad, had, h⟩
        · omega
        · exact hzA ad had h
    exact ⟨h1 c lc fun ad had => (HAs.out ad had).2, h1 b lb fun ad had => (HAs.out ad had).1⟩
  obtain ⟨d1, d2, hg1, hg2, hi2, hr2⟩ := live5_got
  have hok : Okd lbs newBook (decOpen lbs) := by
    refine ⟨newBook_fine, by decide, by decide, Hlen.out.1, ?_⟩
    have h1 := valueOf_lt (lbs.take 4)
    have h2 : (lbs.take 4).length ≤ 4 := by simp; omega
    have h3 : 256 ^ (lbs.take 4).length ≤ 256 ^ 4 := Nat.pow_le_pow_right (by omega) h2
    show valueOf (lbs.take 4) < _
    omega
  have hl7 : Lens Z w w7 c newBook y K lbs (decOpen lbs) :=
    ⟨Z.fr HC6.out hF7 (by simp), hY, HQ6.out.li.fr.trans hF7 (by simp), by have := HQ6.out.nb; have := NB.out; have := Hbc.out; omega, by have := HQ6.out.li.fr.size; omega, hcy.1, hok, by have := Hlen.out.2; omega⟩
  have hq7 := HQ6.out.fr0 hF7
  have hby : b ∉ [c, y] := by
    intro hm
    simp at hm
    rcases hm with hm | hm
    · exact Hne.out hm
    · exact hcy.2 (by rw [hm]; exact List.mem_cons_self ..)
  have HL7 := Lib.hid hl7; have HB7 := Lib.hid hq7.bk; have Hby := Lib.hid hby; have Hg1 := Lib.hid hg1; have Hg2 := Lib.hid hg2; have Hi2 := Lib.hid hi2; have Hr2 := Lib.hid hr2
  clear hY hF7 hy hyK hK lb lc hcy hok hl7 hq7 hby hg1 hg2 hi2 hr2 HQ6 HC6 HO HAs
  go_wp2_with fail
  refine (Z.getS w7 c newBook y K lbs _ 3 HL7.out.bk HL7.out.de HL7.out.sep HL7.out.ok.fine HL7.out.ok.rest HL7.out.ok.lo HL7.out.ok.hi HL7.out.ok.at_ HL7.out.len i3).mono ?_
  rintro e w8 hp
  have hp := HL7.out.posted (a := (2, 3, 0, 0)) (Fr.refl [] _) rfl hp
  rw [show gotOf lbs (2, 3, 0, 0) newBook (decOpen lbs) = .ok (-70) lb1 d1 from Hg1.out] at hp
  obtain ⟨rfl, hl8, hf8⟩ := hp
  have HL8 := Lib.hid hl8; have HB8 := Lib.hid (Z.fr HB7.out hf8 Hby.out)
  clear hl8 hf8 HL7 HB7
  go_wp2_with fail
  refine (Z.getO w8 c lb1 y K lbs _ 3 5 HL8.out.bk HL8.out.de HL8.out.sep HL8.out.ok.fine HL8.out.ok.rest HL8.out.ok.lo HL8.out.ok.hi HL8.out.ok.at_ HL8.out.len i3 i5).mono ?_
  rintro e w9 hp
  have hp := HL8.out.posted (a := (3, 3, 5, 0)) (Fr.refl [] _) rfl hp
  rw [show gotOf lbs (3, 3, 5, 0) lb1 d1 = .ok 4 lb2 d2 from Hg2.out] at hp
  obtain ⟨rfl, hl9, hf9⟩ := hp
  have HL9 := Lib.hid hl9; have HB9 := Lib.hid (Z.fr HB8.out hf9 Hby.out)
  have hE := Y.ends w9 y K lbs d2 hl9.de
  rw [if_pos ⟨Hi2.out, Hr2.out⟩] at hE
  have HE := Lib.hid hE
  clear hl9 hf9 HL8 HB8 hE
  go_wp2_with fail
  refine HE.out.mono ?_
  rintro e w10 ⟨rfl, m, hm10⟩
  have hF10 : Fr [] w9 w10 := by rw [hm10]; exact (Fr.refl _ _).drewN m
  have HL10 := Lib.hid (HL9.out.fr0 hF10); have HB10 := Lib.hid (Z.fr HB9.out hF10 (by simp))
  clear hm10 hF10 HL9 HB9 HE
  go_wp2_with fail
  refine (Z.same w10 b lb2 c lb2 HB10.out HL10.out.bk).mono ?_
  rintro e w11 ⟨rfl, hF11⟩
  rw [live5_same.1]
  have HL11 := Lib.hid (HL10.out.fr0 hF11); have HB11 := Lib.hid (Z.fr HB10.out hF11 (by simp))
  clear hF11 HL10 HB10
  go_wp2_with fail
  refine (Z.new w11).mono ?_
  rintro e w12 ⟨c3, rfl, hc12, hF12, -⟩
  have HC12 := Lib.hid hc12; have HB12 := Lib.hid (Z.fr HB11.out hF12 (by simp)); have HF12 := Lib.hid (HL11.out.fr.trans hF12 (by simp))
  clear hc12 hF12 HL11 HB11
  go_wp2_with fail
  refine (Z.same w12 b lb2 c3 newBook HB12.out HC12.out).mono ?_
  rintro e w13 ⟨rfl, hF13⟩
  rw [live5_same.2]
  go_wp2_with fail
  go_ret
  exact ⟨rfl, HF12.out.trans hF13 (by simp)⟩
end Go.Proofs.Ytfjlepnodmeaaaa

/-
  A script of a book's acts as an argument: its cells. No condition.
-/
namespace Go.Proofs.Ytfjlepnodmeaaaa
open Go.RowKit Go.ChangeShapes Go.WideShapes Go.ChangeAt Go.Deep

/-- An act at a place. -/
def ActAt (w : World) (g o : Nat) (a : Act5) : Prop :=
  w.cell? ⟨g, o, none⟩ = some (.int .i64 a.1) ∧ w.cell? ⟨g, o + 1, none⟩ = some (.int .i64 a.2.1) ∧ w.cell? ⟨g, o + 2, none⟩ = some (.int .i64 a.2.2.1) ∧ w.cell? ⟨g, o + 3, none⟩ = some (.int .i64 a.2.2.2)
def Acts5 (w : World) (A : Option Addr) (len : Nat) (acts : List Act5) : Prop :=
  acts.length = len ∧ ∀ (i : Nat) (a : Act5), acts[i]? = some a → InA a ∧ ∃ g o, A = some ⟨g, o, none⟩ ∧ ActAt w g (o + i * 4) a
theorem ActAt.fr {w w' : World} {g o : Nat} {a : Act5} (h : ActAt w g o a) (hf : Fr [] w w') : ActAt w' g o a := by
  have f : ∀ (j : Nat) (u : Value), w.cell? ⟨g, j, none⟩ = some u → w'.cell? ⟨g, j, none⟩ = some u := fun j u hu => (hf.cell (World.block_lt_of_cell? w _ hu) (by simp)).trans hu
  exact ⟨f _ _ h.1, f _ _ h.2.1, f _ _ h.2.2.1, f _ _ h.2.2.2⟩
theorem Acts5.fr {w w' : World} {A : Option Addr} {len : Nat} {acts : List Act5} (h : Acts5 w A len acts) (hf : Fr [] w w') : Acts5 w' A len acts := by
  refine ⟨h.1, fun i a hi => ?_⟩
  obtain ⟨ha, g, o, rfl, h1⟩ := h.2 i a hi
  exact ⟨ha, g, o, rfl, h1.fr hf⟩

section
variable {H : Type} {enc : TypeId × Value → H} {w : World} {base : Nat} {spare : Nat → Bool} {held : Bool}
set_option maxRecDepth 20000 in
theorem open_act5 {n : Nat} {cs : List Value} {x : DataW H × List MemPlace} (h : DataW.trod enc Try.prog w base spare held n 33 cs = some x) :
    ∃ (a : Act5), cs = [.int .i64 a.1, .int .i64 a.2.1, .int .i64 a.2.2.1, .int .i64 a.2.2.2] ∧ InA a := by
  obtain ⟨xs, n', -, -, hl, hx, hf⟩ := DataW.trod_struct Try.underlying33 h
  have hx2 : xs.length = 4 := hx
  have hl2 : cs.length = 4 := hl.trans (by kernel_rfl)
  match cs, hl2, xs, hx2 with
  | [c0, c1, c2, c3], _, [y0, y1, y2, y3], _ =>
    have e0 : Try.prog.cellsOf 3 = 1 := by kernel_rfl
    have g0 : DataW.trod enc Try.prog w base spare held n' 3 (([c0, c1, c2, c3].drop 0).take (Try.prog.cellsOf 3)) = some y0 := hf 0 _ rfl
    have g1 : DataW.trod enc Try.prog w base spare held n' 3 (([c0, c1, c2, c3].drop 1).take (Try.prog.cellsOf 3)) = some y1 := hf 1 _ rfl
    have g2 : DataW.trod enc Try.prog w base spare held n' 3 (([c0, c1, c2, c3].drop 2).take (Try.prog.cellsOf 3)) = some y2 := hf 2 _ rfl
    have g3 : DataW.trod enc Try.prog w base spare held n' 3 (([c0, c1, c2, c3].drop 3).take (Try.prog.cellsOf 3)) = some y3 := hf 3 _ rfl
    rw [e0] at g0 g1 g2 g3
    obtain ⟨k0, h0, -, v0⟩ := DataW.trod_int Try.underlying3 g0
    obtain ⟨k1, h1, -, v1⟩ := DataW.trod_int Try.underlying3 g1
    obtain ⟨k2, h2, -, v2⟩ := DataW.trod_int Try.underlying3 g2
    obtain ⟨k3, h3, -, v3⟩ := DataW.trod_int Try.underlying3 g3
    simp [Lit.wf, IntKind.min, IntKind.max, IntKind.signed, IntKind.bits] at v0 v1 v2 v3
    simp at h0 h1 h2 h3
    exact ⟨(k0, k1, k2, k3), by rw [h0, h1, h2, h3], ⟨by unfold InI; omega, by unfold InI; omega, by unfold InI; omega, by unfold InI; omega⟩⟩

theorem open_acts5 {n : Nat} {v : Value} {d : DataW H} {ps : List MemPlace} (h : DataW.trod enc Try.prog w base spare held n 22 [v] = some (d, ps)) :
    ∃ (A : Option Addr) (len cap : Nat) (acts : List Act5), v = .slice A len cap ∧ Acts5 w A len acts ∧ len ≤ maxLen := by
  rcases open_slice Try.underlying22 h with ⟨h0, -⟩ | ⟨a, len, cap, m, n', D, Pl, h0, -, hc, hm, hmm, -, hi⟩
  · refine ⟨none, 0, 0, [], by simpa using h0, ⟨rfl, fun i k h => by simp at h⟩, by simp⟩
  · have hlm : len ≤ m := by rw [hmm]; split <;> omega
    have e3 : Try.prog.cellsOf 33 = 4 := by kernel_rfl
    have each : ∀ i, i < len → ∃ x : Act5, InA x ∧ w.cell? (a.add (i * 4)) = some (.int .i64 x.1) ∧ w.cell? ((a.add (i * 4)).add 1) = some (.int .i64 x.2.1) ∧ w.cell? ((a.add (i * 4)).add 2) = some (.int .i64 x.2.2.1) ∧ w.cell? ((a.add (i * 4)).add 3) = some (.int .i64 x.2.2.2) := by
      intro i hil
      obtain ⟨cs', hcs, ht⟩ := hi i (by omega)
      rw [e3] at hcs
      obtain ⟨-, -, hcell⟩ := World.cells?_some hcs
      obtain ⟨x, rfl, hx⟩ := open_act5 ht
      exact ⟨x, hx, hcell 0 (by omega), hcell 1 (by omega), hcell 2 (by omega), hcell 3 (by omega)⟩
    let f : Nat → Act5 := fun i => if hil : i < len then Classical.choose (each i hil) else (0, 0, 0, 0)
    have hf : ∀ i, i < len → InA (f i) ∧ w.cell? (a.add (i * 4)) = some (.int .i64 (f i).1) ∧ w.cell? ((a.add (i * 4)).add 1) = some (.int .i64 (f i).2.1) ∧ w.cell? ((a.add (i * 4)).add 2) = some (.int .i64 (f i).2.2.1) ∧ w.cell? ((a.add (i * 4)).add 3) = some (.int .i64 (f i).2.2.2) := by
      intro i hil
      simp only [f, dif_pos hil]
      exact Classical.choose_spec (each i hil)
    refine ⟨some a, len, cap, (List.range len).map f, by simpa using h0, ⟨by simp, fun i k hx => ?_⟩, by omega⟩
    have hil : i < len := by
      have := (List.getElem?_eq_some_iff.1 hx).1
      simpa using this
    have hfi : f i = k := by
      rw [List.getElem?_map, List.getElem?_range hil] at hx
      simpa using hx
    obtain ⟨g0, g1, g2, g3, g4⟩ := hf i hil
    rw [hfi] at g0 g1 g2 g3 g4
    obtain ⟨-, p1, -⟩ := hf 0 (by omega)
    simp only [Nat.zero_mul, Addr.add, if_pos] at p1
    have ha := plain_of_cell p1
    rw [ha] at g1 g2 g3 g4 ⊢
    rw [add_plain] at g1 g2 g3 g4
    rw [add_plain] at g2 g3 g4
    exact ⟨g0, _, _, rfl, g1, g2, g3, g4⟩
end
end Go.Proofs.Ytfjlepnodmeaaaa

/-
  string(b) of bytes that are known: the string of these bytes.
-/
namespace Go.Proofs.Ytfjlepnodmeaaaa
open Go.RowKit

/-- The string of bytes. -/
def strOf (xs : List UInt8) : ByteArray := ⟨xs.toArray⟩

theorem strOf_inj {a b : List UInt8} (h : strOf a = strOf b) : a = b := by
  have := congrArg (fun s : ByteArray => s.data.toList) h
  simpa [strOf] using this

theorem fold_push (xs : List UInt8) : ∀ s : ByteArray, (xs.map fun x => (x.toNat : Int)).foldl (fun r n => r.push (UInt8.ofNat n.toNat)) s = ⟨s.data ++ xs.toArray⟩ := by
  induction xs with
  | nil => intro s; simp
  | cons x xs ih =>
    intro s
    rw [List.map_cons, List.foldl_cons, ih]
    have : UInt8.ofNat ((x.toNat : Int)).toNat = x := by simp
    rw [this]
    congr 1
    apply Array.ext'
    simp [ByteArray.push]

theorem run_string {w : World} {v : Value} {xs : List UInt8} (hs : Src w v (xs.map B8)) : (convert 37 9 v).run Try.prog w = .ok (.string (strOf xs)) w := by
  rcases hs with ⟨rfl, h0⟩ | ⟨ad, c, rfl, _, hc⟩
  · rw [List.map_eq_nil_iff.1 h0]
    rw [run_convert_bytes_string w _ _ 5 none 0 0 Try.underlying37 Try.underlying5 Try.underlying9]
    rfl
  · rw [run_convert_bytes_string w _ _ 5 (some ad) _ c Try.underlying37 Try.underlying5 Try.underlying9]
    have h1 := run_loadCells_list (P := Try.prog) w ad (xs.map B8) hc
    have e : (xs.map B8) = (xs.map fun x => (x.toNat : Int)).map (Value.int .u8) := by simp [B8]
    rw [e] at h1
    rw [run_bytesToString w ad _ c (xs.map fun x => (x.toNat : Int)) (by rw [e]; exact h1), fold_push]
    simp [strOf, ByteArray.empty, ByteArray.emptyWithCapacity]
    rfl

/-- The conversion, kept closed: it is met by what is known of its argument alone. -/
def cv (v : Value) : Sem Value := convert 37 9 v
theorem cv_rule (v : Value) : convert 37 9 v = cv v := rfl
theorem run_cv {w : World} {v : Value} {xs : List UInt8} (hs : Src w v (xs.map B8)) : (cv v).run Try.prog w = .ok (.string (strOf xs)) w := run_string hs
end Go.Proofs.Ytfjlepnodmeaaaa

/-
  Closed facts of this program that every row asks; no condition.
-/
namespace Go.Proofs.Ytfjlepnodmeaaaa
theorem own_knob : ownKnob Try.prog.godebug = none := by kernel_rfl
theorem laid_out : laidOutB Try.prog = true := by kernel_rfl
end Go.Proofs.Ytfjlepnodmeaaaa
