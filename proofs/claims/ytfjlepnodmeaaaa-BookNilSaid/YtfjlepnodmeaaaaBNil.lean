/-
  The law BookNil answers true whatever its input, out of the contracts; no condition.
-/
import Derived.Test.YtfjlepnodmeaaaaBookAlive
import Derived.Test.YtfjlepnodmeaaaaBookArg
namespace Go.Proofs.Ytfjlepnodmeaaaa
open Go.RowKit

theorem getNN {X : EncSpec} {Y : DecSpec} (Z : BookSpec X Y) (a : Act5) (w : World) (ha : InA a) : Calls Try.prog 20 #[vAct a, .pointer none, .pointer none] w fun r w' => r = .returned (.tuple #[.int .i64 0, .int .i64 1]) ∧ Fr [] w w' := by
  obtain ⟨h1, h2, h3, h4⟩ := ha
  exact lget_any a _ _ w _ (fun r w' hq => ⟨_, _, hq.1⟩)
    (fun _ w1 hf => (Z.getNilB w1 _ h2).mono fun r w' ⟨hr, hg⟩ => ⟨hr, hf.trans hg (by simp)⟩)
    (fun _ w1 hf => (Z.getSNilB w1 _ h2).mono fun r w' ⟨hr, hg⟩ => ⟨hr, hf.trans hg (by simp)⟩)
    (fun _ _ w1 hf => (Z.getONilB w1 _ _ h2 h3).mono fun r w' ⟨hr, hg⟩ => ⟨hr, hf.trans hg (by simp)⟩)
theorem getBN {X : EncSpec} {Y : DecSpec} (Z : BookSpec X Y) (a : Act5) (w : World) (ha : InA a) (b : Nat) (B : Chs) (hb : Z.Bo w b B) : Calls Try.prog 20 #[vAct a, pt b, .pointer none] w fun r w' => r = .returned (.tuple #[.int .i64 0, .int .i64 1]) ∧ Fr [] w w' := by
  obtain ⟨h1, h2, h3, h4⟩ := ha
  exact lget_any a _ _ w _ (fun r w' hq => ⟨_, _, hq.1⟩)
    (fun _ w1 hf => (Z.getNilX w1 b B _ (Z.fr hb hf (by simp)) h2).mono fun r w' ⟨hr, hg⟩ => ⟨hr, hf.trans hg (by simp)⟩)
    (fun _ w1 hf => (Z.getSNilX w1 b B _ (Z.fr hb hf (by simp)) h2).mono fun r w' ⟨hr, hg⟩ => ⟨hr, hf.trans hg (by simp)⟩)
    (fun _ _ w1 hf => (Z.getONilX w1 b B _ _ (Z.fr hb hf (by simp)) h2 h3).mono fun r w' ⟨hr, hg⟩ => ⟨hr, hf.trans hg (by simp)⟩)
theorem putNX {X : EncSpec} {Y : DecSpec} (Z : BookSpec X Y) (a : Act5) (w : World) (ha : InA a) (p : Nat) (D : List Nat) (e : Enc) (he : X.En w p D e) : Calls Try.prog 13 #[vAct a, .pointer none, pt p] w fun r w' => r = .returned (.int .i64 1) ∧ Fr [] w w' := by
  obtain ⟨h1, h2, h3, h4⟩ := ha
  exact lput_any a _ _ w _ (fun r w' hq => ⟨_, hq.1⟩)
    (fun _ w1 hf => (Z.putNilB w1 p D e _ _ (X.fr he hf (by simp)) h2 h4).mono fun r w' ⟨hr, hg⟩ => ⟨hr, hf.trans hg (by simp)⟩)
    (fun _ w1 hf => (Z.putSNilB w1 p D e _ _ (X.fr he hf (by simp)) h2 h4).mono fun r w' ⟨hr, hg⟩ => ⟨hr, hf.trans hg (by simp)⟩)
    (fun _ _ w1 hf => (Z.putONilB w1 p D e _ _ _ (X.fr he hf (by simp)) h2 h3 h4).mono fun r w' ⟨hr, hg⟩ => ⟨hr, hf.trans hg (by simp)⟩)
theorem putBN {X : EncSpec} {Y : DecSpec} (Z : BookSpec X Y) (a : Act5) (w : World) (ha : InA a) (b : Nat) (B : Chs) (hb : Z.Bo w b B) : Calls Try.prog 13 #[vAct a, pt b, .pointer none] w fun r w' => r = .returned (.int .i64 1) ∧ Fr [] w w' := by
  obtain ⟨h1, h2, h3, h4⟩ := ha
  exact lput_any a _ _ w _ (fun r w' hq => ⟨_, hq.1⟩)
    (fun _ w1 hf => (Z.putNilX w1 b B _ _ (Z.fr hb hf (by simp)) h2 h4).mono fun r w' ⟨hr, hg⟩ => ⟨hr, hf.trans hg (by simp)⟩)
    (fun _ w1 hf => (Z.putSNilX w1 b B _ _ (Z.fr hb hf (by simp)) h2 h4).mono fun r w' ⟨hr, hg⟩ => ⟨hr, hf.trans hg (by simp)⟩)
    (fun _ _ w1 hf => (Z.putONilX w1 b B _ _ _ (Z.fr hb hf (by simp)) h2 h3 h4).mono fun r w' ⟨hr, hg⟩ => ⟨hr, hf.trans hg (by simp)⟩)

set_option maxRecDepth 100000 in
set_option maxHeartbeats 4000000 in
theorem nil5_law {X : EncSpec} {Y : DecSpec} (Z : BookSpec X Y) (a : Act5) (w : World) (ha : InA a) :
    Calls Try.prog 8 #[vAct a] w fun e w' => e = .returned (.bool true) ∧ Fr [] w w' := by
  have HNN := Lib.hid fun W => getNN Z a W ha
  have HBN := Lib.hid fun W b B h => getBN Z a W ha b B h
  have HPX := Lib.hid fun W p D e h => putNX Z a W ha p D e h
  have HPB := Lib.hid fun W b B h => putBN Z a W ha b B h
  obtain ⟨k, t, n, v⟩ := a
  unfold vAct at HNN HBN HPX HPB ⊢
  simp only at HNN HBN HPX HPB ⊢
  clear ha
  go_enter Try.func8, Try.ntmps8
  go_wp2_with fail
  generalize hw : w.alloc (.cells #[.int .i64 k, .int .i64 t, .int .i64 n, .int .i64 v] 33) = w1
  have hB : Blk w1 w.heap.size 33 #[.int .i64 k, .int .i64 t, .int .i64 n, .int .i64 v] := by rw [← hw]; exact Blk.new _ _ _
  have hF : Fr [] w w1 := by rw [← hw]; exact (Fr.refl _ _).alloc _
  generalize w.heap.size = g at hB ⊢
  have HB := Lib.hid hB
  have HF := Lib.hid hF
  clear hB hF hw
  refine (Z.new w1).mono ?_
  rintro e w2 ⟨c, rfl, hc, hF2, -⟩
  have hb2 := HB.out.fr hF2 (by simp)
  have c0 := hb2.cell 0
  have c1 := hb2.cell 1
  have c2 := hb2.cell 2
  have c3 := hb2.cell 3
  simp at c0 c1 c2 c3
  have HB2 := Lib.hid hb2; have HC := Lib.hid hc; have HF2 := Lib.hid (HF.out.trans hF2 (by simp))
  clear hb2 hc hF2 HB HF
  go_wp2_with fail
  refine (HNN.out w2).mono ?_
  rintro e w3 ⟨rfl, hF3⟩
  have hb3 := HB2.out.fr hF3 (by simp)
  have d0 := hb3.cell 0
  have d1 := hb3.cell 1
  have d2 := hb3.cell 2
  have d3 := hb3.cell 3
  simp at d0 d1 d2 d3
  have HB3 := Lib.hid hb3; have HC3 := Lib.hid (Z.fr HC.out hF3 (by simp)); have HF3 := Lib.hid (HF2.out.trans hF3 (by simp))
  clear hb3 hF3 HB2 HC HF2 c0 c1 c2 c3
  go_wp2_with fail
  refine (HBN.out w3 c _ HC3.out).mono ?_
  rintro e w4 ⟨rfl, hF4⟩
  have hbd := (HB3.out.fr hF4 (by simp)).drew
  have k0 := hbd.cell 0
  have k1 := hbd.cell 1
  have k2 := hbd.cell 2
  have k3 := hbd.cell 3
  simp at k0 k1 k2 k3
  have HB4 := Lib.hid hbd; have HC4 := Lib.hid (Z.fr HC3.out (hF4.drew) (by simp)); have HF4 := Lib.hid (HF3.out.trans hF4 (by simp)).drew
  clear hbd hF4 HB3 HC3 HF3 d0 d1 d2 d3
  go_upto_region 5 with fail
  refine wp_region_held_drew (S := fun W => W.cell? ⟨g, 0, none⟩ = some (.int .i64 k) ∧ W.cell? ⟨g, 1, none⟩ = some (.int .i64 t) ∧ W.cell? ⟨g, 2, none⟩ = some (.int .i64 n) ∧ W.cell? ⟨g, 3, none⟩ = some (.int .i64 v)) (by kernel_rfl) ?_ (fun hHeld => ?_)
  · (repeat' (first | trivial | assumption | refine ⟨?_, ?_⟩))
  refine wpAnyH_ready (rs := [0]) (by kernel_rfl) (by simp) ?_
  refine AllReadyH_pick rfl (fun K hK => ?_) (AllReadyH.nil)
  go_simp
  refine (alive5_any Z _).mono ?_
  rintro e wL ⟨rfl, fL⟩
  have hbL := HB4.out.fr fL (by simp)
  have l0 := hbL.cell 0
  have l1 := hbL.cell 1
  have l2 := hbL.cell 2
  have l3 := hbL.cell 3
  simp at l0 l1 l2 l3
  have HBL := Lib.hid hbL; have HCL := Lib.hid (Z.fr HC4.out fL (by simp)); have HFL := Lib.hid (HF4.out.trans fL (by simp))
  clear hbL fL
  go_wp2_with fail
  refine hK.out _ _ ?_ (fun hHeld => ?_)
  · (repeat' (first | trivial | assumption | refine ⟨?_, ?_⟩))
  clear hK K
  (try simp only [Act.put, List.setIfInBounds_toArray, List.set_cons_zero, List.set_cons_succ])
  refine wpAnyH_pick 1 (v := ?_) rfl (by kernel_rfl) (by kernel_rfl) (by kernel_rfl) (fun _ _ _ h => h) (by assumption) (by rfl) ?_ ?_
  rotate_left
  · (intro w hSw; (try dsimp only at hSw); go_simp) <;> (with_reducible rfl)
  (try simp only [Act.put, List.setIfInBounds_toArray, List.set_cons_zero, List.set_cons_succ])
  refine wpAnyH_pick 2 (v := ?_) rfl (by kernel_rfl) (by kernel_rfl) (by kernel_rfl) (fun _ _ _ h => h) (by assumption) (by rfl) ?_ ?_
  rotate_left
  · (intro w hSw; (try dsimp only at hSw); go_simp) <;> (with_reducible rfl)
  (try simp only [Act.put, List.setIfInBounds_toArray, List.set_cons_zero, List.set_cons_succ])
  refine wpAnyH_pick 3 (v := ?_) rfl (by kernel_rfl) (by kernel_rfl) (by kernel_rfl) (fun _ _ _ h => h) (by assumption) (by rfl) ?_ ?_
  rotate_left
  · (intro w hSw; (try dsimp only at hSw); go_simp) <;> (with_reducible rfl)
  (try simp only [Act.put, List.setIfInBounds_toArray, List.set_cons_zero, List.set_cons_succ])
  refine wpAnyH_ready (rs := [4]) (by kernel_rfl) (by simp) ?_
  refine AllReadyH_pick rfl (fun K hK => ?_) (AllReadyH.nil)
  go_simp
  refine (X.new _).mono ?_
  rintro e wE ⟨p, D, rfl, hE, fE, -⟩
  have hbE := HBL.out.fr fE (by simp)
  have m0 := hbE.cell 0
  have m1 := hbE.cell 1
  have m2 := hbE.cell 2
  have m3 := hbE.cell 3
  simp at m0 m1 m2 m3
  have HBE := Lib.hid hbE; have HCE := Lib.hid (Z.fr HCL.out fE (by simp)); have HFE := Lib.hid (HFL.out.trans fE (by simp)); have HE := Lib.hid hE
  clear hbE fE hE
  go_wp2_with fail
  refine hK.out _ _ ?_ (fun hHeld => ?_)
  · (repeat' (first | trivial | assumption | refine ⟨?_, ?_⟩))
  clear hK K
  (try simp only [Act.put, List.setIfInBounds_toArray, List.set_cons_zero, List.set_cons_succ])
  refine wpAnyH_ready (rs := [5]) (by kernel_rfl) (by simp) ?_
  refine AllReadyH_pick rfl (fun K hK => ?_) (AllReadyH.nil)
  go_simp
  refine (HPX.out _ p D _ HE.out).mono ?_
  rintro e wP ⟨rfl, fP⟩
  have hbP := HBE.out.fr fP (by simp)
  have n0 := hbP.cell 0
  have n1 := hbP.cell 1
  have n2 := hbP.cell 2
  have n3 := hbP.cell 3
  simp at n0 n1 n2 n3
  have HBP := Lib.hid hbP; have HCP := Lib.hid (Z.fr HCE.out fP (by simp)); have HFP := Lib.hid (HFE.out.trans fP (by simp))
  clear hbP fP
  go_wp2_with fail
  refine hK.out _ _ ?_ (fun hHeld => ?_)
  · (repeat' (first | trivial | assumption | refine ⟨?_, ?_⟩))
  clear hK K
  (try simp only [Act.put, List.setIfInBounds_toArray, List.set_cons_zero, List.set_cons_succ])
  refine wpAnyH_pick 6 (v := ?_) rfl (by kernel_rfl) (by kernel_rfl) (by kernel_rfl) (fun _ _ _ h => h) (by assumption) (by rfl) ?_ ?_
  rotate_left
  · (intro w hSw; (try dsimp only at hSw); go_simp) <;> (with_reducible rfl)
  (try simp only [Act.put, List.setIfInBounds_toArray, List.set_cons_zero, List.set_cons_succ])
  refine wpAnyH_pick 7 (v := ?_) rfl (by kernel_rfl) (by kernel_rfl) (by kernel_rfl) (fun _ _ _ h => h) (by assumption) (by rfl) ?_ ?_
  rotate_left
  · (intro w hSw; (try dsimp only at hSw); go_simp) <;> (with_reducible rfl)
  (try simp only [Act.put, List.setIfInBounds_toArray, List.set_cons_zero, List.set_cons_succ])
  refine wpAnyH_pick 8 (v := ?_) rfl (by kernel_rfl) (by kernel_rfl) (by kernel_rfl) (fun _ _ _ h => h) (by assumption) (by rfl) ?_ ?_
  rotate_left
  · (intro w hSw; (try dsimp only at hSw); go_simp) <;> (with_reducible rfl)
  (try simp only [Act.put, List.setIfInBounds_toArray, List.set_cons_zero, List.set_cons_succ])
  refine wpAnyH_pick 9 (v := ?_) rfl (by kernel_rfl) (by kernel_rfl) (by kernel_rfl) (fun _ _ _ h => h) (by assumption) (by rfl) ?_ ?_
  rotate_left
  · (intro w hSw; (try dsimp only at hSw); go_simp) <;> (with_reducible rfl)
  (try simp only [Act.put, List.setIfInBounds_toArray, List.set_cons_zero, List.set_cons_succ])
  refine wpAnyH_pick 10 (v := ?_) rfl (by kernel_rfl) (by kernel_rfl) (by kernel_rfl) (fun _ _ _ h => h) (by assumption) (by rfl) ?_ ?_
  rotate_left
  · (intro w hSw; (try dsimp only at hSw); go_simp) <;> (with_reducible rfl)
  (try simp only [Act.put, List.setIfInBounds_toArray, List.set_cons_zero, List.set_cons_succ])
  refine wpAnyH_ready (rs := [11]) (by kernel_rfl) (by simp) ?_
  refine AllReadyH_pick rfl (fun K hK => ?_) (AllReadyH.nil)
  go_simp
  refine (HPB.out _ c _ HCP.out).mono ?_
  rintro e wQ ⟨rfl, fQ⟩
  have hbQ := HBP.out.fr fQ (by simp)
  have o0 := hbQ.cell 0
  have o1 := hbQ.cell 1
  have o2 := hbQ.cell 2
  have o3 := hbQ.cell 3
  simp at o0 o1 o2 o3
  have HBQ := Lib.hid hbQ; have HCQ := Lib.hid (Z.fr HCP.out fQ (by simp)); have HFQ := Lib.hid (HFP.out.trans fQ (by simp))
  clear hbQ fQ
  go_wp2_with fail
  refine hK.out _ _ ?_ (fun hHeld => ?_)
  · (repeat' (first | trivial | assumption | refine ⟨?_, ?_⟩))
  clear hK K
  (try simp only [Act.put, List.setIfInBounds_toArray, List.set_cons_zero, List.set_cons_succ])
  refine wpAnyH_pick 12 (v := ?_) rfl (by kernel_rfl) (by kernel_rfl) (by kernel_rfl) (fun _ _ _ h => h) (by assumption) (by rfl) ?_ ?_
  rotate_left
  · (intro w hSw; (try dsimp only at hSw); go_simp) <;> (with_reducible rfl)
  (try simp only [Act.put, List.setIfInBounds_toArray, List.set_cons_zero, List.set_cons_succ])
  refine wpAnyH_pick 13 (v := ?_) rfl (by kernel_rfl) (by kernel_rfl) (by kernel_rfl) (fun _ _ _ h => h) (by assumption) (by rfl) ?_ ?_
  rotate_left
  · (intro w hSw; (try dsimp only at hSw); go_simp) <;> (with_reducible rfl)
  (try simp only [Act.put, List.setIfInBounds_toArray, List.set_cons_zero, List.set_cons_succ])
  refine wpAnyH_pick 14 (v := ?_) rfl (by kernel_rfl) (by kernel_rfl) (by kernel_rfl) (fun _ _ _ h => h) (by assumption) (by rfl) ?_ ?_
  rotate_left
  · (intro w hSw; (try dsimp only at hSw); go_simp) <;> (with_reducible rfl)
  (try simp only [Act.put, List.setIfInBounds_toArray, List.set_cons_zero, List.set_cons_succ])
  refine wpAnyH_pick 15 (v := ?_) rfl (by kernel_rfl) (by kernel_rfl) (by kernel_rfl) (fun _ _ _ h => h) (by assumption) (by rfl) ?_ ?_
  rotate_left
  · (intro w hSw; (try dsimp only at hSw); go_simp) <;> (with_reducible rfl)
  (try simp only [Act.put, List.setIfInBounds_toArray, List.set_cons_zero, List.set_cons_succ])
  refine wpAnyH_pick 16 (v := ?_) rfl (by kernel_rfl) (by kernel_rfl) (by kernel_rfl) (fun _ _ _ h => h) (by assumption) (by rfl) ?_ ?_
  rotate_left
  · (intro w hSw; (try dsimp only at hSw); go_simp) <;> (with_reducible rfl)
  (try simp only [Act.put, List.setIfInBounds_toArray, List.set_cons_zero, List.set_cons_succ])
  refine wpAnyH_pick 17 (v := ?_) rfl (by kernel_rfl) (by kernel_rfl) (by kernel_rfl) (fun _ _ _ h => h) (by assumption) (by rfl) ?_ ?_
  rotate_left
  · (intro w hSw; (try dsimp only at hSw); go_simp) <;> (with_reducible rfl)
  (try simp only [Act.put, List.setIfInBounds_toArray, List.set_cons_zero, List.set_cons_succ])
  refine wpAnyH_pick 18 (v := ?_) rfl (by kernel_rfl) (by kernel_rfl) (by kernel_rfl) (fun _ _ _ h => h) (by assumption) (by rfl) ?_ ?_
  rotate_left
  · (intro w hSw; (try dsimp only at hSw); go_simp) <;> (with_reducible rfl)
  (try simp only [Act.put, List.setIfInBounds_toArray, List.set_cons_zero, List.set_cons_succ])
  refine wpAnyH_pick 19 (v := ?_) rfl (by kernel_rfl) (by kernel_rfl) (by kernel_rfl) (fun _ _ _ h => h) (by assumption) (by rfl) ?_ ?_
  rotate_left
  · (intro w hSw; (try dsimp only at hSw); go_simp) <;> (with_reducible rfl)
  (try simp only [Act.put, List.setIfInBounds_toArray, List.set_cons_zero, List.set_cons_succ])
  refine wpAnyH_pick 20 (v := ?_) rfl (by kernel_rfl) (by kernel_rfl) (by kernel_rfl) (fun _ _ _ h => h) (by assumption) (by rfl) ?_ ?_
  rotate_left
  · (intro w hSw; (try dsimp only at hSw); go_simp) <;> (with_reducible rfl)
  (try simp only [Act.put, List.setIfInBounds_toArray, List.set_cons_zero, List.set_cons_succ])
  refine wpAnyH_pick 21 (v := ?_) rfl (by kernel_rfl) (by kernel_rfl) (by kernel_rfl) (fun _ _ _ h => h) (by assumption) (by rfl) ?_ ?_
  rotate_left
  · (intro w hSw; (try dsimp only at hSw); go_simp) <;> (with_reducible rfl)
  (try simp only [Act.put, List.setIfInBounds_toArray, List.set_cons_zero, List.set_cons_succ])
  refine wpAnyH_pick 22 (v := ?_) rfl (by kernel_rfl) (by kernel_rfl) (by kernel_rfl) (fun _ _ _ h => h) (by assumption) (by rfl) ?_ ?_
  rotate_left
  · (intro w hSw; (try dsimp only at hSw); go_simp) <;> (with_reducible rfl)
  (try simp only [Act.put, List.setIfInBounds_toArray, List.set_cons_zero, List.set_cons_succ])
  refine wpAnyH_pick 23 (v := ?_) rfl (by kernel_rfl) (by kernel_rfl) (by kernel_rfl) (fun _ _ _ h => h) (by assumption) (by rfl) ?_ ?_
  rotate_left
  · (intro w hSw; (try dsimp only at hSw); go_simp) <;> (with_reducible rfl)
  (try simp only [Act.put, List.setIfInBounds_toArray, List.set_cons_zero, List.set_cons_succ])
  refine wpAnyH_pick 24 (v := ?_) rfl (by kernel_rfl) (by kernel_rfl) (by kernel_rfl) (fun _ _ _ h => h) (by assumption) (by rfl) ?_ ?_
  rotate_left
  · (intro w hSw; (try dsimp only at hSw); go_simp) <;> (with_reducible rfl)
  (try simp only [Act.put, List.setIfInBounds_toArray, List.set_cons_zero, List.set_cons_succ])
  refine wpAnyH_pick 25 (v := ?_) rfl (by kernel_rfl) (by kernel_rfl) (by kernel_rfl) (fun _ _ _ h => h) (by assumption) (by rfl) ?_ ?_
  rotate_left
  · (intro w hSw; (try dsimp only at hSw); go_simp) <;> (with_reducible rfl)
  (try simp only [Act.put, List.setIfInBounds_toArray, List.set_cons_zero, List.set_cons_succ])
  refine wpAnyH_pick 26 (v := ?_) rfl (by kernel_rfl) (by kernel_rfl) (by kernel_rfl) (fun _ _ _ h => h) (by assumption) (by rfl) ?_ ?_
  rotate_left
  · (intro w hSw; (try dsimp only at hSw); go_simp) <;> (with_reducible rfl)
  (try simp only [Act.put, List.setIfInBounds_toArray, List.set_cons_zero, List.set_cons_succ])
  refine wpAnyH_pick 27 (v := ?_) rfl (by kernel_rfl) (by kernel_rfl) (by kernel_rfl) (fun _ _ _ h => h) (by assumption) (by rfl) ?_ ?_
  rotate_left
  · (intro w hSw; (try dsimp only at hSw); go_simp) <;> (with_reducible rfl)
  (try simp only [Act.put, List.setIfInBounds_toArray, List.set_cons_zero, List.set_cons_succ])
  refine wpAnyH_pick 28 (v := ?_) rfl (by kernel_rfl) (by kernel_rfl) (by kernel_rfl) (fun _ _ _ h => h) (by assumption) (by rfl) ?_ ?_
  rotate_left
  · (intro w hSw; (try dsimp only at hSw); go_simp) <;> (with_reducible rfl)
  (try simp only [Act.put, List.setIfInBounds_toArray, List.set_cons_zero, List.set_cons_succ])
  refine wpAnyH_pick 29 (v := ?_) rfl (by kernel_rfl) (by kernel_rfl) (by kernel_rfl) (fun _ _ _ h => h) (by assumption) (by rfl) ?_ ?_
  rotate_left
  · (intro w hSw; (try dsimp only at hSw); go_simp) <;> (with_reducible rfl)
  (try simp only [Act.put, List.setIfInBounds_toArray, List.set_cons_zero, List.set_cons_succ])
  refine wpAnyH_pick 30 (v := ?_) rfl (by kernel_rfl) (by kernel_rfl) (by kernel_rfl) (fun _ _ _ h => h) (by assumption) (by rfl) ?_ ?_
  rotate_left
  · (intro w hSw; (try dsimp only at hSw); go_simp) <;> (with_reducible rfl)
  (try simp only [Act.put, List.setIfInBounds_toArray, List.set_cons_zero, List.set_cons_succ])
  refine wpAnyH_pick 31 (v := ?_) rfl (by kernel_rfl) (by kernel_rfl) (by kernel_rfl) (fun _ _ _ h => h) (by assumption) (by rfl) ?_ ?_
  rotate_left
  · (intro w hSw; (try dsimp only at hSw); go_simp) <;> (with_reducible rfl)
  (try simp only [Act.put, List.setIfInBounds_toArray, List.set_cons_zero, List.set_cons_succ])
  refine wpAnyH_ready (rs := [32]) (by kernel_rfl) (by simp) ?_
  refine AllReadyH_pick rfl (fun K hK => ?_) (AllReadyH.nil)
  go_simp
  refine (Z.sameNN _).mono ?_
  rintro e wR ⟨rfl, fR⟩
  have hbR := HBQ.out.fr fR (by simp)
  have q0 := hbR.cell 0
  have q1 := hbR.cell 1
  have q2 := hbR.cell 2
  have q3 := hbR.cell 3
  simp at q0 q1 q2 q3
  have HBR := Lib.hid hbR; have HCR := Lib.hid (Z.fr HCQ.out fR (by simp)); have HFR := Lib.hid (HFQ.out.trans fR (by simp))
  clear hbR fR
  go_wp2_with fail
  refine hK.out _ _ ?_ (fun hHeld => ?_)
  · (repeat' (first | trivial | assumption | refine ⟨?_, ?_⟩))
  clear hK K
  (try simp only [Act.put, List.setIfInBounds_toArray, List.set_cons_zero, List.set_cons_succ])
  refine wpAnyH_pick 33 (v := ?_) rfl (by kernel_rfl) (by kernel_rfl) (by kernel_rfl) (fun _ _ _ h => h) (by assumption) (by rfl) ?_ ?_
  rotate_left
  · (intro w hSw; (try dsimp only at hSw); go_simp) <;> (with_reducible rfl)
  (try simp only [Act.put, List.setIfInBounds_toArray, List.set_cons_zero, List.set_cons_succ])
  refine wpAnyH_pick 34 (v := ?_) rfl (by kernel_rfl) (by kernel_rfl) (by kernel_rfl) (fun _ _ _ h => h) (by assumption) (by rfl) ?_ ?_
  rotate_left
  · (intro w hSw; (try dsimp only at hSw); go_simp) <;> (with_reducible rfl)
  (try simp only [Act.put, List.setIfInBounds_toArray, List.set_cons_zero, List.set_cons_succ])
  refine wpAnyH_pick 35 (v := ?_) rfl (by kernel_rfl) (by kernel_rfl) (by kernel_rfl) (fun _ _ _ h => h) (by assumption) (by rfl) ?_ ?_
  rotate_left
  · (intro w hSw; (try dsimp only at hSw); go_simp) <;> (with_reducible rfl)
  (try simp only [Act.put, List.setIfInBounds_toArray, List.set_cons_zero, List.set_cons_succ])
  refine wpAnyH_pick 36 (v := ?_) rfl (by kernel_rfl) (by kernel_rfl) (by kernel_rfl) (fun _ _ _ h => h) (by assumption) (by rfl) ?_ ?_
  rotate_left
  · (intro w hSw; (try dsimp only at hSw); go_simp) <;> (with_reducible rfl)
  (try simp only [Act.put, List.setIfInBounds_toArray, List.set_cons_zero, List.set_cons_succ])
  refine wpAnyH_ready (rs := [37]) (by kernel_rfl) (by simp) ?_
  refine AllReadyH_pick rfl (fun K hK => ?_) (AllReadyH.nil)
  go_simp
  refine (Z.sameNB _ c _ HCR.out).mono ?_
  rintro e wS ⟨rfl, fS⟩
  have hbS := HBR.out.fr fS (by simp)
  have r0 := hbS.cell 0
  have r1 := hbS.cell 1
  have r2 := hbS.cell 2
  have r3 := hbS.cell 3
  simp at r0 r1 r2 r3
  have HBS := Lib.hid hbS; have HFS := Lib.hid (HFR.out.trans fS (by simp))
  clear hbS fS
  go_wp2_with fail
  refine hK.out _ _ ?_ (fun hHeld => ?_)
  · (repeat' (first | trivial | assumption | refine ⟨?_, ?_⟩))
  clear hK K
  (try simp only [Act.put, List.setIfInBounds_toArray, List.set_cons_zero, List.set_cons_succ])
  refine wpAnyH_pick 38 (v := ?_) rfl (by kernel_rfl) (by kernel_rfl) (by kernel_rfl) (fun _ _ _ h => h) (by assumption) (by rfl) ?_ ?_
  rotate_left
  · (intro w hSw; (try dsimp only at hSw); go_simp) <;> (with_reducible rfl)
  (try simp only [Act.put, List.setIfInBounds_toArray, List.set_cons_zero, List.set_cons_succ])
  refine wpAnyH_pick 39 (v := ?_) rfl (by kernel_rfl) (by kernel_rfl) (by kernel_rfl) (fun _ _ _ h => h) (by assumption) (by rfl) ?_ ?_
  rotate_left
  · (intro w hSw; (try dsimp only at hSw); go_simp) <;> (with_reducible rfl)
  (try simp only [Act.put, List.setIfInBounds_toArray, List.set_cons_zero, List.set_cons_succ])
  refine wpAnyH_pick 40 (v := ?_) rfl (by kernel_rfl) (by kernel_rfl) (by kernel_rfl) (fun _ _ _ h => h) (by assumption) (by rfl) ?_ ?_
  rotate_left
  · (intro w hSw; (try dsimp only at hSw); go_simp) <;> (with_reducible rfl)
  (try simp only [Act.put, List.setIfInBounds_toArray, List.set_cons_zero, List.set_cons_succ])
  refine wpAnyH_pick 41 (v := ?_) rfl (by kernel_rfl) (by kernel_rfl) (by kernel_rfl) (fun _ _ _ h => h) (by assumption) (by rfl) ?_ ?_
  rotate_left
  · (intro w hSw; (try dsimp only at hSw); go_simp) <;> (with_reducible rfl)
  (try simp only [Act.put, List.setIfInBounds_toArray, List.set_cons_zero, List.set_cons_succ])
  refine wpAnyH_ready (rs := [42]) (by kernel_rfl) (by simp) ?_
  refine AllReadyH_pick rfl (fun K hK => ?_) (AllReadyH.nil)
  go_simp
  refine (Z.copyNil _).mono ?_
  rintro e wT ⟨rfl, fT⟩
  have hbT := HBS.out.fr fT (by simp)
  have s0 := hbT.cell 0
  have s1 := hbT.cell 1
  have s2 := hbT.cell 2
  have s3 := hbT.cell 3
  simp at s0 s1 s2 s3
  have HFT := Lib.hid (HFS.out.trans fT (by simp))
  clear hbT fT
  go_wp2_with fail
  refine hK.out _ _ ?_ (fun hHeld => ?_)
  · (repeat' (first | trivial | assumption | refine ⟨?_, ?_⟩))
  clear hK K
  (try simp only [Act.put, List.setIfInBounds_toArray, List.set_cons_zero, List.set_cons_succ])
  refine wpAnyH_pick 43 (v := ?_) rfl (by kernel_rfl) (by kernel_rfl) (by kernel_rfl) (fun _ _ _ h => h) (by assumption) (by rfl) ?_ ?_
  rotate_left
  · (intro w hSw; (try dsimp only at hSw); go_simp) <;> (with_reducible rfl)
  (try simp only [Act.put, List.setIfInBounds_toArray, List.set_cons_zero, List.set_cons_succ])
  refine wpAnyH_pick 44 (v := ?_) rfl (by kernel_rfl) (by kernel_rfl) (by kernel_rfl) (fun _ _ _ h => h) (by assumption) (by rfl) ?_ ?_
  rotate_left
  · (intro w hSw; (try dsimp only at hSw); go_simp) <;> (with_reducible rfl)
  (try simp only [Act.put, List.setIfInBounds_toArray, List.set_cons_zero, List.set_cons_succ])
  refine wpAnyH_pick 45 (v := ?_) rfl (by kernel_rfl) (by kernel_rfl) (by kernel_rfl) (fun _ _ _ h => h) (by assumption) (by rfl) ?_ ?_
  rotate_left
  · (intro w hSw; (try dsimp only at hSw); go_simp) <;> (with_reducible rfl)
  (try simp only [Act.put, List.setIfInBounds_toArray, List.set_cons_zero, List.set_cons_succ])
  refine wpAnyH_done (by kernel_rfl) ?_ _
  skip
  go_wp2_with fail
  go_ret
  exact ⟨rfl, HFT.out⟩
end Go.Proofs.Ytfjlepnodmeaaaa
