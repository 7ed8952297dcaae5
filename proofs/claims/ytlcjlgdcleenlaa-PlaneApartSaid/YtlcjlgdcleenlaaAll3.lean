/-
  What several laws' proofs lean on, part 3; each part says its conditions below.
-/
import Derived.Test.YtlcjlgdcleenlaaAll1
import Derived.Test.YtlcjlgdcleenlaaAll2
/-
  Contracts of the landed planes: Copy. Conditions: the samples are not too many.
-/
namespace Go.Proofs.Ytlcjlgdcleenlaa
open Go.RowKit

theorem FrAt.pcopied {a : FrAt} {P : Pl} {w : World} (h : a.has w P) (hn : P.pix.length ≤ 1000000000000) :
    Calls Try.prog 41 #[.agg #[.int .i64 a.W, .int .i64 a.H, .slice a.A a.n a.c]] w fun e w' => ∃ b : FrAt, e = .returned (.agg #[.int .i64 b.W, .int .i64 b.H, .slice b.A b.n b.c]) ∧ b.mine w w' P := by
  obtain ⟨e1, e2, e3, e4⟩ := h
  rw [e3] at e4
  have := pcopied_any a.W a.H a.A a.c P.pix w e4 hn
  rw [← e3] at this
  refine this.mono ?_
  rintro e w' ⟨B, d, rfl, hM⟩
  exact ⟨⟨a.W, a.H, B, a.n, d⟩, rfl, e1, e2, e3, hM⟩

theorem FrAt.mine.old {a : FrAt} {w0 w1 w : World} {P : Pl} (h : a.mine w1 w P) (hf : Fr [] w0 w1) : a.mine w0 w P :=
  ⟨h.1, h.2.1, h.2.2.1, ⟨h.2.2.2.own, hf.trans h.2.2.2.fr (by simp), fun k hk => Nat.le_trans hf.size (h.2.2.2.new k hk)⟩⟩

set_option maxRecDepth 20000 in
set_option maxHeartbeats 8000000 in
theorem pcopy_any (y u v : FrAt) (F : Frm) (w : World) (h1 : y.has w F.y) (h2 : u.has w F.u) (h3 : v.has w F.v) (n1 : F.y.pix.length ≤ 1000000000000) (n2 : F.u.pix.length ≤ 1000000000000) (n3 : F.v.pix.length ≤ 1000000000000) :
    Calls Try.prog 33 #[frV y u v] w (CopyPost w F) := by
  have HH1 := Lib.hid fun W (hf : Fr [] w W) => FrAt.pcopied (h1.fr0 hf) n1
  have HH2 := Lib.hid fun W (hf : Fr [] w W) => FrAt.pcopied (h2.fr0 hf) n2
  have HH3 := Lib.hid fun W (hf : Fr [] w W) => FrAt.pcopied (h3.fr0 hf) n3
  obtain ⟨yW, yH, yA, yn, yc⟩ := y
  obtain ⟨uW, uH, uA, un, uc⟩ := u
  obtain ⟨vW, vH, vA, vn, vc⟩ := v
  simp only at HH1 HH2 HH3
  have hT := pairT 30 w #[.int .i64 yW, .int .i64 yH, .slice yA yn yc, .int .i64 uW, .int .i64 uH, .slice uA un uc, .int .i64 vW, .int .i64 vH, .slice vA vn vc] zeroF
  unfold zeroF at hT
  have HT := Lib.hid hT
  obtain ⟨L, hL⟩ : ∃ L, L = CopyPost w F := ⟨_, rfl⟩
  rw [← hL]
  have HL := Lib.hid hL
  clear hT hL h1 h2 h3
  unfold frV FrAt.cells
  simp only
  go_enter Try.func33, Try.ntmps33
  go_upto_region 1 with fail
  generalize World.alloc (World.alloc w _) _ = w1 at HT ⊢
  obtain ⟨g, hg⟩ : ∃ g, g = w.heap.size := ⟨_, rfl⟩
  rw [← hg] at HT ⊢
  obtain ⟨r, hr⟩ : ∃ r, r = g + 1 := ⟨_, rfl⟩
  rw [← hr] at HT ⊢
  clear hg hr
  have HT1 := Lib.hid (HT.out.fr0 (Fr.refl [] w1).drew)
  clear HT
  have q0 := HT1.out.bg.cell 0
  have q1 := HT1.out.bg.cell 1
  have q2 := HT1.out.bg.cell 2
  have q3 := HT1.out.bg.cell 3
  have q4 := HT1.out.bg.cell 4
  have q5 := HT1.out.bg.cell 5
  have q6 := HT1.out.bg.cell 6
  have q7 := HT1.out.bg.cell 7
  have q8 := HT1.out.bg.cell 8
  simp at q0 q1 q2 q3 q4 q5 q6 q7 q8
  refine wp_region_held_drew (S := fun Wq => Wq.cell? ⟨g, 0, none⟩ = some (.int .i64 yW) ∧ Wq.cell? ⟨g, 1, none⟩ = some (.int .i64 yH) ∧ Wq.cell? ⟨g, 2, none⟩ = some (.slice yA yn yc) ∧ Wq.cell? ⟨g, 3, none⟩ = some (.int .i64 uW) ∧ Wq.cell? ⟨g, 4, none⟩ = some (.int .i64 uH) ∧ Wq.cell? ⟨g, 5, none⟩ = some (.slice uA un uc) ∧ Wq.cell? ⟨g, 6, none⟩ = some (.int .i64 vW) ∧ Wq.cell? ⟨g, 7, none⟩ = some (.int .i64 vH) ∧ Wq.cell? ⟨g, 8, none⟩ = some (.slice vA vn vc)) (by kernel_rfl) ?_ (fun hHeld => ?_)
  · (first | exact ⟨p0, p1, p2, p3, p4, p5, p6, p7, p8⟩ | exact ⟨m0, m1, m2, m3, m4, m5, m6, m7, m8⟩ | exact ⟨l0, l1, l2, l3, l4, l5, l6, l7, l8⟩ | exact ⟨k0, k1, k2, k3, k4, k5, k6, k7, k8⟩ | exact ⟨q0, q1, q2, q3, q4, q5, q6, q7, q8⟩)
  refine wpAnyH_pick 0 (v := ?_) rfl (by kernel_rfl) (by kernel_rfl) (by kernel_rfl) (fun _ _ _ h => h) (by assumption) (by rfl) ?_ ?_
  rotate_left
  · (intro w hSw; (try dsimp only at hSw); go_simp) <;> (with_reducible rfl)
  (try simp only [Act.put, List.setIfInBounds_toArray, List.set_cons_zero, List.set_cons_succ])
  refine wpAnyH_pick 1 (v := ?_) rfl (by kernel_rfl) (by kernel_rfl) (by kernel_rfl) (fun _ _ _ h => h) (by assumption) (by rfl) ?_ ?_
  rotate_left
  · (intro w hSw; (try dsimp only at hSw); go_simp) <;> (with_reducible rfl)
  (try simp only [Act.put, List.setIfInBounds_toArray, List.set_cons_zero, List.set_cons_succ])
  refine wpAnyH_pick 3 (v := ?_) rfl (by kernel_rfl) (by kernel_rfl) (by kernel_rfl) (fun _ _ _ h => h) (by assumption) (by rfl) ?_ ?_
  rotate_left
  · (intro w hSw; (try dsimp only at hSw); go_simp) <;> (with_reducible rfl)
  (try simp only [Act.put, List.setIfInBounds_toArray, List.set_cons_zero, List.set_cons_succ])
  refine wpAnyH_pick 4 (v := ?_) rfl (by kernel_rfl) (by kernel_rfl) (by kernel_rfl) (fun _ _ _ h => h) (by assumption) (by rfl) ?_ ?_
  rotate_left
  · (intro w hSw; (try dsimp only at hSw); go_simp) <;> (with_reducible rfl)
  (try simp only [Act.put, List.setIfInBounds_toArray, List.set_cons_zero, List.set_cons_succ])
  refine wpAnyH_pick 6 (v := ?_) rfl (by kernel_rfl) (by kernel_rfl) (by kernel_rfl) (fun _ _ _ h => h) (by assumption) (by rfl) ?_ ?_
  rotate_left
  · (intro w hSw; (try dsimp only at hSw); go_simp) <;> (with_reducible rfl)
  (try simp only [Act.put, List.setIfInBounds_toArray, List.set_cons_zero, List.set_cons_succ])
  refine wpAnyH_pick 7 (v := ?_) rfl (by kernel_rfl) (by kernel_rfl) (by kernel_rfl) (fun _ _ _ h => h) (by assumption) (by rfl) ?_ ?_
  rotate_left
  · (intro w hSw; (try dsimp only at hSw); go_simp) <;> (with_reducible rfl)
  (try simp only [Act.put, List.setIfInBounds_toArray, List.set_cons_zero, List.set_cons_succ])
  refine wpAnyH_ready (rs := [2]) (by kernel_rfl) (by simp) ?_
  refine AllReadyH_pick rfl (fun K hK => ?_) (AllReadyH.nil)
  go_simp
  refine (HH1.out _ HT1.out.fr).mono ?_
  rintro e w2 ⟨⟨W1, H1, A1, n1, c1⟩, rfl, hm1⟩
  have hfm := hm1.2.2.2.fr
  have HT2 := Lib.hid (HT1.out.fr0 hfm); have HA1 := Lib.hid (hm1.old HT1.out.fr)
  have Hn1 := Lib.hid (fun k hk => (by have := hm1.2.2.2.new k hk; have := HT1.out.br.lt; omega) : ∀ k, (Value.slice A1 n1 c1).ownBlock = some k → k ≠ r)
  clear hfm hm1
  have k0 := HT2.out.bg.cell 0
  have k1 := HT2.out.bg.cell 1
  have k2 := HT2.out.bg.cell 2
  have k3 := HT2.out.bg.cell 3
  have k4 := HT2.out.bg.cell 4
  have k5 := HT2.out.bg.cell 5
  have k6 := HT2.out.bg.cell 6
  have k7 := HT2.out.bg.cell 7
  have k8 := HT2.out.bg.cell 8
  simp at k0 k1 k2 k3 k4 k5 k6 k7 k8
  go_wp2_with fail
  refine hK.out _ _ ?_ (fun hHeld => ?_)
  · (first | exact ⟨p0, p1, p2, p3, p4, p5, p6, p7, p8⟩ | exact ⟨m0, m1, m2, m3, m4, m5, m6, m7, m8⟩ | exact ⟨l0, l1, l2, l3, l4, l5, l6, l7, l8⟩ | exact ⟨k0, k1, k2, k3, k4, k5, k6, k7, k8⟩ | exact ⟨q0, q1, q2, q3, q4, q5, q6, q7, q8⟩)
  clear hK K
  (try simp only [Act.put, List.setIfInBounds_toArray, List.set_cons_zero, List.set_cons_succ])
  refine wpAnyH_ready (rs := [5]) (by kernel_rfl) (by simp) ?_
  refine AllReadyH_pick rfl (fun K hK => ?_) (AllReadyH.nil)
  go_simp
  refine (HH2.out _ HT2.out.fr).mono ?_
  rintro e w3 ⟨⟨W2, H2, A2, n2, c2⟩, rfl, hm2⟩
  have hfm := hm2.2.2.2.fr
  have HT3 := Lib.hid (HT2.out.fr0 hfm); have HA2 := Lib.hid (hm2.old HT2.out.fr)
  have Hn2 := Lib.hid (fun k hk => (by have := hm2.2.2.2.new k hk; have := HT2.out.br.lt; omega) : ∀ k, (Value.slice A2 n2 c2).ownBlock = some k → k ≠ r)
  have Haw12 := Lib.hid (fun k hk hk2 => (by have h1 := hm2.2.2.2.new k hk2; have h2 := HA1.out.2.2.2.own.lt k hk; omega) : ∀ k, (Value.slice A1 n1 c1).ownBlock = some k → (Value.slice A2 n2 c2).ownBlock ≠ some k)
  replace HA1 := Lib.hid (HA1.out.fr0 hfm)
  clear hfm hm2
  have l0 := HT3.out.bg.cell 0
  have l1 := HT3.out.bg.cell 1
  have l2 := HT3.out.bg.cell 2
  have l3 := HT3.out.bg.cell 3
  have l4 := HT3.out.bg.cell 4
  have l5 := HT3.out.bg.cell 5
  have l6 := HT3.out.bg.cell 6
  have l7 := HT3.out.bg.cell 7
  have l8 := HT3.out.bg.cell 8
  simp at l0 l1 l2 l3 l4 l5 l6 l7 l8
  go_wp2_with fail
  refine hK.out _ _ ?_ (fun hHeld => ?_)
  · (first | exact ⟨p0, p1, p2, p3, p4, p5, p6, p7, p8⟩ | exact ⟨m0, m1, m2, m3, m4, m5, m6, m7, m8⟩ | exact ⟨l0, l1, l2, l3, l4, l5, l6, l7, l8⟩ | exact ⟨k0, k1, k2, k3, k4, k5, k6, k7, k8⟩ | exact ⟨q0, q1, q2, q3, q4, q5, q6, q7, q8⟩)
  clear hK K
  (try simp only [Act.put, List.setIfInBounds_toArray, List.set_cons_zero, List.set_cons_succ])
  refine wpAnyH_ready (rs := [8]) (by kernel_rfl) (by simp) ?_
  refine AllReadyH_pick rfl (fun K hK => ?_) (AllReadyH.nil)
  go_simp
  refine (HH3.out _ HT3.out.fr).mono ?_
  rintro e w4 ⟨⟨W3, H3, A3, n3, c3⟩, rfl, hm3⟩
  have hfm := hm3.2.2.2.fr
  have HT4 := Lib.hid (HT3.out.fr0 hfm); have HA3 := Lib.hid (hm3.old HT3.out.fr)
  have Hn3 := Lib.hid (fun k hk => (by have := hm3.2.2.2.new k hk; have := HT3.out.br.lt; omega) : ∀ k, (Value.slice A3 n3 c3).ownBlock = some k → k ≠ r)
  have Haw13 := Lib.hid (fun k hk hk2 => (by have h1 := hm3.2.2.2.new k hk2; have h2 := HA1.out.2.2.2.own.lt k hk; omega) : ∀ k, (Value.slice A1 n1 c1).ownBlock = some k → (Value.slice A3 n3 c3).ownBlock ≠ some k)
  replace HA1 := Lib.hid (HA1.out.fr0 hfm)
  have Haw23 := Lib.hid (fun k hk hk2 => (by have h1 := hm3.2.2.2.new k hk2; have h2 := HA2.out.2.2.2.own.lt k hk; omega) : ∀ k, (Value.slice A2 n2 c2).ownBlock = some k → (Value.slice A3 n3 c3).ownBlock ≠ some k)
  replace HA2 := Lib.hid (HA2.out.fr0 hfm)
  clear hfm hm3
  have m0 := HT4.out.bg.cell 0
  have m1 := HT4.out.bg.cell 1
  have m2 := HT4.out.bg.cell 2
  have m3 := HT4.out.bg.cell 3
  have m4 := HT4.out.bg.cell 4
  have m5 := HT4.out.bg.cell 5
  have m6 := HT4.out.bg.cell 6
  have m7 := HT4.out.bg.cell 7
  have m8 := HT4.out.bg.cell 8
  simp at m0 m1 m2 m3 m4 m5 m6 m7 m8
  go_wp2_with fail
  refine hK.out _ _ ?_ (fun hHeld => ?_)
  · (first | exact ⟨p0, p1, p2, p3, p4, p5, p6, p7, p8⟩ | exact ⟨m0, m1, m2, m3, m4, m5, m6, m7, m8⟩ | exact ⟨l0, l1, l2, l3, l4, l5, l6, l7, l8⟩ | exact ⟨k0, k1, k2, k3, k4, k5, k6, k7, k8⟩ | exact ⟨q0, q1, q2, q3, q4, q5, q6, q7, q8⟩)
  clear hK K
  (try simp only [Act.put, List.setIfInBounds_toArray, List.set_cons_zero, List.set_cons_succ])
  refine wpAnyH_pick 9 (v := ?_) rfl (by kernel_rfl) (by kernel_rfl) (by kernel_rfl) (fun _ _ _ h => h) (by assumption) (by rfl) ?_ ?_
  rotate_left
  · (intro w hSw; (try dsimp only at hSw); go_simp) <;> (with_reducible rfl)
  (try simp only [Act.put, List.setIfInBounds_toArray, List.set_cons_zero, List.set_cons_succ])
  refine wpAnyH_ready (rs := [10]) (by kernel_rfl) (by simp) ?_
  refine AllReadyH_pick rfl (fun K hK => ?_) (AllReadyH.nil)
  simp only
  have d0 := HT4.out.br.cell 0
  have d1 := HT4.out.br.cell 1
  have d2 := HT4.out.br.cell 2
  have d3 := HT4.out.br.cell 3
  have d4 := HT4.out.br.cell 4
  have d5 := HT4.out.br.cell 5
  have d6 := HT4.out.br.cell 6
  have d7 := HT4.out.br.cell 7
  have d8 := HT4.out.br.cell 8
  have f0 := HT4.out.br.frozen 0
  have f1 := HT4.out.br.frozen 1
  have f2 := HT4.out.br.frozen 2
  have f3 := HT4.out.br.frozen 3
  have f4 := HT4.out.br.frozen 4
  have f5 := HT4.out.br.frozen 5
  have f6 := HT4.out.br.frozen 6
  have f7 := HT4.out.br.frozen 7
  have f8 := HT4.out.br.frozen 8
  have hlr := HT4.out.br.lt
  simp at d0 d1 d2 d3 d4 d5 d6 d7 d8
  have HR : Hid (ResF w w4 r) := Lib.hid ⟨HT4.out.fr, by rw [HT4.out.er, HT4.out.eg]; omega, HT4.out.br⟩
  obtain ⟨hb5, hf5, hf6⟩ := HR.out.stored (.int .i64 W1) (.int .i64 H1) (.slice A1 n1 c1) (.int .i64 W2) (.int .i64 H2) (.slice A2 n2 c2) (.int .i64 W3) (.int .i64 H3) (.slice A3 n3 c3)
  unfold store9 at hb5 hf5 hf6
  have HB5 := Lib.hid hb5; have HF5 := Lib.hid hf5; have HF6 := Lib.hid hf6
  clear hb5 hf5 hf6
  have hbg := HT4.out.bg.fr HF6.out (by simp; have := HT4.out.er; omega)
  have p0 : (((((((((((w4.setCell ⟨r, 0, none⟩ (.int .i64 W1)).setCell ⟨r, 1, none⟩ (.int .i64 H1)).setCell ⟨r, 2, none⟩ (.slice A1 n1 c1)).setCell ⟨r, 3, none⟩ (.int .i64 W2)).setCell ⟨r, 4, none⟩ (.int .i64 H2)).setCell ⟨r, 5, none⟩ (.slice A2 n2 c2)).setCell ⟨r, 6, none⟩ (.int .i64 W3)).setCell ⟨r, 7, none⟩ (.int .i64 H3)).setCell ⟨r, 8, none⟩ (.slice A3 n3 c3)))).cell? ⟨g, 0, none⟩ = some (.int .i64 yW) := hbg.cell 0
  have p1 : (((((((((((w4.setCell ⟨r, 0, none⟩ (.int .i64 W1)).setCell ⟨r, 1, none⟩ (.int .i64 H1)).setCell ⟨r, 2, none⟩ (.slice A1 n1 c1)).setCell ⟨r, 3, none⟩ (.int .i64 W2)).setCell ⟨r, 4, none⟩ (.int .i64 H2)).setCell ⟨r, 5, none⟩ (.slice A2 n2 c2)).setCell ⟨r, 6, none⟩ (.int .i64 W3)).setCell ⟨r, 7, none⟩ (.int .i64 H3)).setCell ⟨r, 8, none⟩ (.slice A3 n3 c3)))).cell? ⟨g, 1, none⟩ = some (.int .i64 yH) := hbg.cell 1
  have p2 : (((((((((((w4.setCell ⟨r, 0, none⟩ (.int .i64 W1)).setCell ⟨r, 1, none⟩ (.int .i64 H1)).setCell ⟨r, 2, none⟩ (.slice A1 n1 c1)).setCell ⟨r, 3, none⟩ (.int .i64 W2)).setCell ⟨r, 4, none⟩ (.int .i64 H2)).setCell ⟨r, 5, none⟩ (.slice A2 n2 c2)).setCell ⟨r, 6, none⟩ (.int .i64 W3)).setCell ⟨r, 7, none⟩ (.int .i64 H3)).setCell ⟨r, 8, none⟩ (.slice A3 n3 c3)))).cell? ⟨g, 2, none⟩ = some (.slice yA yn yc) := hbg.cell 2
  have p3 : (((((((((((w4.setCell ⟨r, 0, none⟩ (.int .i64 W1)).setCell ⟨r, 1, none⟩ (.int .i64 H1)).setCell ⟨r, 2, none⟩ (.slice A1 n1 c1)).setCell ⟨r, 3, none⟩ (.int .i64 W2)).setCell ⟨r, 4, none⟩ (.int .i64 H2)).setCell ⟨r, 5, none⟩ (.slice A2 n2 c2)).setCell ⟨r, 6, none⟩ (.int .i64 W3)).setCell ⟨r, 7, none⟩ (.int .i64 H3)).setCell ⟨r, 8, none⟩ (.slice A3 n3 c3)))).cell? ⟨g, 3, none⟩ = some (.int .i64 uW) := hbg.cell 3
  have p4 : (((((((((((w4.setCell ⟨r, 0, none⟩ (.int .i64 W1)).setCell ⟨r, 1, none⟩ (.int .i64 H1)).setCell ⟨r, 2, none⟩ (.slice A1 n1 c1)).setCell ⟨r, 3, none⟩ (.int .i64 W2)).setCell ⟨r, 4, none⟩ (.int .i64 H2)).setCell ⟨r, 5, none⟩ (.slice A2 n2 c2)).setCell ⟨r, 6, none⟩ (.int .i64 W3)).setCell ⟨r, 7, none⟩ (.int .i64 H3)).setCell ⟨r, 8, none⟩ (.slice A3 n3 c3)))).cell? ⟨g, 4, none⟩ = some (.int .i64 uH) := hbg.cell 4
  have p5 : (((((((((((w4.setCell ⟨r, 0, none⟩ (.int .i64 W1)).setCell ⟨r, 1, none⟩ (.int .i64 H1)).setCell ⟨r, 2, none⟩ (.slice A1 n1 c1)).setCell ⟨r, 3, none⟩ (.int .i64 W2)).setCell ⟨r, 4, none⟩ (.int .i64 H2)).setCell ⟨r, 5, none⟩ (.slice A2 n2 c2)).setCell ⟨r, 6, none⟩ (.int .i64 W3)).setCell ⟨r, 7, none⟩ (.int .i64 H3)).setCell ⟨r, 8, none⟩ (.slice A3 n3 c3)))).cell? ⟨g, 5, none⟩ = some (.slice uA un uc) := hbg.cell 5
  have p6 : (((((((((((w4.setCell ⟨r, 0, none⟩ (.int .i64 W1)).setCell ⟨r, 1, none⟩ (.int .i64 H1)).setCell ⟨r, 2, none⟩ (.slice A1 n1 c1)).setCell ⟨r, 3, none⟩ (.int .i64 W2)).setCell ⟨r, 4, none⟩ (.int .i64 H2)).setCell ⟨r, 5, none⟩ (.slice A2 n2 c2)).setCell ⟨r, 6, none⟩ (.int .i64 W3)).setCell ⟨r, 7, none⟩ (.int .i64 H3)).setCell ⟨r, 8, none⟩ (.slice A3 n3 c3)))).cell? ⟨g, 6, none⟩ = some (.int .i64 vW) := hbg.cell 6
  have p7 : (((((((((((w4.setCell ⟨r, 0, none⟩ (.int .i64 W1)).setCell ⟨r, 1, none⟩ (.int .i64 H1)).setCell ⟨r, 2, none⟩ (.slice A1 n1 c1)).setCell ⟨r, 3, none⟩ (.int .i64 W2)).setCell ⟨r, 4, none⟩ (.int .i64 H2)).setCell ⟨r, 5, none⟩ (.slice A2 n2 c2)).setCell ⟨r, 6, none⟩ (.int .i64 W3)).setCell ⟨r, 7, none⟩ (.int .i64 H3)).setCell ⟨r, 8, none⟩ (.slice A3 n3 c3)))).cell? ⟨g, 7, none⟩ = some (.int .i64 vH) := hbg.cell 7
  have p8 : (((((((((((w4.setCell ⟨r, 0, none⟩ (.int .i64 W1)).setCell ⟨r, 1, none⟩ (.int .i64 H1)).setCell ⟨r, 2, none⟩ (.slice A1 n1 c1)).setCell ⟨r, 3, none⟩ (.int .i64 W2)).setCell ⟨r, 4, none⟩ (.int .i64 H2)).setCell ⟨r, 5, none⟩ (.slice A2 n2 c2)).setCell ⟨r, 6, none⟩ (.int .i64 W3)).setCell ⟨r, 7, none⟩ (.int .i64 H3)).setCell ⟨r, 8, none⟩ (.slice A3 n3 c3)))).cell? ⟨g, 8, none⟩ = some (.slice vA vn vc) := hbg.cell 8
  clear hbg
  go_simp
  refine hK.out _ _ ?_ (fun hHeld => ?_)
  · (first | exact ⟨p0, p1, p2, p3, p4, p5, p6, p7, p8⟩ | exact ⟨m0, m1, m2, m3, m4, m5, m6, m7, m8⟩ | exact ⟨l0, l1, l2, l3, l4, l5, l6, l7, l8⟩ | exact ⟨k0, k1, k2, k3, k4, k5, k6, k7, k8⟩ | exact ⟨q0, q1, q2, q3, q4, q5, q6, q7, q8⟩)
  clear hK K
  (try simp only [Act.put, List.setIfInBounds_toArray, List.set_cons_zero, List.set_cons_succ])
  refine wpAnyH_done (by kernel_rfl) ?_ _
  skip
  go_wp2_with fail
  refine bodyPost_ret (results_cell_row Try.results33 _ _ r 30 _ (0, 0) _ rfl HB5.out.here Try.underlying30 rfl (by kernel_rfl)) rfl ?_
  rw [HL.out]
  have hwr : w.heap.size ≤ r := by have h1 := HT4.out.er; have h2 := HT4.out.eg; omega
  have fin : ∀ (a : FrAt) (P : Pl), a.mine w w4 P → (∀ k, (Value.slice a.A a.n a.c).ownBlock = some k → k ≠ r) → a.mine w _ P := fun a P h hn => ⟨h.1, h.2.1, h.2.2.1, h.2.2.2.other HF6.out hwr hn⟩
  exact ⟨⟨W1, H1, A1, n1, c1⟩, ⟨W2, H2, A2, n2, c2⟩, ⟨W3, H3, A3, n3, c3⟩, rfl, fin _ _ HA1.out Hn1.out, fin _ _ HA2.out Hn2.out, fin _ _ HA3.out Hn3.out, Haw12.out, Haw13.out, Haw23.out⟩
end Go.Proofs.Ytlcjlgdcleenlaa

/-
  Contracts of the landed planes: At. Conditions: the samples are not too many.
-/
namespace Go.Proofs.Ytlcjlgdcleenlaa
open Go.RowKit

/-- A right plane's facts, by natural numbers. -/
structure OkAt (W H : Nat) (n c : Nat) : Prop where
  w1 : 1 ≤ W
  w2 : W ≤ 4096
  h1 : 1 ≤ H
  h2 : H ≤ 4096
  n_ : n = W * H
  c_ : n ≤ c
theorem ok_at {W H : Int} {pix : List UInt8} {A : Option Addr} {c : Nat} {w : World} (hok : Pl.ok ⟨W, H, pix⟩ = true) (hs : Src w (.slice A pix.length c) (pix.map B8)) :
    ∃ (W' H' : Nat) (ad : Addr), W = (W' : Int) ∧ H = (H' : Int) ∧ A = some ad ∧ OkAt W' H' pix.length c := by
  obtain ⟨W', H', e1, e2, w1, w2, h1, h2, hl⟩ := Pl.ok_nat hok
  simp only at e1 e2 hl
  have hpos : 0 < pix.length := by rw [hl]; exact Nat.mul_pos w1 h1
  rcases hs with ⟨e, h0⟩ | ⟨ad, c', e, hle, -⟩
  · have := congrArg List.length h0
    rw [List.length_map, List.length_nil] at this
    omega
  · injection e with q1 q2 q3
    rw [List.length_map] at hle
    exact ⟨W', H', ad, e1, e2, q1, w1, w2, h1, h2, hl, by omega⟩

set_option maxRecDepth 20000 in
set_option maxHeartbeats 4000000 in
theorem at_any (W H : Int) (A : Option Addr) (c : Nat) (pix : List UInt8) (x y : Int) (w : World) (hs : Src w (.slice A pix.length c) (pix.map B8)) (hn : pix.length ≤ 1000000000000) :
    Calls Try.prog 31 #[plV W H A pix.length c, .int .i64 x, .int .i64 y] w fun e w' => e = .returned (B8 (Pl.at_ ⟨W, H, pix⟩ x y)) ∧ Fr [] w w' := by
  have HR := Lib.hid fun w => right_any W H A c pix w hn
  obtain ⟨s, hs0⟩ : ∃ s, s = Pl.at_ ⟨W, H, pix⟩ x y := ⟨_, rfl⟩
  rw [← hs0]
  cases hok : Pl.ok ⟨W, H, pix⟩
  · rw [hok] at HR
    obtain rfl : s = 0 := by rw [hs0]; unfold Pl.at_; rw [hok]; rfl
    have hF : Fr [] w (w.alloc (.cells #[.int .i64 W, .int .i64 H, .slice A pix.length c] 25)) := (Fr.refl _ _).alloc _
    have HF := Lib.hid hF
    clear hs0 hF hok hs
    unfold plV at HR ⊢
    go_enter Try.func31, Try.ntmps31
    go_wp2_with fail
    refine (HR.out _).mono ?_
    rintro e w1 ⟨rfl, hF1⟩
    have HF1 := Lib.hid (HF.out.trans hF1 (by simp))
    clear hF1
    go_wp2_with fail
    go_ret
    exact ⟨rfl, HF1.out⟩
  · rw [hok] at HR
    obtain ⟨W', H', ad, rfl, rfl, rfl, hO⟩ := ok_at hok hs
    obtain ⟨k, hk, hkl⟩ := near_idx (P := ⟨(W' : Int), (H' : Int), pix⟩) hok x y
    simp only at hk hkl
    have hsk : s = pix.getD k 0 := by
      rw [hs0]
      unfold Pl.at_ Pl.smp
      rw [hok]
      simp only [if_true]
      rw [hk]
      simp
    have hx : pix[k]? = some s := by rw [hsk, List.getD_eq_getElem?_getD, List.getElem?_eq_getElem hkl]; rfl
    obtain ⟨n, hnn⟩ : ∃ n, n = pix.length := ⟨_, rfl⟩
    rw [← hnn] at hs hn hkl HR hO ⊢
    obtain ⟨n1, n2⟩ := nearI_range x (n := (W' : Int)) (by have := hO.w1; omega)
    obtain ⟨n3, n4⟩ := nearI_range y (n := (H' : Int)) (by have := hO.h1; omega)
    obtain ⟨NX, hNX⟩ : ∃ NX : Nat, (NX : Int) = nearI x W' := ⟨(nearI x W').toNat, by omega⟩
    obtain ⟨NY, hNY⟩ : ∃ NY : Nat, (NY : Int) = nearI y H' := ⟨(nearI y H').toNat, by omega⟩
    have hX := fun w => nearest_any x 0 ((W' : Int) - 1) w
    have hY := fun w => nearest_any y 0 ((H' : Int) - 1) w
    rw [nst_near x (by have := hO.w1; omega), ← hNX] at hX
    rw [nst_near y (by have := hO.h1; omega), ← hNY] at hY
    have hkM : k = NY * W' + NX := by
      rw [← hNX, ← hNY] at hk
      have : ((NY * W' + NX : Nat) : Int) = (k : Int) := by simp; exact hk
      omega
    have hNXl : NX < W' := by omega
    have hRow := fun w => row_any W' H' NY ad n c w hO.w1 hO.w2 hO.h2 (by omega) hO.n_ hO.c_
    obtain ⟨M, hM⟩ : ∃ M, M = NY * W' := ⟨_, rfl⟩
    rw [← hM] at hRow hkM
    obtain ⟨ad', e, hcell⟩ := hs.cellAt hx
    injection e with e
    subst e
    have hcell : w.cell? ((ad.add M).add NX) = some (.int .u8 (s.toNat : Int)) := by rw [addr_add_add, ← hkM]; exact hcell
    have hB := Blk.new w 25 #[.int .i64 (W' : Int), .int .i64 (H' : Int), .slice (some ad) n c]
    have hF : Fr [] w (w.alloc (.cells #[.int .i64 (W' : Int), .int .i64 (H' : Int), .slice (some ad) n c] 25)) := (Fr.refl _ _).alloc _
    have HB := Lib.hid hB; have HF := Lib.hid hF; have Hcell := Lib.hid hcell; have HX := Lib.hid hX; have HY := Lib.hid hY; have HRow := Lib.hid hRow
    have z1 : (NX : Int) < (W' : Int) := by omega
    have z2 := hO.w2
    have z3 := hO.h2
    have z4 := hO.w1
    have z5 := hO.h1
    have wW : IntKind.i64.wrap ((W' : Int) - 1) = (W' : Int) - 1 := IntWalk.i64_in _ (by omega)
    have wH : IntKind.i64.wrap ((H' : Int) - 1) = (H' : Int) - 1 := IntWalk.i64_in _ (by omega)
    clear hs0 hok hs hsk hx hnn hNX hNY hM hk hB hF hcell hX hY hRow hO hkM hkl
    unfold plV at HR HRow ⊢
    go_enter Try.func31, Try.ntmps31
    go_wp2_with fail
    refine (HR.out _).mono ?_
    rintro e w1 ⟨rfl, hF1⟩
    have hB1 := (HB.out.fr hF1 (by simp)).drew
    obtain ⟨g, hg⟩ : ∃ g, g = w.heap.size := ⟨_, rfl⟩
    rw [← hg] at hB1 ⊢
    have hF2 := (HF.out.trans hF1 (by simp)).drew
    have cx : w1.drew.cell? ((ad.add M).add NX) = some (.int .u8 (s.toNat : Int)) := (hF2.cell (World.block_lt_of_cell? w _ Hcell.out) (by simp)).trans Hcell.out
    have c0 := hB1.cell 0
    have c1 := hB1.cell 1
    have c2 := hB1.cell 2
    simp at c0 c1 c2
    have HF2 := Lib.hid hF2; have HB1 := Lib.hid hB1
    clear hF1 hB1 hF2 HB HF hg
    go_upto_region 3 with fail
    refine wp_region_held_drew (S := fun W => W.cell? ⟨g, 0, none⟩ = some (.int .i64 (W' : Int)) ∧ W.cell? ⟨g, 1, none⟩ = some (.int .i64 (H' : Int)) ∧ W.cell? ⟨g, 2, none⟩ = some (.slice (some ad) n c) ∧ W.cell? ((ad.add M).add NX) = some (.int .u8 (s.toNat : Int))) (by kernel_rfl) ?_ (fun hHeld => ?_)
    · (first | exact ⟨k0, k1, k2, kx⟩ | exact ⟨c0, c1, c2, cx⟩)
    refine wpAnyH_pick 0 (v := ?_) rfl (by kernel_rfl) (by kernel_rfl) (by kernel_rfl) (fun _ _ _ h => h) (by assumption) (by rfl) ?_ ?_
    rotate_left
    · (intro w hSw; (try dsimp only at hSw); go_simp) <;> (with_reducible rfl)
    (try simp only [Act.put, List.setIfInBounds_toArray, List.set_cons_zero, List.set_cons_succ])
    refine wpAnyH_pick 1 (v := ?_) rfl (by kernel_rfl) (by kernel_rfl) (by kernel_rfl) (fun _ _ _ h => h) (by assumption) (by rfl) ?_ ?_
    rotate_left
    · (intro w hSw; (try dsimp only at hSw); go_simp) <;> (with_reducible rfl)
    (try simp only [Act.put, List.setIfInBounds_toArray, List.set_cons_zero, List.set_cons_succ])
    refine wpAnyH_pick 2 (v := ?_) rfl (by kernel_rfl) (by kernel_rfl) (by kernel_rfl) (fun _ _ _ h => h) (by assumption) (by rfl) ?_ ?_
    rotate_left
    · (intro w hSw; (try dsimp only at hSw); go_simp) <;> (with_reducible rfl)
    (try simp only [Act.put, List.setIfInBounds_toArray, List.set_cons_zero, List.set_cons_succ])
    refine wpAnyH_pick 3 (v := ?_) rfl (by kernel_rfl) (by kernel_rfl) (by kernel_rfl) (fun _ _ _ h => h) (by assumption) (by rfl) ?_ ?_
    rotate_left
    · (intro w hSw; (try dsimp only at hSw); go_simp) <;> (with_reducible rfl)
    (try simp only [Act.put, List.setIfInBounds_toArray, List.set_cons_zero, List.set_cons_succ])
    refine wpAnyH_pick 4 (v := ?_) rfl (by kernel_rfl) (by kernel_rfl) (by kernel_rfl) (fun _ _ _ h => h) (by assumption) (by rfl) ?_ ?_
    rotate_left
    · (intro w hSw; (try dsimp only at hSw); go_simp) <;> (with_reducible rfl)
    (try simp only [Act.put, List.setIfInBounds_toArray, List.set_cons_zero, List.set_cons_succ])
    refine wpAnyH_pick 7 (v := ?_) rfl (by kernel_rfl) (by kernel_rfl) (by kernel_rfl) (fun _ _ _ h => h) (by assumption) (by rfl) ?_ ?_
    rotate_left
    · (intro w hSw; (try dsimp only at hSw); go_simp) <;> (with_reducible rfl)
    (try simp only [Act.put, List.setIfInBounds_toArray, List.set_cons_zero, List.set_cons_succ])
    refine wpAnyH_pick 8 (v := ?_) rfl (by kernel_rfl) (by kernel_rfl) (by kernel_rfl) (fun _ _ _ h => h) (by assumption) (by rfl) ?_ ?_
    rotate_left
    · (intro w hSw; (try dsimp only at hSw); go_simp) <;> (with_reducible rfl)
    (try simp only [Act.put, List.setIfInBounds_toArray, List.set_cons_zero, List.set_cons_succ])
    refine wpAnyH_pick 9 (v := ?_) rfl (by kernel_rfl) (by kernel_rfl) (by kernel_rfl) (fun _ _ _ h => h) (by assumption) (by rfl) ?_ ?_
    rotate_left
    · (intro w hSw; (try dsimp only at hSw); go_simp) <;> (with_reducible rfl)
    (try simp only [Act.put, List.setIfInBounds_toArray, List.set_cons_zero, List.set_cons_succ])
    refine wpAnyH_pick 10 (v := ?_) rfl (by kernel_rfl) (by kernel_rfl) (by kernel_rfl) (fun _ _ _ h => h) (by assumption) (by rfl) ?_ ?_
    rotate_left
    · (intro w hSw; (try dsimp only at hSw); go_simp) <;> (with_reducible rfl)
    (try simp only [Act.put, List.setIfInBounds_toArray, List.set_cons_zero, List.set_cons_succ])
    refine wpAnyH_ready (rs := [5]) (by kernel_rfl) (by simp) ?_
    refine AllReadyH_pick rfl (fun K hK => ?_) (AllReadyH.nil)
    go_simp
    refine (HY.out _).mono ?_
    rintro e w2 ⟨rfl, rfl⟩
    go_wp2_with fail
    refine hK.out _ _ ?_ (fun hHeld => ?_)
    · (first | exact ⟨k0, k1, k2, kx⟩ | exact ⟨c0, c1, c2, cx⟩)
    clear hK K
    (try simp only [Act.put, List.setIfInBounds_toArray, List.set_cons_zero, List.set_cons_succ])
    refine wpAnyH_ready (rs := [6]) (by kernel_rfl) (by simp) ?_
    refine AllReadyH_pick rfl (fun K hK => ?_) (AllReadyH.nil)
    go_simp
    refine (HRow.out _).mono ?_
    rintro e w3 ⟨rfl, hF3⟩
    have hB3 := HB1.out.fr hF3 (by simp)
    have k0 := hB3.cell 0
    have k1 := hB3.cell 1
    have k2 := hB3.cell 2
    simp at k0 k1 k2
    have HF3 := Lib.hid (HF2.out.trans hF3 (by simp))
    have kx := (HF3.out.cell (World.block_lt_of_cell? w _ Hcell.out) (by simp)).trans Hcell.out
    clear hB3 hF3
    go_wp2_with fail
    refine hK.out _ _ ?_ (fun hHeld => ?_)
    · (first | exact ⟨k0, k1, k2, kx⟩ | exact ⟨c0, c1, c2, cx⟩)
    clear hK K
    (try simp only [Act.put, List.setIfInBounds_toArray, List.set_cons_zero, List.set_cons_succ])
    refine wpAnyH_ready (rs := [11]) (by kernel_rfl) (by simp) ?_
    refine AllReadyH_pick rfl (fun K hK => ?_) (AllReadyH.nil)
    go_simp
    refine (HX.out _).mono ?_
    rintro e w4 ⟨rfl, rfl⟩
    go_wp2_with fail
    refine hK.out _ _ ?_ (fun hHeld => ?_)
    · (first | exact ⟨k0, k1, k2, kx⟩ | exact ⟨c0, c1, c2, cx⟩)
    clear hK K
    (try simp only [Act.put, List.setIfInBounds_toArray, List.set_cons_zero, List.set_cons_succ])
    refine wpAnyH_pick 12 (v := ?_) rfl (by kernel_rfl) (by kernel_rfl) (by kernel_rfl) (fun _ _ _ h => h) (by assumption) (by rfl) ?_ ?_
    rotate_left
    · (intro w hSw; (try dsimp only at hSw); go_simp) <;> (with_reducible rfl)
    (try simp only [Act.put, List.setIfInBounds_toArray, List.set_cons_zero, List.set_cons_succ])
    refine wpAnyH_pick 13 (v := ?_) rfl (by kernel_rfl) (by kernel_rfl) (by kernel_rfl) (fun _ _ _ h => h) (by assumption) (by rfl) ?_ ?_
    rotate_left
    · (intro w hSw; (try dsimp only at hSw); go_simp) <;> (with_reducible rfl)
    (try simp only [Act.put, List.setIfInBounds_toArray, List.set_cons_zero, List.set_cons_succ])
    refine wpAnyH_pick 14 (v := ?_) rfl (by kernel_rfl) (by kernel_rfl) (by kernel_rfl) (fun _ _ _ h => h) (by assumption) (by rfl) ?_ ?_
    rotate_left
    · (intro w hSw; (try dsimp only at hSw); go_simp) <;> (with_reducible rfl)
    (try simp only [Act.put, List.setIfInBounds_toArray, List.set_cons_zero, List.set_cons_succ])
    refine wpAnyH_done (by kernel_rfl) ?_ _
    skip
    go_wp2_with fail
    go_ret
    exact ⟨rfl, HF3.out.trans ((Fr.refl [] _)) (by simp)⟩
end Go.Proofs.Ytlcjlgdcleenlaa

/-
  Contracts of the landed planes: Block. Conditions: the samples are not too many, the numbers are an int's.
-/
namespace Go.Proofs.Ytlcjlgdcleenlaa
open Go.RowKit

/-- A plane's row of samples. -/
def prow (pix : List UInt8) (W y : Nat) : List UInt8 := (pix.drop (y * W)).take W
theorem OkAt.fits {W H n c y : Nat} (h : OkAt W H n c) (hy : y < H) : y * W + W ≤ n := by
  have : (y + 1) * W ≤ H * W := Nat.mul_le_mul_right _ hy
  rw [Nat.add_mul, Nat.one_mul, Nat.mul_comm H, ← h.n_] at this
  exact this
theorem prow_length {W H c y : Nat} {pix : List UInt8} (h : OkAt W H pix.length c) (hy : y < H) : (prow pix W y).length = W := by
  have := h.fits hy
  unfold prow
  rw [List.length_take, List.length_drop]
  omega
theorem prow_getD {W H c y k : Nat} {pix : List UInt8} (h : OkAt W H pix.length c) (hy : y < H) (hk : k < W) : (prow pix W y).getD k 0 = pix.getD (y * W + k) 0 := by
  have := h.fits hy
  unfold prow
  rw [List.getD_eq_getElem?_getD, List.getD_eq_getElem?_getD, List.getElem?_take, if_pos hk, List.getElem?_drop]
theorem row_src {w : World} {W H c y : Nat} {ad : Addr} {pix : List UInt8} (h : OkAt W H pix.length c) (hs : Src w (.slice (some ad) pix.length c) (pix.map B8)) (hy : y < H) :
    Src w (.slice (some (ad.add (y * W))) W (c - y * W)) ((prow pix W y).map B8) := by
  have hf := h.fits hy
  have h1 := h.w1
  have h2 := h.c_
  have hd := hs.drop (k := y * W) (by omega)
  rw [if_neg (by omega)] at hd
  have := Src.upto (m := W) hd (by omega)
  unfold prow
  rw [List.map_take, List.map_drop]
  exact this
/-- The samples got from a row are the square's row. -/
theorem rowGet_sq {W H c : Nat} {pix : List UInt8} (h : OkAt W H pix.length c) (x y : Int) (N i NY : Nat) (hN : N ≤ 64) (hi : i < N) (hNY : (NY : Int) = nearI (y + i) H) :
    rowGet (prow pix W NY) (nst x (-64) 4096) N = (List.range N).map fun j => Pl.sq ⟨(W : Int), (H : Int), pix⟩ x y N (i * N + j) := by
  have hH := nearI_range (y + i) (n := (H : Int)) (by have := h.h1; omega)
  have hy : NY < H := by omega
  unfold rowGet
  rw [prow_length h hy]
  apply List.map_congr_left
  intro j hj
  rw [List.mem_range] at hj
  rw [near_nst x j (by have := h.w1; omega) (by have := h.w2; omega) (by omega) (by omega)]
  have hW := nearI_range (x + j) (n := (W : Int)) (by have := h.w1; omega)
  rw [prow_getD h hy (by omega)]
  unfold Pl.sq Pl.smp
  have e1 : (i * N + j) % N = j := by rw [Nat.mul_comm, Nat.mul_add_mod, Nat.mod_eq_of_lt hj]
  have e2 : (i * N + j) / N = i := by rw [Nat.mul_comm, Nat.mul_add_div (by omega), Nat.div_eq_of_lt hj, Nat.add_zero]
  simp only [e1, e2]
  rw [← hNY]
  obtain ⟨k, hk⟩ : ∃ k : Nat, nearI (x + (j : Int)) (W : Int) = (k : Int) := ⟨(nearI (x + (j : Int)) (W : Int)).toNat, by omega⟩
  rw [hk]
  congr 1
theorem splice_next {α : Type} (Z A B : List α) (h : A.length + B.length ≤ Z.length) : splice (splice Z 0 A) A.length B = splice Z 0 (A ++ B) := by
  apply List.ext_getElem?
  intro j
  rw [splice_get _ _ _ (by rw [length_splice _ _ _ (by omega)]; omega), splice_get _ _ _ (by omega), splice_get _ _ _ (by simp; omega)]
  by_cases h1 : A.length ≤ j ∧ j < A.length + B.length
  · rw [if_pos h1, if_pos (by simp; omega), Nat.sub_zero, List.getElem?_append_right h1.1]
  · rw [if_neg h1]
    by_cases h2 : j < A.length
    · rw [if_pos (by omega), if_pos (by simp; omega), Nat.sub_zero, List.getElem?_append_left h2]
    · rw [if_neg (by omega), if_neg (by simp; omega)]
/-- The first m samples of a square. -/
def sqs (P : Pl) (x y : Int) (N m : Nat) : List UInt8 := (List.range m).map (P.sq x y N)
theorem sqs_length (P : Pl) (x y : Int) (N m : Nat) : (sqs P x y N m).length = m := by simp [sqs]
theorem sqs_next (P : Pl) (x y : Int) (N i : Nat) : sqs P x y N (i * N) ++ ((List.range N).map fun j => P.sq x y N (i * N + j)) = sqs P x y N ((i + 1) * N) := by
  unfold sqs
  rw [Nat.add_mul, Nat.one_mul, List.range_add, List.map_append, List.map_map]
  rfl

set_option maxRecDepth 20000 in
set_option maxHeartbeats 4000000 in
theorem block_nil (W H : Int) (A : Option Addr) (c : Nat) (pix : List UInt8) (x y n : Int) (w : World) (hn : pix.length ≤ 1000000000000) (hbad : ¬ (Pl.ok ⟨W, H, pix⟩ = true ∧ spanOk n = true)) :
    Calls Try.prog 30 #[plV W H A pix.length c, .int .i64 x, .int .i64 y, .int .i64 n] w (BsPost w (Pl.block ⟨W, H, pix⟩ x y n)) := by
  have hb : Pl.block ⟨W, H, pix⟩ x y n = [] := by
    unfold Pl.block
    rw [if_neg]
    intro h
    simp at h
    exact hbad h
  rw [hb]
  have HR := Lib.hid fun w => right_any W H A c pix w hn
  have HN := Lib.hid fun w => isBlock_any n w
  have hF : Fr [] w (w.alloc (.cells #[.int .i64 W, .int .i64 H, .slice A pix.length c] 25)) := (Fr.refl _ _).alloc _
  have HF := Lib.hid hF
  clear hF hb hn
  unfold plV at HR ⊢
  cases hok : Pl.ok ⟨W, H, pix⟩
  · rw [hok] at HR
    clear hbad hok
    go_enter Try.func30, Try.ntmps30
    go_wp2_with fail
    refine (HR.out _).mono ?_
    rintro e w1 ⟨rfl, hF1⟩
    have HF1 := Lib.hid (HF.out.trans hF1 (by simp))
    clear hF1
    go_wp2_with fail
    go_ret
    exact ⟨none, 0, rfl, .inl ⟨rfl, rfl⟩, HF1.out⟩
  · cases hsp : spanOk n
    · rw [hok] at HR
      rw [hsp] at HN
      clear hbad hok hsp
      go_enter Try.func30, Try.ntmps30
      go_wp2_with fail
      refine (HR.out _).mono ?_
      rintro e w1 ⟨rfl, hF1⟩
      have HF1 := Lib.hid (HF.out.trans hF1 (by simp))
      clear hF1
      go_wp2_with fail
      refine (HN.out _).mono ?_
      rintro e w2 ⟨rfl, rfl⟩
      go_wp2_with fail
      go_ret
      exact ⟨none, 0, rfl, .inl ⟨rfl, rfl⟩, HF1.out⟩
    · exact absurd ⟨hok, hsp⟩ hbad

/-- While a block is got: the argument's box g, the block's samples in x. -/
structure GotAt (w wr : World) (g b : Nat) (cs : Array Value) (NN : Nat) (xs : List UInt8) : Prop where
  fr : Fr [] w wr
  bg : Blk wr g 25 cs
  row : RowAt wr b NN xs
  new : w.heap.size ≤ b
  ne : g ≠ b
theorem GotAt.fr0 {w wr w2 : World} {g b : Nat} {cs : Array Value} {NN : Nat} {xs : List UInt8} (h : GotAt w wr g b cs NN xs) (hf : Fr [] wr w2) : GotAt w w2 g b cs NN xs :=
  ⟨h.fr.trans hf (by simp), h.bg.fr hf (by simp), h.row.fr hf (by simp), h.new, h.ne⟩
theorem GotAt.put {w wr w2 : World} {g b : Nat} {cs : Array Value} {NN : Nat} {xs ys : List UInt8} (h : GotAt w wr g b cs NN xs) (hf : Fr [b] wr w2) (hr : RowAt w2 b NN ys) : GotAt w w2 g b cs NN ys :=
  ⟨h.fr.trans hf (by intro k hk; simp at hk; subst hk; exact .inr h.new), h.bg.fr hf (by simp; exact h.ne), hr, h.new, h.ne⟩

set_option maxRecDepth 20000 in
set_option maxHeartbeats 8000000 in
theorem block_good (W H : Nat) (ad : Addr) (c N : Nat) (pix : List UInt8) (x y : Int) (w : World) (hs : Src w (.slice (some ad) pix.length c) (pix.map B8)) (hn : pix.length ≤ 1000000000000)
    (hok : Pl.ok ⟨(W : Int), (H : Int), pix⟩ = true) (hO : OkAt W H pix.length c) (hN1 : 1 ≤ N) (hN2 : N ≤ 64) :
    Calls Try.prog 30 #[plV W H (some ad) pix.length c, .int .i64 x, .int .i64 y, .int .i64 (N : Int)] w (BsPost w (sqs ⟨(W : Int), (H : Int), pix⟩ x y N (N * N))) := by
  have hR := fun w => right_any W H (some ad) c pix w hn
  have hI := fun w => isBlock_any (N : Int) w
  rw [hok] at hR
  rw [show spanOk (N : Int) = true from spanOk_iff.2 ⟨by omega, by omega⟩] at hI
  have HR := Lib.hid hR; have HI := Lib.hid hI
  have HX := Lib.hid fun w => near_any x w
  have HY := Lib.hid fun w => near_any y w
  obtain ⟨X, hX⟩ : ∃ X, X = nst x (-64) 4096 := ⟨_, rfl⟩
  obtain ⟨Y, hY⟩ : ∃ Y, Y = nst y (-64) 4096 := ⟨_, rfl⟩
  have hXr := nst_range x (a := -64) (b := 4096) (by omega)
  have hYr := nst_range y (a := -64) (b := 4096) (by omega)
  rw [← hX] at HX hXr
  rw [← hY] at HY hYr
  obtain ⟨X1, X2⟩ := hXr
  obtain ⟨Y1, Y2⟩ := hYr
  obtain ⟨n, hnn⟩ : ∃ n, n = pix.length := ⟨_, rfl⟩
  have HO := Lib.hid hO; have HS := Lib.hid hs; have HXe := Lib.hid hX; have HYe := Lib.hid hY; have Hnn := Lib.hid hnn
  rw [← hnn] at HR ⊢
  obtain ⟨NN, hNN⟩ : ∃ NN, NN = N * N := ⟨_, rfl⟩
  have hNNl : NN ≤ 4096 := by rw [hNN]; exact Nat.mul_le_mul hN2 hN2
  have eNN : (N : Int) * (N : Int) = (NN : Int) := by rw [hNN]; simp
  have HNN := Lib.hid hNN
  rw [← hNN]
  have z2 := hO.w2
  have z3 := hO.h2
  have z4 := hO.w1
  have z5 := hO.h1
  have wW : IntKind.i64.wrap ((W : Int) - 1) = (W : Int) - 1 := IntWalk.i64_in _ (by omega)
  have wH : IntKind.i64.wrap ((H : Int) - 1) = (H : Int) - 1 := IntWalk.i64_in _ (by omega)
  obtain ⟨i0, hi0, hz0, hs0, hb0⟩ := info_parts info_u8
  obtain ⟨P, hP⟩ : ∃ P : Pl, P = ⟨(W : Int), (H : Int), pix⟩ := ⟨_, rfl⟩
  rw [← hP]
  have HP := Lib.hid hP
  have hF : Fr [] w (w.alloc (.cells #[.int .i64 (W : Int), .int .i64 (H : Int), .slice (some ad) n c] 25)) := (Fr.refl _ _).alloc _
  have hB := Blk.new w 25 #[.int .i64 (W : Int), .int .i64 (H : Int), .slice (some ad) n c]
  have HF := Lib.hid hF; have HB := Lib.hid hB
  have hadl : ad.block < w.heap.size := by
    obtain ⟨ad', e, hc⟩ := hs.cellAt (f := B8) (k := 0) (x := pix.getD 0 0) (by rw [List.getD_eq_getElem?_getD, List.getElem?_eq_getElem (by rw [hO.n_]; exact Nat.mul_pos z4 z5)]; rfl)
    injection e with e
    subst e
    have := World.block_lt_of_cell? w _ hc
    rw [addr_block] at this
    exact this
  have Hadl := Lib.hid hadl
  clear hs hn hok hO hR hI hX hY hnn hNN hP hF hB hadl
  unfold plV at HR ⊢
  go_enter Try.func30, Try.ntmps30
  go_wp2_with fail
  refine (HR.out _).mono ?_
  rintro e w1 ⟨rfl, hF1⟩
  have HB1 := Lib.hid (HB.out.fr hF1 (by simp)); have HF1 := Lib.hid (HF.out.trans hF1 (by simp))
  obtain ⟨g, hg⟩ : ∃ g, g = w.heap.size := ⟨_, rfl⟩
  rw [← hg] at HB1 ⊢
  clear hF1 hg HB HF HR
  go_wp2_with fail
  refine (HI.out _).mono ?_
  rintro e w2 ⟨rfl, rfl⟩
  go_wp2_with fail
  refine (HX.out _).mono ?_
  rintro e w2 ⟨rfl, rfl⟩
  go_wp2_with fail
  refine (HY.out _).mono ?_
  rintro e w2 ⟨rfl, rfl⟩
  go_wp2_with (at_make; refine wpList_make_mine _ _ 23 5 i0 _ 1 _ _ NN rfl rfl Try.underlying23 hi0 hz0 hs0 hb0 rfl rfl rfl (by omega) (by simp only [maxLen]; omega) ?_)
  intro w3 hO3 hF3 hlt3
  obtain ⟨b, hb⟩ : ∃ b, b = w2.heap.size := ⟨_, rfl⟩
  rw [← hb] at hO3 hlt3 ⊢
  have hG : GotAt w w3 g b #[.int .i64 (W : Int), .int .i64 (H : Int), .slice (some ad) n c] NN (List.replicate NN 0) := by
    refine ⟨HF1.out.trans hF3 (by simp), HB1.out.fr hF3 (by simp), ?_, by rw [hb]; exact HF1.out.size, ?_⟩
    · unfold RowAt
      rw [List.length_replicate, List.map_replicate]
      exact hO3
    · have := HB1.out.lt
      omega
  have HG := Lib.hid hG
  clear hO3 hF3 hlt3 hG hb HF1 HB1 HI HX HY
  go_wp2_with fail
  go_loopw [28] (fun s28 wr => ∃ i : Nat, i ≤ N ∧ s28 = .int .i64 (i : Int) ∧ GotAt w wr g b #[.int .i64 (W : Int), .int .i64 (H : Int), .slice (some ad) n c] NN (splice (List.replicate NN 0) 0 (sqs P x y N (i * N)))) (fun s28 _ => N - (intOf s28).toNat)
  case atStart => exact ⟨0, by omega, rfl, by rw [Nat.zero_mul, show sqs P x y N 0 = [] from rfl, splice_nil]; exact HG.out⟩
  case round =>
    clear HG
    obtain ⟨i, hi, rfl, hG⟩ := hrel
    by_cases hlt : i < N
    · have eg : decide (i < N) = true := by simpa using hlt
      have hH := nearI_range (y + i) (n := (H : Int)) (by omega)
      obtain ⟨NY, hNY⟩ : ∃ NY : Nat, (NY : Int) = nearI (y + i) H := ⟨(nearI (y + i) H).toNat, by omega⟩
      have hYn := fun w => nearest_any (Y + (i : Int)) 0 ((H : Int) - 1) w
      rw [nst_near _ (by omega), HYe.out, near_nst y i (by omega) (by omega) (by omega) (by omega), ← hNY, ← HYe.out] at hYn
      have hNYl : NY < H := by omega
      have hRow := fun w => row_any W H NY ad n c w z4 z2 z3 hNYl (by rw [Hnn.out]; exact HO.out.n_) (by rw [Hnn.out]; exact HO.out.c_)
      have hsq := rowGet_sq HO.out x y N i NY hN2 hlt hNY
      rw [← HXe.out, ← HP.out] at hsq
      have hpl := prow_length HO.out hNYl
      obtain ⟨K1, hK1⟩ : ∃ K1, K1 = i * N := ⟨_, rfl⟩
      obtain ⟨K2, hK2⟩ : ∃ K2, K2 = (i + 1) * N := ⟨_, rfl⟩
      have hK12 : K2 = K1 + N := by rw [hK2, hK1, Nat.add_mul, Nat.one_mul]
      have hK2l : K2 ≤ NN := by rw [hK2, HNN.out]; exact Nat.mul_le_mul_right _ hlt
      have eK1 : (i : Int) * (N : Int) = (K1 : Int) := by rw [hK1]; simp
      have eK2 : ((i : Int) + 1) * (N : Int) = (K2 : Int) := by rw [hK2]; simp
      have wK1 : IntKind.i64.wrap (K1 : Int) = (K1 : Int) := IntWalk.i64_in _ (by omega)
      have wK2 : IntKind.i64.wrap (K2 : Int) = (K2 : Int) := IntWalk.i64_in _ (by omega)
      have wYi : IntKind.i64.wrap (Y + (i : Int)) = Y + (i : Int) := IntWalk.i64_in _ (by omega)
      have wI1 : IntKind.i64.wrap ((i : Int) + 1) = (i : Int) + 1 := IntWalk.i64_in _ (by omega)
      have k12 : K1 ≤ K2 := by omega
      rw [← hK1] at hG
      obtain ⟨M, hM⟩ : ∃ M, M = NY * W := ⟨_, rfl⟩
      rw [← hM] at hRow
      have HG := Lib.hid (hG.fr0 (Fr.refl [] wr).drew)
      have HYn := Lib.hid hYn; have HRow := Lib.hid hRow; have Hsq := Lib.hid hsq; have Hpl := Lib.hid hpl; have HK := Lib.hid (And.intro hK1 (And.intro hK2 hK12)); have HM := Lib.hid hM; have HNYl := Lib.hid hNYl
      clear hG hYn hRow hsq hpl hK1 hK2 hK12 hM hNYl hNY hH
      unfold plV at HRow
      go_upto_region 8 with fail
      have c0 := HG.out.bg.cell 0
      have c1 := HG.out.bg.cell 1
      have c2 := HG.out.bg.cell 2
      simp at c0 c1 c2
      refine wp_region_held_drew (S := fun W' => W'.cell? ⟨g, 0, none⟩ = some (.int .i64 (W : Int)) ∧ W'.cell? ⟨g, 1, none⟩ = some (.int .i64 (H : Int)) ∧ W'.cell? ⟨g, 2, none⟩ = some (.slice (some ad) n c)) (by kernel_rfl) ?_ (fun hHeld => ?_)
      · (first | exact ⟨m0, m1, m2⟩ | exact ⟨k0, k1, k2⟩ | exact ⟨c0, c1, c2⟩)
      refine wpAnyH_pick 0 (v := ?_) rfl (by kernel_rfl) (by kernel_rfl) (by kernel_rfl) (fun _ _ _ h => h) (by assumption) (by rfl) ?_ ?_
      rotate_left
      · (intro w hSw; (try dsimp only at hSw); go_simp) <;> (with_reducible rfl)
      (try simp only [Act.put, List.setIfInBounds_toArray, List.set_cons_zero, List.set_cons_succ])
      refine wpAnyH_pick 1 (v := ?_) rfl (by kernel_rfl) (by kernel_rfl) (by kernel_rfl) (fun _ _ _ h => h) (by assumption) (by rfl) ?_ ?_
      rotate_left
      · (intro w hSw; (try dsimp only at hSw); go_simp) <;> (with_reducible rfl)
      (try simp only [Act.put, List.setIfInBounds_toArray, List.set_cons_zero, List.set_cons_succ])
      refine wpAnyH_pick 2 (v := ?_) rfl (by kernel_rfl) (by kernel_rfl) (by kernel_rfl) (fun _ _ _ h => h) (by assumption) (by rfl) ?_ ?_
      rotate_left
      · (intro w hSw; (try dsimp only at hSw); go_simp) <;> (with_reducible rfl)
      (try simp only [Act.put, List.setIfInBounds_toArray, List.set_cons_zero, List.set_cons_succ])
      refine wpAnyH_pick 3 (v := ?_) rfl (by kernel_rfl) (by kernel_rfl) (by kernel_rfl) (fun _ _ _ h => h) (by assumption) (by rfl) ?_ ?_
      rotate_left
      · (intro w hSw; (try dsimp only at hSw); go_simp) <;> (with_reducible rfl)
      (try simp only [Act.put, List.setIfInBounds_toArray, List.set_cons_zero, List.set_cons_succ])
      refine wpAnyH_pick 4 (v := ?_) rfl (by kernel_rfl) (by kernel_rfl) (by kernel_rfl) (fun _ _ _ h => h) (by assumption) (by rfl) ?_ ?_
      rotate_left
      · (intro w hSw; (try dsimp only at hSw); go_simp) <;> (with_reducible rfl)
      (try simp only [Act.put, List.setIfInBounds_toArray, List.set_cons_zero, List.set_cons_succ])
      refine wpAnyH_pick 5 (v := ?_) rfl (by kernel_rfl) (by kernel_rfl) (by kernel_rfl) (fun _ _ _ h => h) (by assumption) (by rfl) ?_ ?_
      rotate_left
      · (intro w hSw; (try dsimp only at hSw); go_simp) <;> (with_reducible rfl)
      (try simp only [Act.put, List.setIfInBounds_toArray, List.set_cons_zero, List.set_cons_succ])
      refine wpAnyH_pick 6 (v := ?_) rfl (by kernel_rfl) (by kernel_rfl) (by kernel_rfl) (fun _ _ _ h => h) (by assumption) (by rfl) ?_ ?_
      rotate_left
      · (intro w hSw; (try dsimp only at hSw); go_simp) <;> (with_reducible rfl)
      (try simp only [Act.put, List.setIfInBounds_toArray, List.set_cons_zero, List.set_cons_succ])
      refine wpAnyH_pick 7 (v := ?_) rfl (by kernel_rfl) (by kernel_rfl) (by kernel_rfl) (fun _ _ _ h => h) (by assumption) (by rfl) ?_ ?_
      rotate_left
      · (intro w hSw; (try dsimp only at hSw); go_simp) <;> (with_reducible rfl)
      (try simp only [Act.put, List.setIfInBounds_toArray, List.set_cons_zero, List.set_cons_succ])
      refine wpAnyH_pick 8 rfl (by kernel_rfl) (by kernel_rfl) (by kernel_rfl) (fun _ _ _ h => h) (by assumption) (by rfl) (fun w hSw => exec_cutBoth rfl rfl rfl rfl k12 hK2l) ?_
      (try simp only [Act.put, List.setIfInBounds_toArray, List.set_cons_zero, List.set_cons_succ])
      refine wpAnyH_pick 9 (v := ?_) rfl (by kernel_rfl) (by kernel_rfl) (by kernel_rfl) (fun _ _ _ h => h) (by assumption) (by rfl) ?_ ?_
      rotate_left
      · (intro w hSw; (try dsimp only at hSw); go_simp) <;> (with_reducible rfl)
      (try simp only [Act.put, List.setIfInBounds_toArray, List.set_cons_zero, List.set_cons_succ])
      refine wpAnyH_pick 10 (v := ?_) rfl (by kernel_rfl) (by kernel_rfl) (by kernel_rfl) (fun _ _ _ h => h) (by assumption) (by rfl) ?_ ?_
      rotate_left
      · (intro w hSw; (try dsimp only at hSw); go_simp) <;> (with_reducible rfl)
      (try simp only [Act.put, List.setIfInBounds_toArray, List.set_cons_zero, List.set_cons_succ])
      refine wpAnyH_pick 11 (v := ?_) rfl (by kernel_rfl) (by kernel_rfl) (by kernel_rfl) (fun _ _ _ h => h) (by assumption) (by rfl) ?_ ?_
      rotate_left
      · (intro w hSw; (try dsimp only at hSw); go_simp) <;> (with_reducible rfl)
      (try simp only [Act.put, List.setIfInBounds_toArray, List.set_cons_zero, List.set_cons_succ])
      refine wpAnyH_pick 12 (v := ?_) rfl (by kernel_rfl) (by kernel_rfl) (by kernel_rfl) (fun _ _ _ h => h) (by assumption) (by rfl) ?_ ?_
      rotate_left
      · (intro w hSw; (try dsimp only at hSw); go_simp) <;> (with_reducible rfl)
      (try simp only [Act.put, List.setIfInBounds_toArray, List.set_cons_zero, List.set_cons_succ])
      refine wpAnyH_pick 13 (v := ?_) rfl (by kernel_rfl) (by kernel_rfl) (by kernel_rfl) (fun _ _ _ h => h) (by assumption) (by rfl) ?_ ?_
      rotate_left
      · (intro w hSw; (try dsimp only at hSw); go_simp) <;> (with_reducible rfl)
      (try simp only [Act.put, List.setIfInBounds_toArray, List.set_cons_zero, List.set_cons_succ])
      refine wpAnyH_pick 14 (v := ?_) rfl (by kernel_rfl) (by kernel_rfl) (by kernel_rfl) (fun _ _ _ h => h) (by assumption) (by rfl) ?_ ?_
      rotate_left
      · (intro w hSw; (try dsimp only at hSw); go_simp) <;> (with_reducible rfl)
      (try simp only [Act.put, List.setIfInBounds_toArray, List.set_cons_zero, List.set_cons_succ])
      refine wpAnyH_pick 15 (v := ?_) rfl (by kernel_rfl) (by kernel_rfl) (by kernel_rfl) (fun _ _ _ h => h) (by assumption) (by rfl) ?_ ?_
      rotate_left
      · (intro w hSw; (try dsimp only at hSw); go_simp) <;> (with_reducible rfl)
      (try simp only [Act.put, List.setIfInBounds_toArray, List.set_cons_zero, List.set_cons_succ])
      refine wpAnyH_pick 18 (v := ?_) rfl (by kernel_rfl) (by kernel_rfl) (by kernel_rfl) (fun _ _ _ h => h) (by assumption) (by rfl) ?_ ?_
      rotate_left
      · (intro w hSw; (try dsimp only at hSw); go_simp) <;> (with_reducible rfl)
      (try simp only [Act.put, List.setIfInBounds_toArray, List.set_cons_zero, List.set_cons_succ])
      refine wpAnyH_ready (rs := [16]) (by kernel_rfl) (by simp) ?_
      refine AllReadyH_pick rfl (fun K hK => ?_) (AllReadyH.nil)
      go_simp
      refine (HYn.out _).mono ?_
      rintro e w2 ⟨rfl, rfl⟩
      go_wp2_with fail
      refine hK.out _ _ ?_ (fun hHeld => ?_)
      · (first | exact ⟨m0, m1, m2⟩ | exact ⟨k0, k1, k2⟩ | exact ⟨c0, c1, c2⟩)
      clear hK K
      (try simp only [Act.put, List.setIfInBounds_toArray, List.set_cons_zero, List.set_cons_succ])
      refine wpAnyH_ready (rs := [17]) (by kernel_rfl) (by simp) ?_
      refine AllReadyH_pick rfl (fun K hK => ?_) (AllReadyH.nil)
      go_simp
      refine (HRow.out _).mono ?_
      rintro e w4 ⟨rfl, hF4⟩
      have HG4 := Lib.hid (HG.out.fr0 hF4)
      have k0 := HG4.out.bg.cell 0
      have k1 := HG4.out.bg.cell 1
      have k2 := HG4.out.bg.cell 2
      simp at k0 k1 k2
      clear hF4
      go_wp2_with fail
      refine hK.out _ _ ?_ (fun hHeld => ?_)
      · (first | exact ⟨m0, m1, m2⟩ | exact ⟨k0, k1, k2⟩ | exact ⟨c0, c1, c2⟩)
      clear hK K
      (try simp only [Act.put, List.setIfInBounds_toArray, List.set_cons_zero, List.set_cons_succ])
      refine wpAnyH_ready (rs := [19]) (by kernel_rfl) (by simp) ?_
      refine AllReadyH_pick rfl (fun K hK => ?_) (AllReadyH.nil)
      go_simp
      have hoth : Other w4 (ad.add M) (c - M) (prow pix W NY) b := by
        refine ⟨?_, ?_⟩
        · have := row_src HO.out (HS.out.fr0 HG4.out.fr) HNYl.out
          rw [Hpl.out, HM.out]
          exact this
        · rw [addr_block]
          have := HG4.out.new
          have := Hadl.out
          omega
      have hcall := getRow_any X (cutAd ⟨b, 0, none⟩ NN K1) (ad.add M) b (0 + K1) N (NN - K1) NN (c - M) _ (prow pix W NY) w4 HG4.out.row ((Part.whole b NN).cutAd (by have := HK.out.2.2; omega) (Nat.le_refl _)) (by have := HK.out.2.2; rw [length_splice _ _ _ (by rw [sqs_length, List.length_replicate]; omega), List.length_replicate]; omega) (by have := HK.out.2.2; omega) hN2 hoth (by rw [Hpl.out]; exact z4) (by rw [Hpl.out]; exact z2) X1 X2
      rw [Hpl.out, Hsq.out, Nat.zero_add] at hcall
      rw [show K2 - K1 = N by have := HK.out.2.2; omega]
      refine hcall.mono ?_
      rintro e w5 ⟨rfl, hR5, hF5⟩
      have HG5 := Lib.hid (HG4.out.put hF5 hR5)
      have m0 := HG5.out.bg.cell 0
      have m1 := HG5.out.bg.cell 1
      have m2 := HG5.out.bg.cell 2
      simp at m0 m1 m2
      clear hR5 hF5 hcall hoth
      go_wp2_with fail
      refine hK.out _ _ ?_ (fun hHeld => ?_)
      · (first | exact ⟨m0, m1, m2⟩ | exact ⟨k0, k1, k2⟩ | exact ⟨c0, c1, c2⟩)
      clear hK K
      (try simp only [Act.put, List.setIfInBounds_toArray, List.set_cons_zero, List.set_cons_succ])
      refine wpAnyH_done (by kernel_rfl) ?_ _
      skip
      go_wp2_with fail
      refine ⟨⟨i + 1, by omega, by simp, ?_⟩, by simp [intOf]; omega⟩
      have hG5 := HG5.out
      obtain ⟨q1, q2, q3⟩ := HK.out
      have hnx := splice_next (List.replicate NN 0) (sqs P x y N K1) ((List.range N).map fun j => P.sq x y N (i * N + j)) (by rw [sqs_length]; simp; omega)
      rw [sqs_length] at hnx
      rw [hnx, q1, sqs_next] at hG5
      exact hG5
    · have eg : decide (i < N) = false := by simpa using hlt
      have hin : i = N := by omega
      rw [hin, ← HNN.out, splice_whole _ _ (by rw [sqs_length, List.length_replicate])] at hG
      have HG := Lib.hid hG
      clear hG hin
      go_wp2_with fail
      go_ret
      have hl := sqs_length P x y N NN
      refine ⟨some ⟨b, 0, none⟩, NN, by rw [hl]; rfl, ?_, HG.out.fr⟩
      exact HG.out.row.src
end Go.Proofs.Ytlcjlgdcleenlaa

/-
  Laying a square row by row, as the landed planes do. Plain.
-/
namespace Go.Proofs.Ytlcjlgdcleenlaa
open Go.RowKit

theorem rowLay_length (xs : List UInt8) (o W : Nat) (x : Int) (pv : List UInt8) (h : o + W ≤ xs.length) : (rowLay xs o W x pv).length = xs.length := by
  unfold rowLay
  have := nst_range x (a := 0) (b := (W : Int)) (by omega)
  rw [length_splice]
  rw [List.length_take, List.length_drop]
  omega
theorem rowLay_get (xs : List UInt8) (o W : Nat) (x : Int) (pv : List UInt8) (h : o + W ≤ xs.length) (k : Nat) :
    (rowLay xs o W x pv)[k]? = if o ≤ k ∧ k < o + W ∧ x ≤ (k : Int) - o ∧ (k : Int) - o < x + pv.length then pv[((k : Int) - o - x).toNat]? else xs[k]? := by
  obtain ⟨st, hst⟩ : ∃ st, st = (nst x 0 W).toNat := ⟨_, rfl⟩
  obtain ⟨ah, hah⟩ : ∃ ah, ah = (nst (-x) 0 pv.length).toNat := ⟨_, rfl⟩
  unfold rowLay
  rw [← hst, ← hah]
  unfold nst at hst hah
  have hl : ((pv.drop ah).take (W - st)).length = min (W - st) (pv.length - ah) := by simp
  rw [splice_get _ _ _ (by rw [hl]; omega), hl]
  by_cases h1 : o + st ≤ k ∧ k < o + st + min (W - st) (pv.length - ah)
  · rw [if_pos h1, if_pos (by omega), List.getElem?_take, if_pos (by omega), List.getElem?_drop]
    congr 1
    omega
  · rw [if_neg h1, if_neg (by omega)]

theorem mul_lt_iff {n i i' j' : Nat} (hi' : i' < n) : j' * n + i' < i * n ↔ j' < i := by
  constructor
  · intro h
    refine Nat.lt_of_not_le fun hle => ?_
    have : i * n ≤ j' * n := Nat.mul_le_mul_right _ hle
    omega
  · intro h
    have : (j' + 1) * n ≤ i * n := Nat.mul_le_mul_right _ h
    rw [Nat.add_mul] at this
    omega

/-- One more row of the square. -/
theorem laid_row (P : Pl) (x y : Int) (n : Nat) (b : List UInt8) (i k : Nat) (hi : i < n) :
    P.laid x y n b ((i + 1) * n) k = if ((k / P.w.toNat : Nat) : Int) = y + i ∧ x ≤ ((k % P.w.toNat : Nat) : Int) ∧ ((k % P.w.toNat : Nat) : Int) < x + n then b.getD (i * n + (((k % P.w.toNat : Nat) : Int) - x).toNat) 0 else P.laid x y n b (i * n) k := by
  unfold Pl.laid
  generalize ((k % P.w.toNat : Nat) : Int) = a
  generalize ((k / P.w.toNat : Nat) : Int) = c
  simp only
  by_cases hin : x ≤ a ∧ a < x + n ∧ y ≤ c ∧ c < y + n
  · obtain ⟨i', j', hi', hj', ha, hc, hidx⟩ := sq_idx hin
    rw [hidx]
    have hlt := mul_lt_iff (n := n) (i := i) (i' := i') (j' := j') hi'
    have hlt2 := mul_lt_iff (n := n) (i := i + 1) (i' := i') (j' := j') hi'
    by_cases h1 : j' = i
    · subst h1
      rw [if_pos ⟨hin.1, hin.2.1, hin.2.2.1, hin.2.2.2, hlt2.2 (by omega)⟩, if_pos ⟨hc, hin.1, hin.2.1⟩]
      congr 1
      omega
    · rw [if_neg (c := c = y + ↑i ∧ x ≤ a ∧ a < x + ↑n) (by omega)]
      by_cases h2 : j' < i
      · rw [if_pos ⟨hin.1, hin.2.1, hin.2.2.1, hin.2.2.2, hlt2.2 (by omega)⟩, if_pos ⟨hin.1, hin.2.1, hin.2.2.1, hin.2.2.2, hlt.2 h2⟩]
      · rw [if_neg (fun h => by have := hlt2.1 h.2.2.2.2; omega), if_neg (fun h => h2 (hlt.1 h.2.2.2.2))]
  · rw [if_neg (fun h => hin ⟨h.1, h.2.1, h.2.2.1, h.2.2.2.1⟩), if_neg (fun h => hin (by omega)), if_neg (fun h => hin ⟨h.1, h.2.1, h.2.2.1, h.2.2.2.1⟩)]

/-- Where a place brought near is within a side, it is the place itself. -/
theorem nst_in {y i n : Int} (hn : n ≤ 4096) (hi : 0 ≤ i) (hi2 : i < 64) : (0 ≤ nst y (-64) 4096 + i ∧ nst y (-64) 4096 + i < n) ↔ (0 ≤ y + i ∧ y + i < n) := by
  unfold nst
  omega
theorem nst_same {y i n : Int} (hn : n ≤ 4096) (hi : 0 ≤ i) (hi2 : i < 64) (h : 0 ≤ nst y (-64) 4096 + i ∧ nst y (-64) 4096 + i < n) : nst y (-64) 4096 = y := by
  unfold nst at *
  omega

theorem lays_skip {P : Pl} (hok : P.ok = true) {x y : Int} {n i : Nat} (hi : i < n) (b : List UInt8) (h : ¬ (0 ≤ y + i ∧ y + i < P.h)) : P.lays x y n b ((i + 1) * n) = P.lays x y n b (i * n) := by
  obtain ⟨w, h', e1, e2, w1, w2, h1, h2, hl⟩ := P.ok_nat hok
  unfold Pl.lays
  apply List.map_congr_left
  intro k hk
  rw [List.mem_range] at hk
  rw [laid_row P x y n b i k hi, if_neg]
  intro hc
  apply h
  have ew : P.w.toNat = w := by omega
  rw [ew] at hc
  have hkd : k / w < h' := by
    rw [Nat.div_lt_iff_lt_mul (by omega), Nat.mul_comm, ← hl]; exact hk
  generalize k / w = c at hkd hc
  omega

theorem lays_row {P : Pl} (hok : P.ok = true) {x y : Int} {n i NY W : Nat} (hi : i < n) (hn : n ≤ 64) (b : List UInt8) (hb : b.length = n * n) (hW : P.w = (W : Int)) (hNY : (NY : Int) = y + i) (hNYl : (NY : Int) < P.h) :
    rowLay (P.lays x y n b (i * n)) (NY * W) W (nst x (-64) 4096) ((b.drop (i * n)).take n) = P.lays x y n b ((i + 1) * n) := by
  obtain ⟨w, h', e1, e2, w1, w2, h1, h2, hl⟩ := P.ok_nat hok
  obtain rfl : w = W := by omega
  have ew : P.w.toNat = w := by omega
  have hfit : NY * w + w ≤ P.pix.length := by
    have : (NY + 1) * w ≤ h' * w := Nat.mul_le_mul_right _ (by omega)
    rw [Nat.add_mul, Nat.one_mul, Nat.mul_comm h', ← hl] at this
    exact this
  have hin2 : i * n + n ≤ b.length := by
    have : (i + 1) * n ≤ n * n := Nat.mul_le_mul_right _ hi
    rw [Nat.add_mul, Nat.one_mul, ← hb] at this
    exact this
  have hpl : ((b.drop (i * n)).take n).length = n := by simp; omega
  apply List.ext_getElem?
  intro k
  rw [rowLay_get _ _ _ _ _ (by rw [lays_length]; exact hfit), hpl]
  by_cases hk : k < P.pix.length
  · rw [lays_get P x y n b _ hk, lays_get P x y n b _ hk, laid_row P x y n b i k hi, ew]
    have hkm : k % w < w := Nat.mod_lt _ (by omega)
    have hkk := Nat.div_add_mod k w
    have hrow : NY * w ≤ k ∧ k < NY * w + w ↔ k / w = NY := by
      constructor
      · rintro ⟨q1, q2⟩
        obtain ⟨t, ht, htl⟩ : ∃ t, k = NY * w + t ∧ t < w := ⟨k - NY * w, by omega, by omega⟩
        rw [ht, Nat.mul_comm, Nat.mul_add_div (by omega), Nat.div_eq_of_lt htl, Nat.add_zero]
      · intro q
        rw [q, Nat.mul_comm] at hkk
        omega
    have hx : ∀ a : Int, 0 ≤ a → a < w → ((nst x (-64) 4096 ≤ a ∧ a < nst x (-64) 4096 + n) ↔ (x ≤ a ∧ a < x + n)) := by
      intro a q1 q2
      unfold nst
      omega
    have hx2 : ∀ a : Int, 0 ≤ a → a < w → (x ≤ a ∧ a < x + n) → nst x (-64) 4096 = x := by
      intro a q1 q2 q3
      unfold nst
      omega
    by_cases hc : k / w = NY
    · obtain ⟨r1, r2⟩ := hrow.2 hc
      have hka : (k : Int) - ((NY * w : Nat) : Int) = ((k % w : Nat) : Int) := by
        rw [hc, Nat.mul_comm] at hkk
        omega
      rw [hka]
      have hxa := hx ((k % w : Nat) : Int) (by omega) (by omega)
      by_cases ha : x ≤ ((k % w : Nat) : Int) ∧ ((k % w : Nat) : Int) < x + n
      · rw [if_pos ⟨r1, r2, (hxa.2 ha).1, (hxa.2 ha).2⟩, if_pos ⟨by rw [hc]; exact hNY, ha.1, ha.2⟩, hx2 _ (by omega) (by omega) ha]
        rw [List.getElem?_take, if_pos (by omega), List.getElem?_drop, List.getD_eq_getElem?_getD, List.getElem?_eq_getElem (by omega)]
        rfl
      · rw [if_neg (fun h => ha (hxa.1 ⟨h.2.2.1, h.2.2.2⟩)), if_neg (fun h => ha h.2)]
    · rw [if_neg (fun h => hc (hrow.1 ⟨h.1, h.2.1⟩)), if_neg (fun h => hc (by omega))]
  · rw [if_neg (by omega), List.getElem?_eq_none (by rw [lays_length]; omega), List.getElem?_eq_none (by rw [lays_length]; omega)]
end Go.Proofs.Ytlcjlgdcleenlaa

/-
  Contracts of the landed planes: Lay. Conditions: the samples are not too many, the numbers are an int's.
-/
namespace Go.Proofs.Ytlcjlgdcleenlaa
open Go.RowKit

theorem LayAt.put {w wr w2 : World} {g r q x3 : Nat} {cs : Array Value} {W H : Int} {n c : Nat} {px py : List UInt8} (h : LayAt w wr g r q cs W H (some ⟨x3, 0, none⟩) n c px) (hf : Fr [x3] wr w2) (hr : RowAt w2 x3 c py) (hl : py.length = n) :
    LayAt w w2 g r q cs W H (some ⟨x3, 0, none⟩) n c py := by
  have hn := h.ne x3 rfl
  have hx := h.own.new x3 rfl
  refine ⟨⟨?_, h.two.eg, h.two.er, h.two.bg.fr hf (by simp; omega), h.two.br.fr hf (by simp; omega)⟩, h.out.fr hf (by simp; omega), ?_, h.ne⟩
  · exact h.two.fr.trans hf (by intro k hk; simp at hk; subst hk; exact .inr hx)
  · have hfr : Fr [] w w2 := h.own.fr.trans hf (by intro k hk; simp at hk; subst hk; exact .inr hx)
    have := hr.mine hfr hx
    rw [hl] at this
    exact this
theorem LayAt.row {w wr : World} {g r q x3 : Nat} {cs : Array Value} {W H : Int} {n c : Nat} {px : List UInt8} (h : LayAt w wr g r q cs W H (some ⟨x3, 0, none⟩) n c px) (hn : n = px.length) : RowAt wr x3 c px := by
  subst hn
  exact h.own.own

/-- What the result's block is behind a store of a plane. -/
theorem stored3 {wr : World} {r : Nat} {cs : Array Value} (W H : Int) (v : Value) (h : Blk wr r 25 cs) (hs : cs.size = 3) :
    Blk (((wr.setCell ⟨r, 0, none⟩ (.int .i64 W)).setCell ⟨r, 1, none⟩ (.int .i64 H)).setCell ⟨r, 2, none⟩ v) r 25 #[.int .i64 W, .int .i64 H, v] ∧
    Fr [r] wr (((wr.setCell ⟨r, 0, none⟩ (.int .i64 W)).setCell ⟨r, 1, none⟩ (.int .i64 H)).setCell ⟨r, 2, none⟩ v) := by
  refine ⟨?_, (((Fr.refl [r] wr).setCell (.inl (by simp)) _).setCell (.inl (by simp)) _).setCell (.inl (by simp)) _⟩
  have := ((h.set_ 0 (.int .i64 W)).set_ 1 (.int .i64 H)).set_ 2 v
  obtain ⟨l⟩ := cs
  match l, hs with
  | [a, b, d], _ => exact this

set_option maxRecDepth 20000 in
set_option maxHeartbeats 8000000 in
theorem play_arg (W H : Int) (A : Option Addr) (pn c : Nat) (pix : List UInt8) (x y n : Int) (A' : Option Addr) (c' : Nat) (b : List UInt8) (w : World) (_hpn : pn = pix.length) (_hb : b.length ≤ 1000000000000)
    (h : ¬ (1 ≤ n ∧ n ≤ 64 ∧ (b.length : Int) = n * n)) :
    Calls Try.prog 18 #[plV W H A pn c, .int .i64 x, .int .i64 y, .int .i64 n, .slice A' b.length c'] w (LayPost w W H pix x y n b) := by
  have hL := lay_arg (P := ⟨W, H, pix⟩) (x := x) (y := y) h
  have Hpost : Hid (∀ w', Fr [] w w' → LayPost w W H pix x y n b (.returned (.tuple #[plV 0 0 none 0 0, .int .i64 1])) w') := Lib.hid fun w' hf => by
    unfold LayPost
    rw [hL]
    exact ⟨_, rfl, plNone_mine hf⟩
  have HI := Lib.hid fun w => isBlock_any n w
  have hT := two6 w #[.int .i64 W, .int .i64 H, .slice A pn c]
  have HT := Lib.hid hT
  clear hT hL _hpn
  unfold plV
  obtain ⟨L, hLL⟩ : ∃ L, L = LayPost w W H pix x y n b := ⟨_, rfl⟩
  rw [← hLL] at Hpost ⊢
  clear hLL
  obtain ⟨bl, hbl⟩ : ∃ bl, bl = b.length := ⟨_, rfl⟩
  rw [← hbl] at h _hb ⊢
  clear hbl
  cases hsp : spanOk n
  · rw [hsp] at HI
    clear h hsp
    go_enter Try.func18, Try.ntmps18
    go_upto_region 1 with fail
    generalize World.alloc (World.alloc w _) _ = w1 at HT ⊢
    obtain ⟨g, hg⟩ : ∃ g, g = w.heap.size := ⟨_, rfl⟩
    rw [← hg] at HT ⊢
    obtain ⟨r, hr⟩ : ∃ r, r = g + 1 := ⟨_, rfl⟩
    rw [← hr] at HT ⊢
    clear hg hr
    go_wp2_with fail
    refine (HI.out _).mono ?_
    rintro e w2 ⟨rfl, rfl⟩
    have d0 := HT.out.br.cell 0
    have d1 := HT.out.br.cell 1
    have d2 := HT.out.br.cell 2
    have f0 := HT.out.br.frozen 0
    have f1 := HT.out.br.frozen 1
    have f2 := HT.out.br.frozen 2
    have hlr := HT.out.br.lt
    simp at d0 d1 d2
    obtain ⟨hb5, hf5⟩ := stored3 0 0 (.slice none 0 0) HT.out.br rfl
    have HB5 := Lib.hid hb5; have HF5 := Lib.hid (HT.out.fr.trans hf5 (by intro k hk; simp at hk; subst hk; exact .inr (by have := HT.out.er; have := HT.out.eg; omega)))
    clear hb5 hf5
    go_wp2_with fail
    exact bodyPost_ret (v := .tuple #[plV 0 0 none 0 0, .int .i64 1]) (results_row_tmp Try.results18 _ _ r 25 _ (0, 0) _ rfl HB5.out.here Try.underlying25 rfl (by kernel_rfl)) rfl (Hpost.out _ HF5.out)
  · obtain ⟨n1, n2⟩ := spanOk_iff.1 hsp
    rw [hsp] at HI
    obtain ⟨N, rfl⟩ : ∃ N : Nat, n = (N : Int) := ⟨n.toNat, by omega⟩
    obtain ⟨NN, hNN⟩ : ∃ NN, NN = N * N := ⟨_, rfl⟩
    have hNNl : NN ≤ 4096 := by rw [hNN]; exact Nat.mul_le_mul (show N ≤ 64 by omega) (show N ≤ 64 by omega)
    have eNN : (N : Int) * (N : Int) = (NN : Int) := by rw [hNN]; simp
    have wNN : IntKind.i64.wrap (NN : Int) = (NN : Int) := IntWalk.i64_in _ (by omega)
    have tst : ((bl : Int) != (NN : Int)) = true := by
      have : ¬ (bl : Int) = (NN : Int) := fun e => h ⟨n1, n2, by rw [eNN]; exact e⟩
      simpa using this
    clear h hsp hNN n1 n2
    go_enter Try.func18, Try.ntmps18
    go_upto_region 1 with fail
    generalize World.alloc (World.alloc w _) _ = w1 at HT ⊢
    obtain ⟨g, hg⟩ : ∃ g, g = w.heap.size := ⟨_, rfl⟩
    rw [← hg] at HT ⊢
    obtain ⟨r, hr⟩ : ∃ r, r = g + 1 := ⟨_, rfl⟩
    rw [← hr] at HT ⊢
    clear hg hr
    go_wp2_with fail
    refine (HI.out _).mono ?_
    rintro e w2 ⟨rfl, rfl⟩
    have d0 := HT.out.br.cell 0
    have d1 := HT.out.br.cell 1
    have d2 := HT.out.br.cell 2
    have f0 := HT.out.br.frozen 0
    have f1 := HT.out.br.frozen 1
    have f2 := HT.out.br.frozen 2
    have hlr := HT.out.br.lt
    simp at d0 d1 d2
    obtain ⟨hb5, hf5⟩ := stored3 0 0 (.slice none 0 0) HT.out.br rfl
    have HB5 := Lib.hid hb5; have HF5 := Lib.hid (HT.out.fr.trans hf5 (by intro k hk; simp at hk; subst hk; exact .inr (by have := HT.out.er; have := HT.out.eg; omega)))
    clear hb5 hf5
    go_wp2_with fail
    exact bodyPost_ret (v := .tuple #[plV 0 0 none 0 0, .int .i64 1]) (results_row_tmp Try.results18 _ _ r 25 _ (0, 0) _ rfl HB5.out.here Try.underlying25 rfl (by kernel_rfl)) rfl (Hpost.out _ HF5.out)
end Go.Proofs.Ytlcjlgdcleenlaa

/-
  Contracts of the landed planes: Lay, what is laid. Conditions: the samples are not too many, the numbers are an int's.
-/
namespace Go.Proofs.Ytlcjlgdcleenlaa
open Go.RowKit

set_option maxRecDepth 20000 in
set_option maxHeartbeats 8000000 in
theorem play_plane (W H : Int) (A : Option Addr) (c : Nat) (pix : List UInt8) (x y : Int) (N : Nat) (A' : Option Addr) (c' : Nat) (b : List UInt8) (w : World) (hn : pix.length ≤ 1000000000000)
    (hN1 : 1 ≤ N) (hN2 : N ≤ 64) (hb : b.length = N * N) (hok : Pl.ok ⟨W, H, pix⟩ = false) :
    Calls Try.prog 18 #[plV W H A pix.length c, .int .i64 x, .int .i64 y, .int .i64 (N : Int), .slice A' b.length c'] w (LayPost w W H pix x y N b) := by
  have hL := lay_plane (P := ⟨W, H, pix⟩) (x := x) (y := y) (n := (N : Int)) (b := b) ⟨by omega, by omega, by rw [hb]; simp⟩ hok
  have Hpost : Hid (∀ w', Fr [] w w' → LayPost w W H pix x y N b (.returned (.tuple #[plV 0 0 none 0 0, .int .i64 61])) w') := Lib.hid fun w' hf => by
    unfold LayPost
    rw [hL]
    exact ⟨_, rfl, plNone_mine hf⟩
  have HI := Lib.hid fun w => isBlock_any (N : Int) w
  rw [show spanOk (N : Int) = true from spanOk_iff.2 ⟨by omega, by omega⟩] at HI
  have HR := Lib.hid fun w => right_any W H A c pix w hn
  rw [hok] at HR
  obtain ⟨n, hnn⟩ : ∃ n, n = pix.length := ⟨_, rfl⟩
  rw [← hnn] at HR ⊢
  have hT := two6 w #[.int .i64 W, .int .i64 H, .slice A n c]
  have HT := Lib.hid hT
  obtain ⟨L, hLL⟩ : ∃ L, L = LayPost w W H pix x y N b := ⟨_, rfl⟩
  rw [← hLL] at Hpost ⊢
  obtain ⟨NN, hNN⟩ : ∃ NN, NN = N * N := ⟨_, rfl⟩
  have hNNl : NN ≤ 4096 := by rw [hNN]; exact Nat.mul_le_mul hN2 hN2
  have eNN : (N : Int) * (N : Int) = (NN : Int) := by rw [hNN]; simp
  have wNN : IntKind.i64.wrap (NN : Int) = (NN : Int) := IntWalk.i64_in _ (by omega)
  rw [hb, ← hNN]
  clear hT hL hLL hnn hok hn hNN hb
  unfold plV at HR ⊢
  go_enter Try.func18, Try.ntmps18
  go_upto_region 1 with fail
  generalize World.alloc (World.alloc w _) _ = w1 at HT ⊢
  obtain ⟨g, hg⟩ : ∃ g, g = w.heap.size := ⟨_, rfl⟩
  rw [← hg] at HT ⊢
  obtain ⟨r, hr⟩ : ∃ r, r = g + 1 := ⟨_, rfl⟩
  rw [← hr] at HT ⊢
  clear hg hr
  go_wp2_with fail
  refine (HI.out _).mono ?_
  rintro e w2 ⟨rfl, rfl⟩
  have c0 := HT.out.bg.cell 0
  have c1 := HT.out.bg.cell 1
  have c2 := HT.out.bg.cell 2
  have hlg := HT.out.bg.lt
  simp at c0 c1 c2
  go_wp2_with fail
  refine (HR.out _).mono ?_
  rintro e w3 ⟨rfl, hF3⟩
  have HT3 := Lib.hid (HT.out.fr0 hF3)
  clear hF3 c0 c1 c2 hlg HT
  have d0 := HT3.out.br.cell 0
  have d1 := HT3.out.br.cell 1
  have d2 := HT3.out.br.cell 2
  have f0 := HT3.out.br.frozen 0
  have f1 := HT3.out.br.frozen 1
  have f2 := HT3.out.br.frozen 2
  have hlr := HT3.out.br.lt
  simp at d0 d1 d2
  obtain ⟨hb5, hf5⟩ := stored3 0 0 (.slice none 0 0) HT3.out.br rfl
  have HB5 := Lib.hid hb5; have HF5 := Lib.hid (HT3.out.fr.trans hf5 (by intro k hk; simp at hk; subst hk; exact .inr (by have := HT3.out.er; have := HT3.out.eg; omega)))
  clear hb5 hf5
  go_wp2_with fail
  exact bodyPost_ret (v := .tuple #[plV 0 0 none 0 0, .int .i64 61]) (results_row_tmp Try.results18 _ _ r 25 _ (0, 0) _ rfl HB5.out.here Try.underlying25 rfl (by kernel_rfl)) rfl (Hpost.out _ HF5.out)

set_option maxRecDepth 20000 in
set_option maxHeartbeats 8000000 in
theorem play_good (W H : Nat) (ad : Addr) (c : Nat) (pix : List UInt8) (x y : Int) (N : Nat) (bd : Addr) (c' : Nat) (b : List UInt8) (w : World) (hs : Src w (.slice (some ad) pix.length c) (pix.map B8)) (hsb : Src w (.slice (some bd) b.length c') (b.map B8))
    (hn : pix.length ≤ 1000000000000) (hok : Pl.ok ⟨(W : Int), (H : Int), pix⟩ = true) (hO : OkAt W H pix.length c) (hN1 : 1 ≤ N) (hN2 : N ≤ 64) (hb : b.length = N * N) :
    Calls Try.prog 18 #[plV W H (some ad) pix.length c, .int .i64 x, .int .i64 y, .int .i64 (N : Int), .slice (some bd) b.length c'] w (LayPost w W H pix x y N b) := by
  have hL := lay_ok (P := ⟨(W : Int), (H : Int), pix⟩) (x := x) (y := y) (n := (N : Int)) (b := b) ⟨by omega, by omega, by rw [hb]; simp⟩ hok
  rw [Int.toNat_natCast] at hL
  have hR := fun w => right_any W H (some ad) c pix w hn
  have hI := fun w => isBlock_any (N : Int) w
  rw [hok] at hR
  rw [show spanOk (N : Int) = true from spanOk_iff.2 ⟨by omega, by omega⟩] at hI
  have HR := Lib.hid hR; have HI := Lib.hid hI
  have HX := Lib.hid fun w => near_any x w
  have HY := Lib.hid fun w => near_any y w
  have HC := Lib.hid fun w' (hf : Fr [] w w') => pcopied_any W H (some ad) c pix w' (hs.fr0 hf) hn
  obtain ⟨X, hX⟩ : ∃ X, X = nst x (-64) 4096 := ⟨_, rfl⟩
  obtain ⟨Y, hY⟩ : ∃ Y, Y = nst y (-64) 4096 := ⟨_, rfl⟩
  have hXr := nst_range x (a := -64) (b := 4096) (by omega)
  have hYr := nst_range y (a := -64) (b := 4096) (by omega)
  rw [← hX] at HX hXr
  rw [← hY] at HY hYr
  obtain ⟨X1, X2⟩ := hXr
  obtain ⟨Y1, Y2⟩ := hYr
  obtain ⟨P, hP⟩ : ∃ P : Pl, P = ⟨(W : Int), (H : Int), pix⟩ := ⟨_, rfl⟩
  rw [← hP] at hL hok
  obtain ⟨n, hnn⟩ : ∃ n, n = pix.length := ⟨_, rfl⟩
  obtain ⟨NN, hNN⟩ : ∃ NN, NN = N * N := ⟨_, rfl⟩
  have hNNl : NN ≤ 4096 := by rw [hNN]; exact Nat.mul_le_mul hN2 hN2
  have eNN : (N : Int) * (N : Int) = (NN : Int) := by rw [hNN]; simp
  have wNN : IntKind.i64.wrap (NN : Int) = (NN : Int) := IntWalk.i64_in _ (by omega)
  have hpn : P.pix.length = n := by rw [hP, hnn]
  have hbc : NN ≤ c' := by
    rcases hsb with ⟨e, -⟩ | ⟨ad', c2, e, hle, -⟩
    · cases e
    · injection e with e1 e2 e3
      rw [List.length_map] at hle
      omega
  obtain ⟨L, hLL⟩ : ∃ L, L = LayPost w W H pix x y N b := ⟨_, rfl⟩
  have HO := Lib.hid hO; have HS := Lib.hid hs; have HSb := Lib.hid hsb; have HXe := Lib.hid hX; have HYe := Lib.hid hY; have Hnn := Lib.hid hnn; have HP := Lib.hid hP; have HLay := Lib.hid hL; have Hok := Lib.hid hok; have HNN := Lib.hid hNN; have Hb := Lib.hid hb; have HL := Lib.hid hLL; have Hpn := Lib.hid hpn
  rw [← hnn] at HR HC
  rw [← hnn, ← hLL, hb, ← hNN]
  have z2 := hO.w2
  have z3 := hO.h2
  have z4 := hO.w1
  have z5 := hO.h1
  have hT := two6 w #[.int .i64 (W : Int), .int .i64 (H : Int), .slice (some ad) n c]
  have HT := Lib.hid hT
  have hadl : bd.block < w.heap.size := by
    obtain ⟨ad', e, hc⟩ := hsb.cellAt (f := B8) (k := 0) (x := b.getD 0 0) (by rw [List.getD_eq_getElem?_getD, List.getElem?_eq_getElem (by rw [hb]; exact Nat.mul_pos hN1 hN1)]; rfl)
    injection e with e
    subst e
    have := World.block_lt_of_cell? w _ hc
    rw [addr_block] at this
    exact this
  have Hbdl := Lib.hid hadl
  clear hs hsb hn hok hO hR hI hX hY hnn hNN hP hL hLL hb hT hadl hpn
  unfold plV at HR HC ⊢
  go_enter Try.func18, Try.ntmps18
  go_upto_region 1 with fail
  generalize World.alloc (World.alloc w _) _ = w1 at HT ⊢
  obtain ⟨g, hg⟩ : ∃ g, g = w.heap.size := ⟨_, rfl⟩
  rw [← hg] at HT ⊢
  obtain ⟨r, hr⟩ : ∃ r, r = g + 1 := ⟨_, rfl⟩
  rw [← hr] at HT ⊢
  clear hg hr
  go_wp2_with fail
  refine (HI.out _).mono ?_
  rintro e w2 ⟨rfl, rfl⟩
  have c0 := HT.out.bg.cell 0
  have c1 := HT.out.bg.cell 1
  have c2 := HT.out.bg.cell 2
  have hlg := HT.out.bg.lt
  simp at c0 c1 c2
  go_wp2_with fail
  refine (HR.out _).mono ?_
  rintro e w3 ⟨rfl, hF3⟩
  have HT3 := Lib.hid (HT.out.fr0 hF3)
  clear hF3 c0 c1 c2 hlg HT HR HI
  go_wp2_with fail
  refine (HX.out _).mono ?_
  rintro e w4 ⟨rfl, rfl⟩
  go_wp2_with fail
  refine (HY.out _).mono ?_
  rintro e w4 ⟨rfl, rfl⟩
  have c0 := HT3.out.bg.cell 0
  have c1 := HT3.out.bg.cell 1
  have c2 := HT3.out.bg.cell 2
  have hlg := HT3.out.bg.lt
  simp at c0 c1 c2
  go_wp2_with fail
  refine (HC.out _ HT3.out.fr).mono ?_
  rintro e w5 ⟨B, d, rfl, hM⟩
  obtain ⟨x3, rfl, hn3, hx3, hR3⟩ := hM.row (by rw [HO.out.n_]; exact Nat.mul_pos z4 z5)
  have HT5 := Lib.hid (HT3.out.fr0 hM.fr)
  have HM5 := Lib.hid hM
  have HW3 := Lib.hid HT3.out.fr.size
  have HG3 := Lib.hid (show g < x3 ∧ r < x3 ∧ x3 < w5.heap.size by have := HT3.out.bg.lt; have := HT3.out.br.lt; have := hR3.lt; omega)
  have HR3 := Lib.hid hR3; have Hx3 := Lib.hid hx3
  clear c0 c1 c2 hlg hM HT3 HC HX HY hn3 hR3 hx3
  go_upto_region 7 with fail
  have hq := Blk.new w5 25 #[.int .i64 (W : Int), .int .i64 (H : Int), .slice (some ⟨x3, 0, none⟩) n d]
  have hLA : LayAt w (w5.alloc (.cells #[.int .i64 (W : Int), .int .i64 (H : Int), .slice (some ⟨x3, 0, none⟩) n d] 25)) g r w5.heap.size #[.int .i64 (W : Int), .int .i64 (H : Int), .slice (some ad) n c] W H (some ⟨x3, 0, none⟩) n d pix := by
    have hf : Fr [] w5 (w5.alloc (.cells #[.int .i64 (W : Int), .int .i64 (H : Int), .slice (some ⟨x3, 0, none⟩) n d] 25)) := (Fr.refl _ _).alloc _
    have hgl := HT5.out.bg.lt
    have hx3l := HR3.out.lt
    have hwx : w.heap.size ≤ x3 := by have h1 := Hx3.out; have := HW3.out; omega
    refine ⟨HT5.out.fr0 hf, hq, ?_, fun k hk => ?_⟩
    · have hm : Mine w w5 (.slice (some ⟨x3, 0, none⟩) n d) pix := ⟨HM5.out.own, HT5.out.fr, fun k hk => by injection hk with hk; subst hk; exact hwx⟩
      exact hm.fr0 hf
    · injection hk with hk
      subst hk
      have := HT5.out.er
      have := HG3.out
      refine ⟨?_, ?_, ?_⟩ <;> simp only <;> omega
  generalize w5.alloc (.cells #[.int .i64 (W : Int), .int .i64 (H : Int), .slice (some ⟨x3, 0, none⟩) n d] 25) = w6 at hLA ⊢
  obtain ⟨q, hqq⟩ : ∃ q, q = w5.heap.size := ⟨_, rfl⟩
  rw [← hqq] at hLA ⊢
  have HLA := Lib.hid hLA
  clear hq hLA hqq HT5 HM5 HR3 Hx3
  obtain ⟨CS, hCS⟩ : ∃ CS : Array Value, CS = #[.int .i64 (W : Int), .int .i64 (H : Int), .slice (some ad) n c] := ⟨_, rfl⟩
  rw [← hCS] at HLA
  clear hCS
  go_wp2_with fail
  go_loopw [37] (fun s37 wr => ∃ i : Nat, i ≤ N ∧ s37 = .int .i64 (i : Int) ∧ LayAt w wr g r q CS W H (some ⟨x3, 0, none⟩) n d (P.lays x y N b (i * N))) (fun s37 _ => N - (intOf s37).toNat)
  case atStart => exact ⟨0, by omega, rfl, by rw [Nat.zero_mul, lays_zero, HP.out]; exact HLA.out⟩
  case round =>
    clear HLA
    obtain ⟨i, hi, rfl, hG⟩ := hrel
    by_cases hlt : i < N
    · have eg : decide (i < N) = true := by simpa using hlt
      have hPW : P.w = (W : Int) := by rw [HP.out]
      have hPH : P.h = (H : Int) := by rw [HP.out]
      have hin := nst_in (y := y) (i := (i : Int)) (n := (H : Int)) (by omega) (by omega) (by omega)
      have k1 := hG.out.cell 1
      have hlq := hG.out.lt
      simp at k1
      rw [← HYe.out] at hin
      have wYi : IntKind.i64.wrap (Y + (i : Int)) = Y + (i : Int) := IntWalk.i64_in _ (by omega)
      by_cases hr : 0 ≤ Y + (i : Int) ∧ Y + (i : Int) < (H : Int)
      · have hsame := nst_same (y := y) (i := (i : Int)) (n := (H : Int)) (by omega) (by omega) (by omega) (by rw [← HYe.out]; exact hr)
        rw [← HYe.out] at hsame
        obtain ⟨NY, hNY⟩ : ∃ NY : Nat, (NY : Int) = Y + (i : Int) := ⟨(Y + (i : Int)).toNat, by omega⟩
        have hstep := lays_row (P := P) Hok.out (x := x) (y := y) (n := N) (i := i) (NY := NY) (W := W) hlt hN2 b Hb.out hPW (by rw [hNY, hsame]) (by rw [hPH]; omega)
        rw [← HXe.out] at hstep
        have hNYl : NY < H := by omega
        have hcap : n ≤ d := by
          have := (hG.row (by rw [lays_length, Hpn.out])).cap
          rw [lays_length, Hpn.out] at this
          exact this
        have hRow := fun w => row_any W H NY ⟨x3, 0, none⟩ n d w z4 z2 z3 hNYl (by rw [Hnn.out]; exact HO.out.n_) hcap
        have hfit := HO.out.fits hNYl
        rw [← Hnn.out] at hfit
        obtain ⟨K1, hK1⟩ : ∃ K1, K1 = i * N := ⟨_, rfl⟩
        obtain ⟨K2, hK2⟩ : ∃ K2, K2 = (i + 1) * N := ⟨_, rfl⟩
        have hK12 : K2 = K1 + N := by rw [hK2, hK1, Nat.add_mul, Nat.one_mul]
        have hK2l : K2 ≤ NN := by rw [hK2, HNN.out]; exact Nat.mul_le_mul_right _ hlt
        have eK1 : (i : Int) * (N : Int) = (K1 : Int) := by rw [hK1]; simp
        have eK2 : ((i : Int) + 1) * (N : Int) = (K2 : Int) := by rw [hK2]; simp
        have wK1 : IntKind.i64.wrap (K1 : Int) = (K1 : Int) := IntWalk.i64_in _ (by omega)
        have wK2 : IntKind.i64.wrap (K2 : Int) = (K2 : Int) := IntWalk.i64_in _ (by omega)
        have wI1 : IntKind.i64.wrap ((i : Int) + 1) = (i : Int) + 1 := IntWalk.i64_in _ (by omega)
        have k12 : K1 ≤ K2 := by omega
        have k2c : K2 ≤ c' := by omega
        have eY : Y + (i : Int) = (NY : Int) := hNY.symm
        have wNY : IntKind.i64.wrap (NY : Int) = (NY : Int) := IntWalk.i64_in _ (by omega)
        have e2 : decide (NY < H) = true := by simpa using hNYl
        rw [← hK1] at hG hstep
        rw [← hK2] at hstep
        obtain ⟨M, hM⟩ : ∃ M, M = NY * W := ⟨_, rfl⟩
        rw [← hM] at hRow hstep hfit
        obtain ⟨part, hpart⟩ : ∃ part, part = (b.drop K1).take N := ⟨_, rfl⟩
        have hpl : part.length = N := by rw [hpart, List.length_take, List.length_drop, Hb.out, ← HNN.out]; omega
        rw [← hpart] at hstep
        have hsrc : ∀ W', Fr [] w W' → Src W' (.slice (some (cutAd bd c' K1)) N (c' - K1)) (part.map B8) := by
          intro W' hf
          have h1 := (HSb.out.fr0 hf).cutAd (k := K1) (by rw [Hb.out, ← HNN.out]; omega)
          have h2 := h1.upto (m := N) (by rw [Hb.out, ← HNN.out]; omega)
          rw [hpart, List.map_take, List.map_drop]
          exact h2
        have HG := Lib.hid hG; have HRow := Lib.hid hRow; have Hstep := Lib.hid hstep; have HK := Lib.hid (And.intro hK1 (And.intro hK2 hK12)); have HM := Lib.hid hM; have Hpl := Lib.hid hpl; have Hsrc := Lib.hid hsrc; have Hfit := Lib.hid (And.intro hfit hcap)
        clear hG hRow hstep hK1 hK2 hK12 hM hpl hsrc hpart hfit hcap hNY hsame hin hr hPW hPH hNYl wYi
        unfold plV at HRow
        go_upto_region 11 with fail
        have HGd := Lib.hid (HG.out.fr0 (Fr.refl [] wr).drew)
        clear k1 hlq
        have c0 := HGd.out.out.cell 0
        have c1 := HGd.out.out.cell 1
        have c2 := HGd.out.out.cell 2
        simp at c0 c1 c2
        refine wp_region_held_drew (S := fun W' => W'.cell? ⟨q, 0, none⟩ = some (.int .i64 (W : Int)) ∧ W'.cell? ⟨q, 1, none⟩ = some (.int .i64 (H : Int)) ∧ W'.cell? ⟨q, 2, none⟩ = some (.slice (some ⟨x3, 0, none⟩) n d)) (by kernel_rfl) ?_ (fun hHeld => ?_)
        · (first | exact ⟨m0, m1, m2⟩ | exact ⟨k0, k1, k2⟩ | exact ⟨c0, c1, c2⟩)
        refine wpAnyH_pick 0 (v := ?_) rfl (by kernel_rfl) (by kernel_rfl) (by kernel_rfl) (fun _ _ _ h => h) (by assumption) (by rfl) ?_ ?_
        rotate_left
        · (intro w hSw; (try dsimp only at hSw); go_simp) <;> (with_reducible rfl)
        (try simp only [Act.put, List.setIfInBounds_toArray, List.set_cons_zero, List.set_cons_succ])
        refine wpAnyH_pick 1 (v := ?_) rfl (by kernel_rfl) (by kernel_rfl) (by kernel_rfl) (fun _ _ _ h => h) (by assumption) (by rfl) ?_ ?_
        rotate_left
        · (intro w hSw; (try dsimp only at hSw); go_simp) <;> (with_reducible rfl)
        (try simp only [Act.put, List.setIfInBounds_toArray, List.set_cons_zero, List.set_cons_succ])
        refine wpAnyH_pick 2 (v := ?_) rfl (by kernel_rfl) (by kernel_rfl) (by kernel_rfl) (fun _ _ _ h => h) (by assumption) (by rfl) ?_ ?_
        rotate_left
        · (intro w hSw; (try dsimp only at hSw); go_simp) <;> (with_reducible rfl)
        (try simp only [Act.put, List.setIfInBounds_toArray, List.set_cons_zero, List.set_cons_succ])
        refine wpAnyH_pick 3 (v := ?_) rfl (by kernel_rfl) (by kernel_rfl) (by kernel_rfl) (fun _ _ _ h => h) (by assumption) (by rfl) ?_ ?_
        rotate_left
        · (intro w hSw; (try dsimp only at hSw); go_simp) <;> (with_reducible rfl)
        (try simp only [Act.put, List.setIfInBounds_toArray, List.set_cons_zero, List.set_cons_succ])
        refine wpAnyH_pick 5 (v := ?_) rfl (by kernel_rfl) (by kernel_rfl) (by kernel_rfl) (fun _ _ _ h => h) (by assumption) (by rfl) ?_ ?_
        rotate_left
        · (intro w hSw; (try dsimp only at hSw); go_simp) <;> (with_reducible rfl)
        (try simp only [Act.put, List.setIfInBounds_toArray, List.set_cons_zero, List.set_cons_succ])
        refine wpAnyH_pick 6 (v := ?_) rfl (by kernel_rfl) (by kernel_rfl) (by kernel_rfl) (fun _ _ _ h => h) (by assumption) (by rfl) ?_ ?_
        rotate_left
        · (intro w hSw; (try dsimp only at hSw); go_simp) <;> (with_reducible rfl)
        (try simp only [Act.put, List.setIfInBounds_toArray, List.set_cons_zero, List.set_cons_succ])
        refine wpAnyH_pick 7 (v := ?_) rfl (by kernel_rfl) (by kernel_rfl) (by kernel_rfl) (fun _ _ _ h => h) (by assumption) (by rfl) ?_ ?_
        rotate_left
        · (intro w hSw; (try dsimp only at hSw); go_simp) <;> (with_reducible rfl)
        (try simp only [Act.put, List.setIfInBounds_toArray, List.set_cons_zero, List.set_cons_succ])
        refine wpAnyH_pick 8 (v := ?_) rfl (by kernel_rfl) (by kernel_rfl) (by kernel_rfl) (fun _ _ _ h => h) (by assumption) (by rfl) ?_ ?_
        rotate_left
        · (intro w hSw; (try dsimp only at hSw); go_simp) <;> (with_reducible rfl)
        (try simp only [Act.put, List.setIfInBounds_toArray, List.set_cons_zero, List.set_cons_succ])
        refine wpAnyH_pick 9 (v := ?_) rfl (by kernel_rfl) (by kernel_rfl) (by kernel_rfl) (fun _ _ _ h => h) (by assumption) (by rfl) ?_ ?_
        rotate_left
        · (intro w hSw; (try dsimp only at hSw); go_simp) <;> (with_reducible rfl)
        (try simp only [Act.put, List.setIfInBounds_toArray, List.set_cons_zero, List.set_cons_succ])
        refine wpAnyH_pick 10 (v := ?_) rfl (by kernel_rfl) (by kernel_rfl) (by kernel_rfl) (fun _ _ _ h => h) (by assumption) (by rfl) ?_ ?_
        rotate_left
        · (intro w hSw; (try dsimp only at hSw); go_simp) <;> (with_reducible rfl)
        (try simp only [Act.put, List.setIfInBounds_toArray, List.set_cons_zero, List.set_cons_succ])
        refine wpAnyH_pick 11 (v := ?_) rfl (by kernel_rfl) (by kernel_rfl) (by kernel_rfl) (fun _ _ _ h => h) (by assumption) (by rfl) ?_ ?_
        rotate_left
        · (intro w hSw; (try dsimp only at hSw); go_simp) <;> (with_reducible rfl)
        (try simp only [Act.put, List.setIfInBounds_toArray, List.set_cons_zero, List.set_cons_succ])
        refine wpAnyH_pick 12 (v := ?_) rfl (by kernel_rfl) (by kernel_rfl) (by kernel_rfl) (fun _ _ _ h => h) (by assumption) (by rfl) ?_ ?_
        rotate_left
        · (intro w hSw; (try dsimp only at hSw); go_simp) <;> (with_reducible rfl)
        (try simp only [Act.put, List.setIfInBounds_toArray, List.set_cons_zero, List.set_cons_succ])
        refine wpAnyH_pick 13 rfl (by kernel_rfl) (by kernel_rfl) (by kernel_rfl) (fun _ _ _ h => h) (by assumption) (by rfl) (fun w hSw => exec_cutBoth rfl rfl rfl rfl k12 k2c) ?_
        (try simp only [Act.put, List.setIfInBounds_toArray, List.set_cons_zero, List.set_cons_succ])
        refine wpAnyH_pick 14 (v := ?_) rfl (by kernel_rfl) (by kernel_rfl) (by kernel_rfl) (fun _ _ _ h => h) (by assumption) (by rfl) ?_ ?_
        rotate_left
        · (intro w hSw; (try dsimp only at hSw); go_simp) <;> (with_reducible rfl)
        (try simp only [Act.put, List.setIfInBounds_toArray, List.set_cons_zero, List.set_cons_succ])
        refine wpAnyH_ready (rs := [4]) (by kernel_rfl) (by simp) ?_
        refine AllReadyH_pick rfl (fun K hK => ?_) (AllReadyH.nil)
        go_simp
        refine (HRow.out _).mono ?_
        rintro e w7 ⟨rfl, hF7⟩
        have HG7 := Lib.hid (HGd.out.fr0 hF7)
        have k0 := HG7.out.out.cell 0
        have k1 := HG7.out.out.cell 1
        have k2 := HG7.out.out.cell 2
        simp at k0 k1 k2
        clear hF7
        go_wp2_with fail
        refine hK.out _ _ ?_ (fun hHeld => ?_)
        · (first | exact ⟨m0, m1, m2⟩ | exact ⟨k0, k1, k2⟩ | exact ⟨c0, c1, c2⟩)
        clear hK K
        (try simp only [Act.put, List.setIfInBounds_toArray, List.set_cons_zero, List.set_cons_succ])
        refine wpAnyH_ready (rs := [15]) (by kernel_rfl) (by simp) ?_
        refine AllReadyH_pick rfl (fun K hK => ?_) (AllReadyH.nil)
        go_simp
        have hoth : Other w7 (cutAd bd c' K1) (c' - K1) part x3 := by
          refine ⟨?_, ?_⟩
          · rw [Hpl.out]
            exact Hsrc.out _ HG7.out.two.fr
          · rw [cutAd_block]
            have := HG7.out.own.new x3 rfl
            have := Hbdl.out
            omega
        have hll : (P.lays x y N b K1).length = n := by rw [lays_length, Hpn.out]
        have hcall := layRow_any X ((⟨x3, 0, none⟩ : Addr).add M) (cutAd bd c' K1) x3 (0 + M) W (d - M) d (c' - K1) _ part w7 (HG7.out.row hll.symm) ((Part.whole x3 n).cut M W (by have := Hfit.out.1; omega)) (by rw [hll]; have := Hfit.out.1; omega) (by have := Hfit.out; omega) z2 hoth (by rw [Hpl.out]; exact hN2) X1 X2
        rw [Hpl.out, Nat.zero_add, Hstep.out, add0] at hcall
        rw [show K2 - K1 = N by have := HK.out.2.2; omega]
        refine hcall.mono ?_
        rintro e w8 ⟨rfl, hR8, hF8⟩
        have HG8 := Lib.hid (HG7.out.put hF8 hR8 (by rw [lays_length, Hpn.out]))
        have m0 := HG8.out.out.cell 0
        have m1 := HG8.out.out.cell 1
        have m2 := HG8.out.out.cell 2
        simp at m0 m1 m2
        clear hR8 hF8 hcall hoth hll
        go_wp2_with fail
        refine hK.out _ _ ?_ (fun hHeld => ?_)
        · (first | exact ⟨m0, m1, m2⟩ | exact ⟨k0, k1, k2⟩ | exact ⟨c0, c1, c2⟩)
        clear hK K
        (try simp only [Act.put, List.setIfInBounds_toArray, List.set_cons_zero, List.set_cons_succ])
        refine wpAnyH_done (by kernel_rfl) ?_ _
        skip
        go_wp2_with fail
        refine ⟨⟨i + 1, by omega, by simp, ?_⟩, by simp [intOf]; omega⟩
        rw [← HK.out.2.1]
        exact HG8.out
      · have hskip := lays_skip (P := P) Hok.out (x := x) (y := y) (n := N) (i := i) hlt b (by rw [hPH]; intro h; exact hr (hin.2 h))
        rw [← hskip] at hG
        have HG := Lib.hid hG
        clear hG hskip hin
        have hex : (Y + (i : Int) < 0) ∨ (0 ≤ Y + (i : Int) ∧ (H : Int) ≤ Y + (i : Int)) := by omega
        clear hr hPW hPH
        rcases hex with h1 | ⟨h1, h2⟩
        · have e1 : decide (0 ≤ Y + (i : Int)) = false := by simpa using h1
          go_wp2_with fail
          exact ⟨⟨i + 1, by omega, by simp, HG.out⟩, by simp [intOf]; omega⟩
        · have e1 : decide (0 ≤ Y + (i : Int)) = true := by simpa using h1
          have e2 : decide (Y + (i : Int) < (H : Int)) = false := by simpa using h2
          go_wp2_with fail
          exact ⟨⟨i + 1, by omega, by simp, HG.out⟩, by simp [intOf]; omega⟩
    · have eg : decide (i < N) = false := by simpa using hlt
      have hin : i = N := by omega
      rw [hin] at hG
      have HG := Lib.hid hG
      clear hG hin
      have c0 := HG.out.out.cell 0
      have c1 := HG.out.out.cell 1
      have c2 := HG.out.out.cell 2
      have hlq := HG.out.out.lt
      have d0 := HG.out.two.br.cell 0
      have d1 := HG.out.two.br.cell 1
      have d2 := HG.out.two.br.cell 2
      have f0 := HG.out.two.br.frozen 0
      have f1 := HG.out.two.br.frozen 1
      have f2 := HG.out.two.br.frozen 2
      have hlr := HG.out.two.br.lt
      simp at c0 c1 c2 d0 d1 d2
      obtain ⟨hb5, hf5⟩ := stored3 (W : Int) (H : Int) (.slice (some ⟨x3, 0, none⟩) n d) HG.out.two.br rfl
      have HB5 := Lib.hid hb5; have HF5 := Lib.hid hf5
      clear hb5 hf5
      go_wp2_with fail
      refine bodyPost_ret (v := .tuple #[plV W H (some ⟨x3, 0, none⟩) n d, .int .i64 0]) (results_row_tmp Try.results18 _ _ r 25 _ (0, 0) _ rfl HB5.out.here Try.underlying25 rfl (by kernel_rfl)) rfl ?_
      have hl := lays_length P x y N b (N * N)
      rw [Hpn.out] at hl
      rw [HL.out]
      unfold LayPost
      rw [← HP.out, HLay.out]
      refine ⟨_, rfl, some ⟨x3, 0, none⟩, d, ?_, ?_⟩
      · simp only
        rw [hl, HP.out]
      · simp only
        rw [hl]
        refine HG.out.own.other HF5.out (by have := HG.out.two.er; have := HG.out.two.eg; omega) (fun k hk => (HG.out.ne k hk).2.1)
end Go.Proofs.Ytlcjlgdcleenlaa

/-
  How far planes are apart: plain facts.
-/
namespace Go.Proofs.Ytlcjlgdcleenlaa

theorem gap_comm (a b : UInt8) : gap a b = gap b a := by unfold gap; omega
theorem gap_zero {a b : UInt8} : gap a b = 0 ↔ a = b := by
  unfold gap
  constructor
  · intro h
    exact UInt8.toNat_inj.1 (by omega)
  · rintro rfl; omega
theorem gap_tri (a b c : UInt8) : gap a b ≤ gap a c + gap c b := by unfold gap; omega
theorem gaps_comm : ∀ a b : List UInt8, gaps a b = gaps b a
  | [], [] => rfl
  | [], _ :: _ => rfl
  | _ :: _, [] => rfl
  | x :: a, y :: b => by
    show gap x y + gaps a b = gap y x + gaps b a
    rw [gap_comm, gaps_comm a b]
theorem gaps_zero : ∀ a b : List UInt8, a.length = b.length → (gaps a b = 0 ↔ a = b)
  | [], [], _ => by simp [gaps]
  | [], _ :: _, h => by simp at h
  | _ :: _, [], h => by simp at h
  | x :: a, y :: b, h => by
    have ih := gaps_zero a b (by simpa using h)
    show gap x y + gaps a b = 0 ↔ _
    rw [Nat.add_eq_zero_iff, gap_zero, ih]
    simp
theorem gaps_tri : ∀ a b c : List UInt8, a.length = b.length → c.length = b.length → gaps a b ≤ gaps a c + gaps c b
  | [], _, _, _, _ => by simp [gaps]
  | _ :: _, [], _, h, _ => by simp at h
  | _ :: _, _ :: _, [], _, h => by simp at h
  | x :: a, y :: b, z :: c, h, k => by
    have ih := gaps_tri a b c (by simpa using h) (by simpa using k)
    have := gap_tri x y z
    show gap x y + gaps a b ≤ gap x z + gaps a c + (gap z y + gaps c b)
    omega

/-- A sum of the first n. -/
def sumN (f : Nat → Nat) : Nat → Nat
  | 0 => 0
  | n + 1 => sumN f n + f n
theorem sumN_congr {f g : Nat → Nat} : ∀ n, (∀ k, k < n → f k = g k) → sumN f n = sumN g n
  | 0, _ => rfl
  | n + 1, h => by
    show sumN f n + f n = sumN g n + g n
    rw [sumN_congr n (fun k hk => h k (by omega)), h n (by omega)]
theorem sumN_le {f g : Nat → Nat} : ∀ n, (∀ k, k < n → f k ≤ g k) → sumN f n ≤ sumN g n
  | 0, _ => Nat.le_refl _
  | n + 1, h => by
    have := sumN_le n (fun k hk => h k (by omega))
    have := h n (by omega)
    show sumN f n + f n ≤ sumN g n + g n
    omega
theorem sumN_append (f : Nat → Nat) (a : Nat) : ∀ b, sumN f (a + b) = sumN f a + sumN (fun k => f (a + k)) b
  | 0 => rfl
  | b + 1 => by
    show sumN f (a + b) + f (a + b) = _
    rw [sumN_append f a b]
    show _ = sumN f a + (sumN (fun k => f (a + k)) b + f (a + b))
    omega
theorem sumN_plus (f g : Nat → Nat) : ∀ n, sumN (fun k => f k + g k) n = sumN f n + sumN g n
  | 0 => rfl
  | n + 1 => by
    show sumN (fun k => f k + g k) n + (f n + g n) = sumN f n + f n + (sumN g n + g n)
    rw [sumN_plus f g n]
    omega
theorem sumN_mul (f : Nat → Nat) (b : Nat) : ∀ a, sumN f (a * b) = sumN (fun r => sumN (fun c => f (r * b + c)) b) a
  | 0 => by simp [sumN]
  | a + 1 => by
    rw [Nat.succ_mul, sumN_append, sumN_mul f b a]
    rfl
theorem sumN_two (f : Nat → Nat) : ∀ a, sumN f (2 * a) = sumN (fun r => f (2 * r) + f (2 * r + 1)) a
  | 0 => rfl
  | a + 1 => by
    show sumN f (2 * a) + f (2 * a) + f (2 * a + 1) = _
    rw [sumN_two f a]
    show _ = sumN (fun r => f (2 * r) + f (2 * r + 1)) a + (f (2 * a) + f (2 * a + 1))
    omega
/-- A board summed by fours. -/
theorem sumN_fours (f : Nat → Nat) (w h : Nat) :
    sumN f ((2 * h) * (2 * w)) = sumN (fun k => f ((2 * (k / w)) * (2 * w) + 2 * (k % w)) + f ((2 * (k / w)) * (2 * w) + (2 * (k % w) + 1)) + f ((2 * (k / w) + 1) * (2 * w) + 2 * (k % w)) + f ((2 * (k / w) + 1) * (2 * w) + (2 * (k % w) + 1))) (h * w) := by
  rw [sumN_mul, sumN_two, sumN_mul]
  refine sumN_congr h fun r hr => ?_
  rw [sumN_two, sumN_two, ← sumN_plus]
  refine sumN_congr w fun c hc => ?_
  have e1 : (r * w + c) / w = r := by rw [Nat.mul_comm, Nat.mul_add_div (by omega), Nat.div_eq_of_lt hc, Nat.add_zero]
  have e2 : (r * w + c) % w = c := by rw [Nat.mul_comm, Nat.mul_add_mod, Nat.mod_eq_of_lt hc]
  simp only [e1, e2]
  omega
theorem gaps_sum : ∀ a b : List UInt8, a.length = b.length → gaps a b = sumN (fun k => gap (a.getD k 0) (b.getD k 0)) a.length
  | [], _, _ => by simp [gaps, sumN]
  | _ :: _, [], h => by simp at h
  | x :: a, y :: b, h => by
    have ih := gaps_sum a b (by simpa using h)
    show gap x y + gaps a b = sumN _ (a.length + 1)
    rw [ih, Nat.add_comm a.length 1, sumN_append]
    congr 1
    · simp [sumN]
    · refine sumN_congr _ fun k _ => ?_
      simp [Nat.add_comm 1 k]
theorem sumN_scale (c : Nat) (f : Nat → Nat) : ∀ n, c * sumN f n = sumN (fun k => c * f k) n
  | 0 => rfl
  | n + 1 => by
    show c * (sumN f n + f n) = sumN (fun k => c * f k) n + c * f n
    rw [Nat.mul_add, sumN_scale c f n]
theorem sumN_const (c : Nat) : ∀ n, sumN (fun _ => c) n = c * n
  | 0 => rfl
  | n + 1 => by
    show sumN (fun _ => c) n + c = c * (n + 1)
    rw [sumN_const c n, Nat.mul_succ]

/-- A sample inside, by its column and row. -/
theorem smpF_in {P : Pl} {w h c r : Nat} (hw : P.w = (w : Int)) (hh : P.h = (h : Int)) (hc : c < w) (hr : r < h) {x y : Int} (hx : x = (c : Int)) (hy : y = (r : Int)) : P.smp x y = P.pix.getD (r * w + c) 0 := by
  unfold Pl.smp nearI
  rw [hw, hh, hx, hy, if_neg (by omega), if_neg (by omega), if_neg (by omega), if_neg (by omega)]
  congr 1
theorem four_eq {P : Pl} {w h x y : Nat} (hw : P.w = ((2 * w : Nat) : Int)) (hh : P.h = ((2 * h : Nat) : Int)) (hx : x < w) (hy : y < h) :
    P.four x y = 2 + (P.pix.getD ((2 * y) * (2 * w) + 2 * x) 0).toNat + (P.pix.getD ((2 * y) * (2 * w) + (2 * x + 1)) 0).toNat + (P.pix.getD ((2 * y + 1) * (2 * w) + 2 * x) 0).toNat + (P.pix.getD ((2 * y + 1) * (2 * w) + (2 * x + 1)) 0).toNat := by
  have e0 := smpF_in (P := P) hw hh (c := 2 * x) (r := 2 * y) (by omega) (by omega) (x := 2 * (x : Int) + ((0 % 2 : Nat) : Int)) (y := 2 * (y : Int) + ((0 / 2 : Nat) : Int)) (by simp) (by simp)
  have e1 := smpF_in (P := P) hw hh (c := 2 * x + 1) (r := 2 * y) (by omega) (by omega) (x := 2 * (x : Int) + ((1 % 2 : Nat) : Int)) (y := 2 * (y : Int) + ((1 / 2 : Nat) : Int)) (by simp) (by simp)
  have e2 := smpF_in (P := P) hw hh (c := 2 * x) (r := 2 * y + 1) (by omega) (by omega) (x := 2 * (x : Int) + ((2 % 2 : Nat) : Int)) (y := 2 * (y : Int) + ((2 / 2 : Nat) : Int)) (by simp) (by simp)
  have e3 := smpF_in (P := P) hw hh (c := 2 * x + 1) (r := 2 * y + 1) (by omega) (by omega) (x := 2 * (x : Int) + ((3 % 2 : Nat) : Int)) (y := 2 * (y : Int) + ((3 / 2 : Nat) : Int)) (by simp) (by simp)
  show 2 + (P.smp _ _).toNat + (P.smp _ _).toNat + (P.smp _ _).toNat + (P.smp _ _).toNat = _
  rw [e0, e1, e2, e3]
theorem gap_four (a0 a1 a2 a3 b0 b1 b2 b3 : UInt8) :
    4 * gap (UInt8.ofNat ((2 + a0.toNat + a1.toNat + a2.toNat + a3.toNat) / 4)) (UInt8.ofNat ((2 + b0.toNat + b1.toNat + b2.toNat + b3.toNat) / 4)) ≤ gap a0 b0 + gap a1 b1 + gap a2 b2 + gap a3 b3 + 3 := by
  unfold gap
  have := a0.toNat_lt; have := a1.toNat_lt; have := a2.toNat_lt; have := a3.toNat_lt
  have := b0.toNat_lt; have := b1.toNat_lt; have := b2.toNat_lt; have := b3.toNat_lt
  simp only [UInt8.toNat_ofNat']
  rw [Nat.mod_eq_of_lt (by omega), Nat.mod_eq_of_lt (by omega)]
  omega
theorem half_far {A B : Pl} (hA : A.even = true) (hB : B.ok = true) (hw : A.w = B.w) (hh : A.h = B.h) :
    4 * gaps A.half.1.pix B.half.1.pix ≤ gaps A.pix B.pix + 3 * A.half.1.pix.length := by
  have hA' := hA
  unfold Pl.even at hA'
  simp only [Bool.and_eq_true, decide_eq_true_eq] at hA'
  obtain ⟨⟨hok, hw2⟩, hh2⟩ := hA'
  have hB' : B.even = true := by
    unfold Pl.even
    rw [← hw, ← hh, hB]
    simp [hw2, hh2]
  obtain ⟨⟨q1, q2⟩, ⟨q3, q4⟩, ql⟩ := Pl.ok_iff.1 hok
  obtain ⟨-, -, qm⟩ := Pl.ok_iff.1 hB
  obtain ⟨w, ew⟩ : ∃ w : Nat, A.w = ((2 * w : Nat) : Int) := ⟨(A.w / 2).toNat, by omega⟩
  obtain ⟨h, eh⟩ : ∃ h : Nat, A.h = ((2 * h : Nat) : Int) := ⟨(A.h / 2).toNat, by omega⟩
  have eA : A.half.1.pix = (List.range (w * h)).map (A.halves w) := by
    unfold Pl.half
    rw [if_pos hA, ew, eh]
    have e1 : (((2 * w : Nat) : Int) / 2).toNat = w := by omega
    have e2 : (((2 * h : Nat) : Int) / 2).toNat = h := by omega
    simp only [e1, e2]
  have eB : B.half.1.pix = (List.range (w * h)).map (B.halves w) := by
    unfold Pl.half
    rw [if_pos hB', ← hw, ← hh, ew, eh]
    have e1 : (((2 * w : Nat) : Int) / 2).toNat = w := by omega
    have e2 : (((2 * h : Nat) : Int) / 2).toNat = h := by omega
    simp only [e1, e2]
  have lA : A.pix.length = (2 * h) * (2 * w) := by
    rw [ew, eh] at ql
    have : ((A.pix.length : Nat) : Int) = (((2 * w) * (2 * h) : Nat) : Int) := by rw [ql]; push_cast; rfl
    rw [Nat.mul_comm (2 * h)]
    omega
  have lB : B.pix.length = (2 * h) * (2 * w) := by
    rw [← hw, ← hh, ew, eh] at qm
    have : ((B.pix.length : Nat) : Int) = (((2 * w) * (2 * h) : Nat) : Int) := by rw [qm]; push_cast; rfl
    rw [Nat.mul_comm (2 * h)]
    omega
  rw [gaps_sum A.pix B.pix (by rw [lA, lB]), lA, sumN_fours, eA, eB, gaps_sum _ _ (by simp)]
  simp only [List.length_map, List.length_range]
  rw [sumN_scale, ← sumN_const 3 (w * h), Nat.mul_comm h w, ← sumN_plus]
  refine sumN_le _ fun k hk => ?_
  have hw0 : 0 < w := by rcases Nat.eq_zero_or_pos w with e | e; · subst e; omega
                         · exact e
  have h1 : k % w < w := Nat.mod_lt _ hw0
  have h2 : k / w < h := Nat.div_lt_of_lt_mul hk
  have gA : (List.map (A.halves w) (List.range (w * h))).getD k 0 = A.halves w k := by simp [List.getD, hk]
  have gB : (List.map (B.halves w) (List.range (w * h))).getD k 0 = B.halves w k := by simp [List.getD, hk]
  rw [gA, gB]
  unfold Pl.halves
  rw [four_eq ew eh h1 h2, four_eq (P := B) (hw ▸ ew) (hh ▸ eh) h1 h2]
  exact gap_four _ _ _ _ _ _ _ _
theorem half_facts {A : Pl} (hA : A.even = true) : A.half.1.ok = true ∧ A.half.1.w = A.w / 2 ∧ A.half.1.h = A.h / 2 ∧ A.half.1.pix.length ≤ A.pix.length := by
  have hA' := hA
  unfold Pl.even at hA'
  simp only [Bool.and_eq_true, decide_eq_true_eq] at hA'
  obtain ⟨⟨hok, hw2⟩, hh2⟩ := hA'
  obtain ⟨⟨q1, q2⟩, ⟨q3, q4⟩, ql⟩ := Pl.ok_iff.1 hok
  obtain ⟨w, ew⟩ : ∃ w : Nat, A.w = ((2 * w : Nat) : Int) := ⟨(A.w / 2).toNat, by omega⟩
  obtain ⟨h, eh⟩ : ∃ h : Nat, A.h = ((2 * h : Nat) : Int) := ⟨(A.h / 2).toNat, by omega⟩
  have e1 : (((2 * w : Nat) : Int) / 2).toNat = w := by omega
  have e2 : (((2 * h : Nat) : Int) / 2).toNat = h := by omega
  have lA : A.pix.length = 4 * (w * h) := by
    rw [ew, eh] at ql
    have : ((A.pix.length : Nat) : Int) = (((2 * w) * (2 * h) : Nat) : Int) := by rw [ql]; push_cast; rfl
    have e : (2 * w) * (2 * h) = 4 * (w * h) := by rw [Nat.mul_mul_mul_comm]
    omega
  unfold Pl.half
  rw [if_pos hA, ew, eh]
  simp only [e1, e2]
  refine ⟨Pl.ok_iff.2 ⟨?_, ?_, ?_⟩, trivial, trivial, ?_⟩
  · show 1 ≤ ((2 * w : Nat) : Int) / 2 ∧ ((2 * w : Nat) : Int) / 2 ≤ 4096; omega
  · show 1 ≤ ((2 * h : Nat) : Int) / 2 ∧ ((2 * h : Nat) : Int) / 2 ≤ 4096; omega
  · simp
  · simp only [List.length_map, List.length_range]; omega
end Go.Proofs.Ytlcjlgdcleenlaa

/-
  Contracts of the landed planes: halved. Conditions: a right plane with even sides.
-/
namespace Go.Proofs.Ytlcjlgdcleenlaa
open Go.RowKit

set_option maxRecDepth 20000 in
set_option maxHeartbeats 8000000 in
theorem halved_any (a b : Nat) (ad : Addr) (c : Nat) (pix : List UInt8) (w : World)
    (hs : Src w (.slice (some ad) pix.length c) (pix.map B8)) (hok : Pl.ok ⟨((2 * a : Nat) : Int), ((2 * b : Nat) : Int), pix⟩ = true) (hO : OkAt (2 * a) (2 * b) pix.length c) :
    Calls Try.prog 47 #[plV ((2 * a : Nat) : Int) ((2 * b : Nat) : Int) (some ad) pix.length c] w
      fun e w' => ∃ x M, e = .returned (plV a b (some ⟨x, 0, none⟩) M M) ∧ PlMine w w' (plV a b (some ⟨x, 0, none⟩) M M) (Pl.half ⟨((2 * a : Nat) : Int), ((2 * b : Nat) : Int), pix⟩).1 := by
  have hhalf := half_ok (P := ⟨((2 * a : Nat) : Int), ((2 * b : Nat) : Int), pix⟩) ⟨hok, by simp only; omega, by simp only; omega⟩
  simp only at hhalf
  rw [show ((2 * a : Nat) : Int) / 2 = (a : Int) by omega, show ((2 * b : Nat) : Int) / 2 = (b : Int) by omega, Int.toNat_natCast, Int.toNat_natCast] at hhalf
  have hab : 1 ≤ a ∧ a ≤ 2048 ∧ 1 ≤ b ∧ b ≤ 2048 := by have := hO.w1; have := hO.w2; have := hO.h1; have := hO.h2; omega
  have hFl := fun w => filled_any a b 0 w (by omega) (by omega) (by omega) (by omega)
  have hfour := fun x y (hx : x < a) (hy : y < b) => four_eq (P := ⟨((2 * a : Nat) : Int), ((2 * b : Nat) : Int), pix⟩) (w := a) (h := b) (x := x) (y := y) rfl rfl hx hy
  simp only at hfour
  obtain ⟨W, hW⟩ : ∃ W, W = 2 * a := ⟨_, rfl⟩
  obtain ⟨H, hH⟩ : ∃ H, H = 2 * b := ⟨_, rfl⟩
  obtain ⟨P, hP⟩ : ∃ P : Pl, P = ⟨((2 * a : Nat) : Int), ((2 * b : Nat) : Int), pix⟩ := ⟨_, rfl⟩
  rw [← hP] at hhalf hfour ⊢
  rw [← hW, ← hH] at hO ⊢
  rw [← hW] at hfour
  have q1 : (W : Int) / 2 = (a : Int) := by omega
  have q2 : (H : Int) / 2 = (b : Int) := by omega
  obtain ⟨N2, hN2⟩ : ∃ N2, N2 = a * b := ⟨_, rfl⟩
  have hN2l : N2 ≤ 4194304 := by rw [hN2]; exact Nat.mul_le_mul hab.2.1 hab.2.2.2
  rw [← hN2] at hFl
  obtain ⟨pl, hpll⟩ : ∃ pl, pl = pix.length := ⟨_, rfl⟩
  have z2 := hO.w2
  have z3 := hO.h2
  have z4 := hO.w1
  have z5 := hO.h1
  have hRowP := fun y (hy : y < H) w => row_any W H y ad pl c w z4 z2 z3 hy (by rw [hpll]; exact hO.n_) (by rw [hpll]; exact hO.c_)
  have HRowP := Lib.hid hRowP; have HFl := Lib.hid hFl; have Hfour := Lib.hid hfour; have Hhalf := Lib.hid hhalf; have HS := Lib.hid hs; have HWH := Lib.hid (And.intro hW hH); have HN2 := Lib.hid hN2; have HO := Lib.hid hO; have Hpl := Lib.hid hpll
  have HT := Lib.hid (two6 w #[.int .i64 (W : Int), .int .i64 (H : Int), .slice (some ad) pl c])
  rw [← hpll]
  obtain ⟨ab1, ab2, ab3, ab4⟩ := hab
  obtain ⟨F, hF⟩ : ∃ F, F = P.halves a := ⟨_, rfl⟩
  have HFe := Lib.hid hF
  clear hhalf hfour hs hok hO hP hpll hW hH hN2 hFl hRowP hF
  unfold plV at HRowP HFl ⊢
  go_enter Try.func47, Try.ntmps47
  go_upto_region 1 with fail
  generalize World.alloc (World.alloc w _) _ = w1 at HT ⊢
  obtain ⟨g, hg⟩ : ∃ g, g = w.heap.size := ⟨_, rfl⟩
  rw [← hg] at HT ⊢
  obtain ⟨r, hr⟩ : ∃ r, r = g + 1 := ⟨_, rfl⟩
  rw [← hr] at HT ⊢
  clear hg hr
  have c0 := HT.out.bg.cell 0
  have c1 := HT.out.bg.cell 1
  have c2 := HT.out.bg.cell 2
  have hlg := HT.out.bg.lt
  simp at c0 c1 c2
  go_wp2_with fail
  refine (HFl.out _).mono ?_
  rintro e w3 ⟨x3, rfl, hx3, hR3, hF3⟩
  have HT3 := Lib.hid (HT.out.fr0 hF3)
  have HG3 := Lib.hid (show g < x3 ∧ r < x3 ∧ x3 < w3.heap.size ∧ w.heap.size ≤ x3 by have := HT.out.bg.lt; have := HT.out.br.lt; have := hR3.lt; have := HT.out.fr.size; omega)
  have HR3 := Lib.hid hR3
  clear c0 c1 c2 hlg HT hx3 hR3 hF3 HFl
  go_upto_region 2 with fail
  have hq := Blk.new w3 25 #[.int .i64 (a : Int), .int .i64 (b : Int), .slice (some ⟨x3, 0, none⟩) N2 N2]
  have hLA : LayAt w (w3.alloc (.cells #[.int .i64 (a : Int), .int .i64 (b : Int), .slice (some ⟨x3, 0, none⟩) N2 N2] 25)) g r w3.heap.size #[.int .i64 (W : Int), .int .i64 (H : Int), .slice (some ad) pl c] a b (some ⟨x3, 0, none⟩) N2 N2 (List.replicate N2 0) := by
    have hf : Fr [] w3 (w3.alloc (.cells #[.int .i64 (a : Int), .int .i64 (b : Int), .slice (some ⟨x3, 0, none⟩) N2 N2] 25)) := (Fr.refl _ _).alloc _
    have hg3 := HG3.out
    refine ⟨HT3.out.fr0 hf, hq, ?_, fun k hk => ?_⟩
    · have hm := HR3.out.mine (w0 := w) HT3.out.fr hg3.2.2.2
      rw [List.length_replicate] at hm
      exact hm.fr0 hf
    · injection hk with hk
      subst hk
      refine ⟨?_, ?_, ?_⟩ <;> simp only <;> omega
  generalize w3.alloc (.cells #[.int .i64 (a : Int), .int .i64 (b : Int), .slice (some ⟨x3, 0, none⟩) N2 N2] 25) = w6 at hLA ⊢
  obtain ⟨q, hqq⟩ : ∃ q, q = w3.heap.size := ⟨_, rfl⟩
  rw [← hqq] at hLA ⊢
  have HLA := Lib.hid hLA
  clear hq hLA hqq HT3 HR3
  have hFill : Filled F N2 0 (List.replicate N2 0) := ⟨by simp, by omega⟩
  have HFill := Lib.hid hFill
  clear hFill
  have k1 := HLA.out.out.cell 1
  have hlq := HLA.out.out.lt
  simp at k1
  go_wp2_with fail
  clear k1 hlq
  go_loopw [19] (fun s19 wr => ∃ (y : Nat) (px : List UInt8), y ≤ b ∧ s19 = .int .i64 (y : Int) ∧ Filled F N2 (y * a) px ∧ LayAt w wr g r q #[.int .i64 (W : Int), .int .i64 (H : Int), .slice (some ad) pl c] a b (some ⟨x3, 0, none⟩) N2 N2 px) (fun s19 _ => b - (intOf s19).toNat)
  case atStart => exact ⟨0, _, by omega, rfl, by rw [Nat.zero_mul]; exact HFill.out, HLA.out⟩
  case round =>
    clear HLA HFill
    obtain ⟨y, px, hy, rfl, hfl, hLA⟩ := hrel
    by_cases hlt : y < b
    · have eg : decide (y < b) = true := by simpa using hlt
      obtain ⟨Y2, hY2⟩ : ∃ Y2, Y2 = 2 * y := ⟨_, rfl⟩
      obtain ⟨Y3, hY3⟩ : ∃ Y3, Y3 = 2 * y + 1 := ⟨_, rfl⟩
      have eY2 : 2 * (y : Int) = (Y2 : Int) := by omega
      have eY3 : (Y2 : Int) + 1 = (Y3 : Int) := by omega
      have wY2 : IntKind.i64.wrap (Y2 : Int) = (Y2 : Int) := IntWalk.i64_in _ (by omega)
      have wY3 : IntKind.i64.wrap (Y3 : Int) = (Y3 : Int) := IntWalk.i64_in _ (by omega)
      have hY2l : Y2 < H := by have := HWH.out.2; omega
      have hY3l : Y3 < H := by have := HWH.out.2; omega
      obtain ⟨U, hU⟩ : ∃ U, U = Y2 * W := ⟨_, rfl⟩
      obtain ⟨L, hLw⟩ : ∃ L, L = Y3 * W := ⟨_, rfl⟩
      obtain ⟨T, hT⟩ : ∃ T, T = y * a := ⟨_, rfl⟩
      have hU' := HRowP.out Y2 hY2l
      have hL' := HRowP.out Y3 hY3l
      have hT' := fun w => row_any a b y ⟨x3, 0, none⟩ N2 N2 w ab1 (by omega) (by omega) hlt HN2.out (Nat.le_refl _)
      unfold plV at hT'
      rw [← hU] at hU'
      rw [← hLw] at hL'
      simp only [add0] at hT'
      rw [← hT] at hT' hfl
      have HU := Lib.hid hU'; have HLo := Lib.hid hL'; have HTo := Lib.hid hT'; have HYs := Lib.hid (And.intro hY2 (And.intro hY3 (And.intro hU (And.intro hLw hT))))
      have HLd := Lib.hid (hLA.fr0 (Fr.refl [] wr).drew); have Hfl := Lib.hid hfl
      clear hY2 hY3 hU hLw hT hU' hL' hT' hLA hfl hY2l hY3l
      go_upto_region 5 with fail
      have c0 := HLd.out.two.bg.cell 0
      have c1 := HLd.out.two.bg.cell 1
      have c2 := HLd.out.two.bg.cell 2
      have e0 := HLd.out.out.cell 0
      have e1 := HLd.out.out.cell 1
      have e2 := HLd.out.out.cell 2
      simp at c0 c1 c2 e0 e1 e2
      refine wp_region_held_drew (S := fun W' => (W'.cell? ⟨g, 0, none⟩ = some (.int .i64 (W : Int)) ∧ W'.cell? ⟨g, 1, none⟩ = some (.int .i64 (H : Int)) ∧ W'.cell? ⟨g, 2, none⟩ = some (.slice (some ad) pl c)) ∧ W'.cell? ⟨q, 0, none⟩ = some (.int .i64 (a : Int)) ∧ W'.cell? ⟨q, 1, none⟩ = some (.int .i64 (b : Int)) ∧ W'.cell? ⟨q, 2, none⟩ = some (.slice (some ⟨x3, 0, none⟩) N2 N2)) (by kernel_rfl) ?_ (fun hHeld => ?_)
      · (first | exact ⟨⟨m0, m1, m2⟩, m3, m4, m5⟩ | exact ⟨⟨l0, l1, l2⟩, l3, l4, l5⟩ | exact ⟨⟨k0, k1, k2⟩, k3, k4, k5⟩ | exact ⟨⟨c0, c1, c2⟩, e0, e1, e2⟩)
      refine wpAnyH_pick 0 (v := ?_) rfl (by kernel_rfl) (by kernel_rfl) (by kernel_rfl) (fun _ _ _ h => h) (by assumption) (by rfl) ?_ ?_
      rotate_left
      · (intro w hSw; (try dsimp only at hSw); go_simp) <;> (with_reducible rfl)
      (try simp only [Act.put, List.setIfInBounds_toArray, List.set_cons_zero, List.set_cons_succ])
      refine wpAnyH_pick 1 (v := ?_) rfl (by kernel_rfl) (by kernel_rfl) (by kernel_rfl) (fun _ _ _ h => h) (by assumption) (by rfl) ?_ ?_
      rotate_left
      · (intro w hSw; (try dsimp only at hSw); go_simp) <;> (with_reducible rfl)
      (try simp only [Act.put, List.setIfInBounds_toArray, List.set_cons_zero, List.set_cons_succ])
      refine wpAnyH_pick 2 (v := ?_) rfl (by kernel_rfl) (by kernel_rfl) (by kernel_rfl) (fun _ _ _ h => h) (by assumption) (by rfl) ?_ ?_
      rotate_left
      · (intro w hSw; (try dsimp only at hSw); go_simp) <;> (with_reducible rfl)
      (try simp only [Act.put, List.setIfInBounds_toArray, List.set_cons_zero, List.set_cons_succ])
      refine wpAnyH_pick 4 (v := ?_) rfl (by kernel_rfl) (by kernel_rfl) (by kernel_rfl) (fun _ _ _ h => h) (by assumption) (by rfl) ?_ ?_
      rotate_left
      · (intro w hSw; (try dsimp only at hSw); go_simp) <;> (with_reducible rfl)
      (try simp only [Act.put, List.setIfInBounds_toArray, List.set_cons_zero, List.set_cons_succ])
      refine wpAnyH_pick 5 (v := ?_) rfl (by kernel_rfl) (by kernel_rfl) (by kernel_rfl) (fun _ _ _ h => h) (by assumption) (by rfl) ?_ ?_
      rotate_left
      · (intro w hSw; (try dsimp only at hSw); go_simp) <;> (with_reducible rfl)
      (try simp only [Act.put, List.setIfInBounds_toArray, List.set_cons_zero, List.set_cons_succ])
      refine wpAnyH_pick 6 (v := ?_) rfl (by kernel_rfl) (by kernel_rfl) (by kernel_rfl) (fun _ _ _ h => h) (by assumption) (by rfl) ?_ ?_
      rotate_left
      · (intro w hSw; (try dsimp only at hSw); go_simp) <;> (with_reducible rfl)
      (try simp only [Act.put, List.setIfInBounds_toArray, List.set_cons_zero, List.set_cons_succ])
      refine wpAnyH_pick 7 (v := ?_) rfl (by kernel_rfl) (by kernel_rfl) (by kernel_rfl) (fun _ _ _ h => h) (by assumption) (by rfl) ?_ ?_
      rotate_left
      · (intro w hSw; (try dsimp only at hSw); go_simp) <;> (with_reducible rfl)
      (try simp only [Act.put, List.setIfInBounds_toArray, List.set_cons_zero, List.set_cons_succ])
      refine wpAnyH_pick 9 (v := ?_) rfl (by kernel_rfl) (by kernel_rfl) (by kernel_rfl) (fun _ _ _ h => h) (by assumption) (by rfl) ?_ ?_
      rotate_left
      · (intro w hSw; (try dsimp only at hSw); go_simp) <;> (with_reducible rfl)
      (try simp only [Act.put, List.setIfInBounds_toArray, List.set_cons_zero, List.set_cons_succ])
      refine wpAnyH_pick 10 (v := ?_) rfl (by kernel_rfl) (by kernel_rfl) (by kernel_rfl) (fun _ _ _ h => h) (by assumption) (by rfl) ?_ ?_
      rotate_left
      · (intro w hSw; (try dsimp only at hSw); go_simp) <;> (with_reducible rfl)
      (try simp only [Act.put, List.setIfInBounds_toArray, List.set_cons_zero, List.set_cons_succ])
      refine wpAnyH_ready (rs := [3]) (by kernel_rfl) (by simp) ?_
      refine AllReadyH_pick rfl (fun K hK => ?_) (AllReadyH.nil)
      go_simp
      refine (HU.out _).mono ?_
      rintro e w7 ⟨rfl, hF7⟩
      have HL7 := Lib.hid (HLd.out.fr0 hF7)
      have k0 := HL7.out.two.bg.cell 0
      have k1 := HL7.out.two.bg.cell 1
      have k2 := HL7.out.two.bg.cell 2
      have k3 := HL7.out.out.cell 0
      have k4 := HL7.out.out.cell 1
      have k5 := HL7.out.out.cell 2
      simp at k0 k1 k2 k3 k4 k5
      clear hF7
      go_wp2_with fail
      refine hK.out _ _ ?_ (fun hHeld => ?_)
      · (first | exact ⟨⟨m0, m1, m2⟩, m3, m4, m5⟩ | exact ⟨⟨l0, l1, l2⟩, l3, l4, l5⟩ | exact ⟨⟨k0, k1, k2⟩, k3, k4, k5⟩ | exact ⟨⟨c0, c1, c2⟩, e0, e1, e2⟩)
      clear hK K
      (try simp only [Act.put, List.setIfInBounds_toArray, List.set_cons_zero, List.set_cons_succ])
      refine wpAnyH_ready (rs := [8]) (by kernel_rfl) (by simp) ?_
      refine AllReadyH_pick rfl (fun K hK => ?_) (AllReadyH.nil)
      go_simp
      refine (HLo.out _).mono ?_
      rintro e w8 ⟨rfl, hF8⟩
      have HL8 := Lib.hid (HL7.out.fr0 hF8)
      have l0 := HL8.out.two.bg.cell 0
      have l1 := HL8.out.two.bg.cell 1
      have l2 := HL8.out.two.bg.cell 2
      have l3 := HL8.out.out.cell 0
      have l4 := HL8.out.out.cell 1
      have l5 := HL8.out.out.cell 2
      simp at l0 l1 l2 l3 l4 l5
      clear hF8
      go_wp2_with fail
      refine hK.out _ _ ?_ (fun hHeld => ?_)
      · (first | exact ⟨⟨m0, m1, m2⟩, m3, m4, m5⟩ | exact ⟨⟨l0, l1, l2⟩, l3, l4, l5⟩ | exact ⟨⟨k0, k1, k2⟩, k3, k4, k5⟩ | exact ⟨⟨c0, c1, c2⟩, e0, e1, e2⟩)
      clear hK K
      (try simp only [Act.put, List.setIfInBounds_toArray, List.set_cons_zero, List.set_cons_succ])
      refine wpAnyH_ready (rs := [11]) (by kernel_rfl) (by simp) ?_
      refine AllReadyH_pick rfl (fun K hK => ?_) (AllReadyH.nil)
      go_simp
      refine (HTo.out _).mono ?_
      rintro e w9 ⟨rfl, hF9⟩
      have HL9 := Lib.hid (HL8.out.fr0 hF9)
      have m0 := HL9.out.two.bg.cell 0
      have m1 := HL9.out.two.bg.cell 1
      have m2 := HL9.out.two.bg.cell 2
      have m3 := HL9.out.out.cell 0
      have m4 := HL9.out.out.cell 1
      have m5 := HL9.out.out.cell 2
      simp at m0 m1 m2 m3 m4 m5
      clear hF9
      go_wp2_with fail
      refine hK.out _ _ ?_ (fun hHeld => ?_)
      · (first | exact ⟨⟨m0, m1, m2⟩, m3, m4, m5⟩ | exact ⟨⟨l0, l1, l2⟩, l3, l4, l5⟩ | exact ⟨⟨k0, k1, k2⟩, k3, k4, k5⟩ | exact ⟨⟨c0, c1, c2⟩, e0, e1, e2⟩)
      clear hK K
      (try simp only [Act.put, List.setIfInBounds_toArray, List.set_cons_zero, List.set_cons_succ])
      refine wpAnyH_pick 12 (v := ?_) rfl (by kernel_rfl) (by kernel_rfl) (by kernel_rfl) (fun _ _ _ h => h) (by assumption) (by rfl) ?_ ?_
      rotate_left
      · (intro w hSw; (try dsimp only at hSw); go_simp) <;> (with_reducible rfl)
      (try simp only [Act.put, List.setIfInBounds_toArray, List.set_cons_zero, List.set_cons_succ])
      refine wpAnyH_pick 13 (v := ?_) rfl (by kernel_rfl) (by kernel_rfl) (by kernel_rfl) (fun _ _ _ h => h) (by assumption) (by rfl) ?_ ?_
      rotate_left
      · (intro w hSw; (try dsimp only at hSw); go_simp) <;> (with_reducible rfl)
      (try simp only [Act.put, List.setIfInBounds_toArray, List.set_cons_zero, List.set_cons_succ])
      refine wpAnyH_pick 14 (v := ?_) rfl (by kernel_rfl) (by kernel_rfl) (by kernel_rfl) (fun _ _ _ h => h) (by assumption) (by rfl) ?_ ?_
      rotate_left
      · (intro w hSw; (try dsimp only at hSw); go_simp) <;> (with_reducible rfl)
      (try simp only [Act.put, List.setIfInBounds_toArray, List.set_cons_zero, List.set_cons_succ])
      refine wpAnyH_done (by kernel_rfl) ?_ _
      skip
      have hlq := HL9.out.out.lt
      clear k0 k1 k2 k3 k4 k5 l0 l1 l2 l3 l4 l5 c0 c1 c2 e0 e1 e2 HLd HL7 HL8
      go_wp2_with fail
      clear m0 m1 m2 m3 m4 m5 hlq
      go_loopw [36] (fun s36 wr => ∃ (x : Nat) (px : List UInt8), x ≤ a ∧ s36 = .int .i64 (x : Int) ∧ Filled F N2 (T + x) px ∧ LayAt w wr g r q #[.int .i64 (W : Int), .int .i64 (H : Int), .slice (some ad) pl c] a b (some ⟨x3, 0, none⟩) N2 N2 px) (fun s36 _ => a - (intOf s36).toNat)
      case atStart => exact ⟨0, px, by omega, rfl, Hfl.out, HL9.out⟩
      case round =>
        clear HL9 Hfl
        obtain ⟨x, px, hx, rfl, hfl, hLA⟩ := hrel
        by_cases hlt2 : x < a
        · have eg2 : decide (x < a) = true := by simpa using hlt2
          obtain ⟨e1, e2, e3, e4, e5⟩ := HYs.out
          have hfour := Hfour.out x y hlt2 hlt
          rw [← e2, ← e1, ← e3, ← e4] at hfour
          obtain ⟨X2, hX2⟩ : ∃ X2, X2 = 2 * x := ⟨_, rfl⟩
          obtain ⟨X3, hX3⟩ : ∃ X3, X3 = 2 * x + 1 := ⟨_, rfl⟩
          rw [← hX3, ← hX2] at hfour
          have eX2 : 2 * (x : Int) = (X2 : Int) := by omega
          have eX3 : (X2 : Int) + 1 = (X3 : Int) := by omega
          have wX2 : IntKind.i64.wrap (X2 : Int) = (X2 : Int) := IntWalk.i64_in _ (by omega)
          have wX3 : IntKind.i64.wrap (X3 : Int) = (X3 : Int) := IntWalk.i64_in _ (by omega)
          have hX2l : X2 < W := by have := HWH.out.1; omega
          have hX3l : X3 < W := by have := HWH.out.1; omega
          have gX2 : decide (X2 < W) = true := by simpa using hX2l
          have gX3 : decide (X3 < W) = true := by simpa using hX3l
          have hfitU := HO.out.fits (y := Y2) (by have := HWH.out.2; omega)
          have hfitL := HO.out.fits (y := Y3) (by have := HWH.out.2; omega)
          rw [← e3] at hfitU
          rw [← e4] at hfitL
          obtain ⟨s1, hs1⟩ : ∃ s, s = pix.getD (U + X2) 0 := ⟨_, rfl⟩
          obtain ⟨s2, hs2⟩ : ∃ s, s = pix.getD (U + X3) 0 := ⟨_, rfl⟩
          obtain ⟨s3, hs3⟩ : ∃ s, s = pix.getD (L + X2) 0 := ⟨_, rfl⟩
          obtain ⟨s4, hs4⟩ : ∃ s, s = pix.getD (L + X3) 0 := ⟨_, rfl⟩
          rw [← hs1, ← hs2, ← hs3, ← hs4] at hfour
          have hcell : ∀ B X s, s = pix.getD (B + X) 0 → B + W ≤ pix.length → X < W → wr.drew.cell? ((ad.add B).add X) = some (.int .u8 (s.toNat : Int)) := by
            intro B X s hse hB hX
            have hk : pix[B + X]? = some s := by rw [hse, List.getD_eq_getElem?_getD, List.getElem?_eq_getElem (by omega)]; rfl
            obtain ⟨ad', e, hc⟩ := (HS.out.fr0 hLA.two.fr.drew).cellAt hk
            injection e with e
            subst e
            rw [addr_add_add]
            exact hc
          have d1 := hcell U X2 s1 hs1 hfitU hX2l
          have d2 := hcell U X3 s2 hs2 hfitU hX3l
          have d3 := hcell L X2 s3 hs3 hfitL hX2l
          have d4 := hcell L X3 s4 hs4 hfitL hX3l
          have b1 := s1.toNat_lt
          have b2 := s2.toNat_lt
          have b3 := s3.toNat_lt
          have b4 := s4.toNat_lt
          have v1 : IntKind.i64.wrap (s1.toNat : Int) = (s1.toNat : Int) := IntWalk.i64_in _ (by omega)
          have v2 : IntKind.i64.wrap (s2.toNat : Int) = (s2.toNat : Int) := IntWalk.i64_in _ (by omega)
          have v3 : IntKind.i64.wrap (s3.toNat : Int) = (s3.toNat : Int) := IntWalk.i64_in _ (by omega)
          have v4 : IntKind.i64.wrap (s4.toNat : Int) = (s4.toNat : Int) := IntWalk.i64_in _ (by omega)
          obtain ⟨A1, hA1⟩ : ∃ A1, A1 = s1.toNat + s2.toNat := ⟨_, rfl⟩
          obtain ⟨A2, hA2⟩ : ∃ A2, A2 = A1 + s3.toNat := ⟨_, rfl⟩
          obtain ⟨A3, hA3⟩ : ∃ A3, A3 = A2 + s4.toNat := ⟨_, rfl⟩
          obtain ⟨A4, hA4⟩ : ∃ A4, A4 = A3 + 2 := ⟨_, rfl⟩
          have eA1 : (s1.toNat : Int) + (s2.toNat : Int) = (A1 : Int) := by omega
          have eA2 : (A1 : Int) + (s3.toNat : Int) = (A2 : Int) := by omega
          have eA3 : (A2 : Int) + (s4.toNat : Int) = (A3 : Int) := by omega
          have eA4 : (A3 : Int) + 2 = (A4 : Int) := by omega
          have u1 : IntKind.i64.wrap (A1 : Int) = (A1 : Int) := IntWalk.i64_in _ (by omega)
          have u2 : IntKind.i64.wrap (A2 : Int) = (A2 : Int) := IntWalk.i64_in _ (by omega)
          have u3 : IntKind.i64.wrap (A3 : Int) = (A3 : Int) := IntWalk.i64_in _ (by omega)
          have u4 : IntKind.i64.wrap (A4 : Int) = (A4 : Int) := IntWalk.i64_in _ (by omega)
          have hA4f : A4 = P.four x y := by omega
          obtain ⟨z, hz⟩ : ∃ z : UInt8, z = UInt8.ofNat (A4 / 4) := ⟨_, rfl⟩
          have hzn : z.toNat = A4 / 4 := by rw [hz]; simp; omega
          have ez : (A4 : Int) / 4 = (z.toNat : Int) := by omega
          have hzl := z.toNat_lt
          have ez2 : (z.toNat : Int) % 256 = (z.toNat : Int) := by omega
          have vz : IntKind.u8.wrap (z.toNat : Int) = (z.toNat : Int) := IntWalk.u8_in _ (by omega)
          obtain ⟨K, hK⟩ : ∃ K, K = T + x := ⟨_, rfl⟩
          have hKl : K < N2 := by
            have := cell_lt hlt2 hlt
            rw [hK, e5, HN2.out]
            exact this
          have hFK : z = F K := by
            rw [HFe.out]
            unfold Pl.halves
            rw [hK, e5, Nat.mul_comm y a, Nat.mul_add_mod, Nat.mod_eq_of_lt hlt2, Nat.mul_add_div (by omega), Nat.div_eq_of_lt hlt2, Nat.add_zero, ← hA4f, hz]
          obtain ⟨x3', hA3', ⟨z0, cx⟩, fx, hst⟩ := (hLA.fr0 (Fr.refl [] wr).drew).store (k := K) (by rw [hfl.1]; exact hKl)
          have hx3e := Option.some.inj hA3'
          injection hx3e with hx3e
          subst hx3e
          have hst' := hst z
          have hfl2 : Filled F N2 (T + (x + 1)) (px.set K z) := by
            rw [hFK, ← Nat.add_assoc, ← hK]
            rw [← hK] at hfl
            exact hfl.set hKl
          rw [hK] at cx fx hst'
          have hx3l := (hLA.row (x3 := x3) (by rw [hfl.1])).lt
          have HL5 := Lib.hid hst'; have HF5 := Lib.hid hfl2; have HKe := Lib.hid hK
          clear hLA hfl hst hst' hfl2 hFK hz hzn hA4f hA1 hA2 hA3 hA4 hfour hs1 hs2 hs3 hs4 hcell hX2 hX3 e1 e2 e3 e4 e5 hfitU hfitL hK hKl hA3' gX2 gX3
          go_upto_region 9 with fail
          refine wp_region_held_drew (S := fun W' => W'.cell? ((ad.add U).add X2) = some (.int .u8 (s1.toNat : Int)) ∧ W'.cell? ((ad.add U).add X3) = some (.int .u8 (s2.toNat : Int)) ∧ W'.cell? ((ad.add L).add X2) = some (.int .u8 (s3.toNat : Int)) ∧ W'.cell? ((ad.add L).add X3) = some (.int .u8 (s4.toNat : Int))) (by kernel_rfl) ?_ (fun hHeld => ?_)
          · exact ⟨d1, d2, d3, d4⟩
          refine wpAnyH_pick 0 (v := ?_) rfl (by kernel_rfl) (by kernel_rfl) (by kernel_rfl) (fun _ _ _ h => h) (by assumption) (by rfl) ?_ ?_
          rotate_left
          · (intro w hSw; (try dsimp only at hSw); go_simp) <;> (with_reducible rfl)
          (try simp only [Act.put, List.setIfInBounds_toArray, List.set_cons_zero, List.set_cons_succ])
          refine wpAnyH_pick 1 (v := ?_) rfl (by kernel_rfl) (by kernel_rfl) (by kernel_rfl) (fun _ _ _ h => h) (by assumption) (by rfl) ?_ ?_
          rotate_left
          · (intro w hSw; (try dsimp only at hSw); go_simp) <;> (with_reducible rfl)
          (try simp only [Act.put, List.setIfInBounds_toArray, List.set_cons_zero, List.set_cons_succ])
          refine wpAnyH_pick 2 (v := ?_) rfl (by kernel_rfl) (by kernel_rfl) (by kernel_rfl) (fun _ _ _ h => h) (by assumption) (by rfl) ?_ ?_
          rotate_left
          · (intro w hSw; (try dsimp only at hSw); go_simp) <;> (with_reducible rfl)
          (try simp only [Act.put, List.setIfInBounds_toArray, List.set_cons_zero, List.set_cons_succ])
          refine wpAnyH_pick 3 (v := ?_) rfl (by kernel_rfl) (by kernel_rfl) (by kernel_rfl) (fun _ _ _ h => h) (by assumption) (by rfl) ?_ ?_
          rotate_left
          · (intro w hSw; (try dsimp only at hSw); go_simp) <;> (with_reducible rfl)
          (try simp only [Act.put, List.setIfInBounds_toArray, List.set_cons_zero, List.set_cons_succ])
          refine wpAnyH_pick 4 (v := ?_) rfl (by kernel_rfl) (by kernel_rfl) (by kernel_rfl) (fun _ _ _ h => h) (by assumption) (by rfl) ?_ ?_
          rotate_left
          · (intro w hSw; (try dsimp only at hSw); go_simp) <;> (with_reducible rfl)
          (try simp only [Act.put, List.setIfInBounds_toArray, List.set_cons_zero, List.set_cons_succ])
          refine wpAnyH_pick 5 (v := ?_) rfl (by kernel_rfl) (by kernel_rfl) (by kernel_rfl) (fun _ _ _ h => h) (by assumption) (by rfl) ?_ ?_
          rotate_left
          · (intro w hSw; (try dsimp only at hSw); go_simp) <;> (with_reducible rfl)
          (try simp only [Act.put, List.setIfInBounds_toArray, List.set_cons_zero, List.set_cons_succ])
          refine wpAnyH_pick 6 (v := ?_) rfl (by kernel_rfl) (by kernel_rfl) (by kernel_rfl) (fun _ _ _ h => h) (by assumption) (by rfl) ?_ ?_
          rotate_left
          · (intro w hSw; (try dsimp only at hSw); go_simp) <;> (with_reducible rfl)
          (try simp only [Act.put, List.setIfInBounds_toArray, List.set_cons_zero, List.set_cons_succ])
          refine wpAnyH_pick 7 (v := ?_) rfl (by kernel_rfl) (by kernel_rfl) (by kernel_rfl) (fun _ _ _ h => h) (by assumption) (by rfl) ?_ ?_
          rotate_left
          · (intro w hSw; (try dsimp only at hSw); go_simp) <;> (with_reducible rfl)
          (try simp only [Act.put, List.setIfInBounds_toArray, List.set_cons_zero, List.set_cons_succ])
          refine wpAnyH_pick 8 (v := ?_) rfl (by kernel_rfl) (by kernel_rfl) (by kernel_rfl) (fun _ _ _ h => h) (by assumption) (by rfl) ?_ ?_
          rotate_left
          · (intro w hSw; (try dsimp only at hSw); go_simp) <;> (with_reducible rfl)
          (try simp only [Act.put, List.setIfInBounds_toArray, List.set_cons_zero, List.set_cons_succ])
          refine wpAnyH_pick 9 (v := ?_) rfl (by kernel_rfl) (by kernel_rfl) (by kernel_rfl) (fun _ _ _ h => h) (by assumption) (by rfl) ?_ ?_
          rotate_left
          · (intro w hSw; (try dsimp only at hSw); go_simp) <;> (with_reducible rfl)
          (try simp only [Act.put, List.setIfInBounds_toArray, List.set_cons_zero, List.set_cons_succ])
          refine wpAnyH_pick 10 (v := ?_) rfl (by kernel_rfl) (by kernel_rfl) (by kernel_rfl) (fun _ _ _ h => h) (by assumption) (by rfl) ?_ ?_
          rotate_left
          · (intro w hSw; (try dsimp only at hSw); go_simp) <;> (with_reducible rfl)
          (try simp only [Act.put, List.setIfInBounds_toArray, List.set_cons_zero, List.set_cons_succ])
          refine wpAnyH_pick 11 (v := ?_) rfl (by kernel_rfl) (by kernel_rfl) (by kernel_rfl) (fun _ _ _ h => h) (by assumption) (by rfl) ?_ ?_
          rotate_left
          · (intro w hSw; (try dsimp only at hSw); go_simp) <;> (with_reducible rfl)
          (try simp only [Act.put, List.setIfInBounds_toArray, List.set_cons_zero, List.set_cons_succ])
          refine wpAnyH_pick 12 (v := ?_) rfl (by kernel_rfl) (by kernel_rfl) (by kernel_rfl) (fun _ _ _ h => h) (by assumption) (by rfl) ?_ ?_
          rotate_left
          · (intro w hSw; (try dsimp only at hSw); go_simp) <;> (with_reducible rfl)
          (try simp only [Act.put, List.setIfInBounds_toArray, List.set_cons_zero, List.set_cons_succ])
          refine wpAnyH_pick 13 (v := ?_) rfl (by kernel_rfl) (by kernel_rfl) (by kernel_rfl) (fun _ _ _ h => h) (by assumption) (by rfl) ?_ ?_
          rotate_left
          · (intro w hSw; (try dsimp only at hSw); go_simp) <;> (with_reducible rfl)
          (try simp only [Act.put, List.setIfInBounds_toArray, List.set_cons_zero, List.set_cons_succ])
          refine wpAnyH_pick 14 (v := ?_) rfl (by kernel_rfl) (by kernel_rfl) (by kernel_rfl) (fun _ _ _ h => h) (by assumption) (by rfl) ?_ ?_
          rotate_left
          · (intro w hSw; (try dsimp only at hSw); go_simp) <;> (with_reducible rfl)
          (try simp only [Act.put, List.setIfInBounds_toArray, List.set_cons_zero, List.set_cons_succ])
          refine wpAnyH_pick 15 (v := ?_) rfl (by kernel_rfl) (by kernel_rfl) (by kernel_rfl) (fun _ _ _ h => h) (by assumption) (by rfl) ?_ ?_
          rotate_left
          · (intro w hSw; (try dsimp only at hSw); go_simp) <;> (with_reducible rfl)
          (try simp only [Act.put, List.setIfInBounds_toArray, List.set_cons_zero, List.set_cons_succ])
          refine wpAnyH_pick 16 (v := ?_) rfl (by kernel_rfl) (by kernel_rfl) (by kernel_rfl) (fun _ _ _ h => h) (by assumption) (by rfl) ?_ ?_
          rotate_left
          · (intro w hSw; (try dsimp only at hSw); go_simp) <;> (with_reducible rfl)
          (try simp only [Act.put, List.setIfInBounds_toArray, List.set_cons_zero, List.set_cons_succ])
          refine wpAnyH_pick 17 (v := ?_) rfl (by kernel_rfl) (by kernel_rfl) (by kernel_rfl) (fun _ _ _ h => h) (by assumption) (by rfl) ?_ ?_
          rotate_left
          · (intro w hSw; (try dsimp only at hSw); go_simp) <;> (with_reducible rfl)
          (try simp only [Act.put, List.setIfInBounds_toArray, List.set_cons_zero, List.set_cons_succ])
          refine wpAnyH_pick 18 (v := ?_) rfl (by kernel_rfl) (by kernel_rfl) (by kernel_rfl) (fun _ _ _ h => h) (by assumption) (by rfl) ?_ ?_
          rotate_left
          · (intro w hSw; (try dsimp only at hSw); go_simp) <;> (with_reducible rfl)
          (try simp only [Act.put, List.setIfInBounds_toArray, List.set_cons_zero, List.set_cons_succ])
          refine wpAnyH_pick 19 (v := ?_) rfl (by kernel_rfl) (by kernel_rfl) (by kernel_rfl) (fun _ _ _ h => h) (by assumption) (by rfl) ?_ ?_
          rotate_left
          · (intro w hSw; (try dsimp only at hSw); go_simp) <;> (with_reducible rfl)
          (try simp only [Act.put, List.setIfInBounds_toArray, List.set_cons_zero, List.set_cons_succ])
          refine wpAnyH_pick 20 (v := ?_) rfl (by kernel_rfl) (by kernel_rfl) (by kernel_rfl) (fun _ _ _ h => h) (by assumption) (by rfl) ?_ ?_
          rotate_left
          · (intro w hSw; (try dsimp only at hSw); go_simp) <;> (with_reducible rfl)
          (try simp only [Act.put, List.setIfInBounds_toArray, List.set_cons_zero, List.set_cons_succ])
          refine wpAnyH_pick 21 (v := ?_) rfl (by kernel_rfl) (by kernel_rfl) (by kernel_rfl) (fun _ _ _ h => h) (by assumption) (by rfl) ?_ ?_
          rotate_left
          · (intro w hSw; (try dsimp only at hSw); go_simp) <;> (with_reducible rfl)
          (try simp only [Act.put, List.setIfInBounds_toArray, List.set_cons_zero, List.set_cons_succ])
          refine wpAnyH_pick 22 (v := ?_) rfl (by kernel_rfl) (by kernel_rfl) (by kernel_rfl) (fun _ _ _ h => h) (by assumption) (by rfl) ?_ ?_
          rotate_left
          · (intro w hSw; (try dsimp only at hSw); go_simp) <;> (with_reducible rfl)
          (try simp only [Act.put, List.setIfInBounds_toArray, List.set_cons_zero, List.set_cons_succ])
          refine wpAnyH_pick 23 (v := ?_) rfl (by kernel_rfl) (by kernel_rfl) (by kernel_rfl) (fun _ _ _ h => h) (by assumption) (by rfl) ?_ ?_
          rotate_left
          · (intro w hSw; (try dsimp only at hSw); go_simp) <;> (with_reducible rfl)
          (try simp only [Act.put, List.setIfInBounds_toArray, List.set_cons_zero, List.set_cons_succ])
          refine wpAnyH_pick 24 (v := ?_) rfl (by kernel_rfl) (by kernel_rfl) (by kernel_rfl) (fun _ _ _ h => h) (by assumption) (by rfl) ?_ ?_
          rotate_left
          · (intro w hSw; (try dsimp only at hSw); go_simp) <;> (with_reducible rfl)
          (try simp only [Act.put, List.setIfInBounds_toArray, List.set_cons_zero, List.set_cons_succ])
          refine wpAnyH_pick 25 (v := ?_) rfl (by kernel_rfl) (by kernel_rfl) (by kernel_rfl) (fun _ _ _ h => h) (by assumption) (by rfl) ?_ ?_
          rotate_left
          · (intro w hSw; (try dsimp only at hSw); go_simp) <;> (with_reducible rfl)
          (try simp only [Act.put, List.setIfInBounds_toArray, List.set_cons_zero, List.set_cons_succ])
          refine wpAnyH_pick 26 (v := ?_) rfl (by kernel_rfl) (by kernel_rfl) (by kernel_rfl) (fun _ _ _ h => h) (by assumption) (by rfl) ?_ ?_
          rotate_left
          · (intro w hSw; (try dsimp only at hSw); go_simp) <;> (with_reducible rfl)
          (try simp only [Act.put, List.setIfInBounds_toArray, List.set_cons_zero, List.set_cons_succ])
          refine wpAnyH_pick 27 (v := ?_) rfl (by kernel_rfl) (by kernel_rfl) (by kernel_rfl) (fun _ _ _ h => h) (by assumption) (by rfl) ?_ ?_
          rotate_left
          · (intro w hSw; (try dsimp only at hSw); go_simp) <;> (with_reducible rfl)
          (try simp only [Act.put, List.setIfInBounds_toArray, List.set_cons_zero, List.set_cons_succ])
          refine wpAnyH_pick 28 (v := ?_) rfl (by kernel_rfl) (by kernel_rfl) (by kernel_rfl) (fun _ _ _ h => h) (by assumption) (by rfl) ?_ ?_
          rotate_left
          · (intro w hSw; (try dsimp only at hSw); go_simp) <;> (with_reducible rfl)
          (try simp only [Act.put, List.setIfInBounds_toArray, List.set_cons_zero, List.set_cons_succ])
          refine wpAnyH_pick 29 (v := ?_) rfl (by kernel_rfl) (by kernel_rfl) (by kernel_rfl) (fun _ _ _ h => h) (by assumption) (by rfl) ?_ ?_
          rotate_left
          · (intro w hSw; (try dsimp only at hSw); go_simp) <;> (with_reducible rfl)
          (try simp only [Act.put, List.setIfInBounds_toArray, List.set_cons_zero, List.set_cons_succ])
          refine wpAnyH_done (by kernel_rfl) ?_ _
          skip
          go_wp2_with fail
          exact ⟨⟨x + 1, px.set K z, by omega, by simp, HF5.out, by rw [HKe.out]; exact HL5.out⟩, by simp [intOf]; omega⟩
        · have eg2 : decide (x < a) = false := by simpa using hlt2
          have hxa : x = a := by omega
          have hfl2 : Filled F N2 ((y + 1) * a) px := by
            rw [hxa, HYs.out.2.2.2.2] at hfl
            rw [Nat.add_mul, Nat.one_mul]
            exact hfl
          have HL5 := Lib.hid hLA; have HF5 := Lib.hid hfl2
          clear hLA hfl hfl2 hxa
          go_wp2_with fail
          exact ⟨⟨y + 1, px, by omega, by simp, HF5.out, HL5.out⟩, by simp [intOf]; omega⟩
    · have eg : decide (y < b) = false := by simpa using hlt
      have hyb : y = b := by omega
      have hfl2 : px = (List.range N2).map F := by
        rw [hyb, Nat.mul_comm, ← HN2.out] at hfl
        exact hfl.whole
      have HG := Lib.hid hLA; have Hfl := Lib.hid hfl2
      clear hLA hfl hfl2 hyb
      have c0 := HG.out.out.cell 0
      have c1 := HG.out.out.cell 1
      have c2 := HG.out.out.cell 2
      have hlq := HG.out.out.lt
      have d0 := HG.out.two.br.cell 0
      have d1 := HG.out.two.br.cell 1
      have d2 := HG.out.two.br.cell 2
      have f0 := HG.out.two.br.frozen 0
      have f1 := HG.out.two.br.frozen 1
      have f2 := HG.out.two.br.frozen 2
      have hlr := HG.out.two.br.lt
      simp at c0 c1 c2 d0 d1 d2
      obtain ⟨hb5, hf5⟩ := stored3 (a : Int) (b : Int) (.slice (some ⟨x3, 0, none⟩) N2 N2) HG.out.two.br rfl
      have HB5 := Lib.hid hb5; have HF5 := Lib.hid hf5
      clear hb5 hf5
      go_wp2_with fail
      refine bodyPost_ret (v := plV a b (some ⟨x3, 0, none⟩) N2 N2) (results_cell_row Try.results47 _ _ r 25 _ (0, 0) _ rfl HB5.out.here Try.underlying25 rfl (by kernel_rfl)) rfl ⟨x3, N2, rfl, some ⟨x3, 0, none⟩, N2, ?_, ?_⟩
      · rw [Hhalf.out]
        simp only
        rw [List.length_map, List.length_range, HN2.out]
        rfl
      · rw [Hhalf.out]
        simp only
        rw [List.length_map, List.length_range, ← HN2.out, ← HFe.out, ← Hfl.out]
        exact HG.out.own.other HF5.out (by have := HG.out.two.er; have := HG.out.two.eg; omega) (fun k hk => (HG.out.ne k hk).2.1)
end Go.Proofs.Ytlcjlgdcleenlaa

/-
  Contracts of the landed planes: Half, Far. Conditions: the samples are not too many.
-/
namespace Go.Proofs.Ytlcjlgdcleenlaa
open Go.RowKit

theorem PlMine.open_ {w0 w : World} {W H : Int} {A : Option Addr} {n c : Nat} {P : Pl} (h : PlMine w0 w (plV W H A n c) P) : W = P.w ∧ H = P.h ∧ n = P.pix.length ∧ Mine w0 w (.slice A n c) P.pix := by
  obtain ⟨A', c', hv, hM⟩ := h
  unfold plV at hv
  injection hv with hv
  have h0 := congrArg (fun z : Array Value => z[0]?) hv
  have h1 := congrArg (fun z : Array Value => z[1]?) hv
  have h2 := congrArg (fun z : Array Value => z[2]?) hv
  simp at h0 h1 h2
  obtain ⟨e1, e2, e3⟩ := h2
  subst e1 e2 e3
  exact ⟨h0, h1, rfl, hM⟩

theorem phalf_shape (P : Pl) (h : P.even = true) : ∃ a b : Nat, P.w = ((2 * a : Nat) : Int) ∧ P.h = ((2 * b : Nat) : Int) ∧ P.ok = true := by
  unfold Pl.even at h
  simp only [Bool.and_eq_true, decide_eq_true_eq] at h
  obtain ⟨⟨h1, h2⟩, h3⟩ := h
  obtain ⟨W, H, e1, e2, -⟩ := P.ok_nat h1
  exact ⟨W / 2, H / 2, by omega, by omega, h1⟩

set_option maxRecDepth 20000 in
set_option maxHeartbeats 8000000 in
theorem phalf_any (W H : Int) (A : Option Addr) (c : Nat) (pix : List UInt8) (w : World) (hs : Src w (.slice A pix.length c) (pix.map B8)) (hn : pix.length ≤ 1000000000000) :
    Calls Try.prog 21 #[plV W H A pix.length c] w (HalfPost w W H pix) := by
  have HR := Lib.hid fun w => right_any W H A c pix w hn
  have Hbad : Hid (Pl.even ⟨W, H, pix⟩ = false → ∀ w', Fr [] w w' → HalfPost w W H pix (.returned (.tuple #[plV 0 0 none 0 0, .int .i64 61])) w') := Lib.hid fun he w' hf => by
    have : (Pl.half ⟨W, H, pix⟩) = (plNone, 61) := by unfold Pl.half; rw [he]; rfl
    unfold HalfPost
    rw [this]
    exact ⟨_, rfl, plNone_mine hf⟩
  have heven : Pl.even ⟨W, H, pix⟩ = (Pl.ok ⟨W, H, pix⟩ && decide (W % 2 = 0) && decide (H % 2 = 0)) := rfl
  obtain ⟨n, hnn⟩ : ∃ n, n = pix.length := ⟨_, rfl⟩
  have hT := two6 w #[.int .i64 W, .int .i64 H, .slice A n c]
  have HT := Lib.hid hT
  have Hnn := Lib.hid hnn
  obtain ⟨R, hRe⟩ : ∃ R, R = HalfPost w W H pix := ⟨_, rfl⟩
  have HRe := Lib.hid hRe
  rw [← hRe] at Hbad
  rw [← hRe]
  have Heven := Lib.hid heven
  have HS := Lib.hid hs
  cases hok : Pl.ok ⟨W, H, pix⟩
  · rw [hok] at HR
    have he : Pl.even ⟨W, H, pix⟩ = false := by rw [heven, hok]; rfl
    have Hend := Lib.hid (Hbad.out he)
    rw [← hnn] at HR ⊢
    clear hT hnn hRe heven hs hok he Hbad HS Heven hn
    unfold plV at HR ⊢
    go_enter Try.func21, Try.ntmps21
    go_upto_region 1 with fail
    generalize World.alloc (World.alloc w _) _ = w1 at HT ⊢
    obtain ⟨g, hg⟩ : ∃ g, g = w.heap.size := ⟨_, rfl⟩
    rw [← hg] at HT ⊢
    obtain ⟨r, hr⟩ : ∃ r, r = g + 1 := ⟨_, rfl⟩
    rw [← hr] at HT ⊢
    clear hg hr
    have c0 := HT.out.bg.cell 0
    have c1 := HT.out.bg.cell 1
    have c2 := HT.out.bg.cell 2
    have hlg := HT.out.bg.lt
    simp at c0 c1 c2
    go_wp2_with fail
    refine (HR.out _).mono ?_
    rintro e w3 ⟨rfl, hF3⟩
    have HT3 := Lib.hid (HT.out.fr0 hF3)
    clear hF3 c0 c1 c2 hlg HT
    have d0 := HT3.out.br.cell 0
    have d1 := HT3.out.br.cell 1
    have d2 := HT3.out.br.cell 2
    have f0 := HT3.out.br.frozen 0
    have f1 := HT3.out.br.frozen 1
    have f2 := HT3.out.br.frozen 2
    have hlr := HT3.out.br.lt
    simp at d0 d1 d2
    obtain ⟨hb5, hf5⟩ := stored3 0 0 (.slice none 0 0) HT3.out.br rfl
    have HB5 := Lib.hid hb5; have HF5 := Lib.hid (HT3.out.fr.trans hf5 (by intro k hk; simp at hk; subst hk; exact .inr (by have := HT3.out.er; have := HT3.out.eg; omega)))
    clear hb5 hf5
    go_wp2_with fail
    exact bodyPost_ret (v := .tuple #[plV 0 0 none 0 0, .int .i64 61]) (results_row_tmp Try.results21 _ _ r 25 _ (0, 0) _ rfl HB5.out.here Try.underlying25 rfl (by kernel_rfl)) rfl (Hend.out _ HF5.out)
  · obtain ⟨W', H', ad, rfl, rfl, rfl, hO⟩ := ok_at hok hs
    have z2 := hO.w2
    have z3 := hO.h2
    have HO := Lib.hid hO
    have Hok := Lib.hid hok
    rw [hok] at HR
    rw [← hnn] at HR ⊢
    have hcase : (W' % 2 ≠ 0) ∨ (W' % 2 = 0 ∧ H' % 2 ≠ 0) ∨ (W' % 2 = 0 ∧ H' % 2 = 0) := by omega
    clear hT hnn hRe heven hs hok hn hO
    rcases hcase with h1 | ⟨h1, h2⟩ | ⟨h1, h2⟩
    case' inl =>
      have t1 : ((W' : Int) % 2 != 0) = true := by simp; omega
      have Hend := Lib.hid (Hbad.out (by rw [Heven.out, Hok.out]; simp; omega))
    case' inr.inl =>
      have t1 : ((W' : Int) % 2 != 0) = false := by simp; omega
      have t2 : ((H' : Int) % 2 != 0) = true := by simp; omega
      have Hend := Lib.hid (Hbad.out (by rw [Heven.out, Hok.out]; simp; omega))
    case' inr.inr =>
      have t1 : ((W' : Int) % 2 != 0) = false := by simp; omega
      have t2 : ((H' : Int) % 2 != 0) = false := by simp; omega
      have Heven2 := Lib.hid (show Pl.even ⟨(W' : Int), (H' : Int), pix⟩ = true by rw [Heven.out, Hok.out]; simp; omega)
      have Hab := Lib.hid (show ∃ a b, W' = 2 * a ∧ H' = 2 * b from ⟨W' / 2, H' / 2, by omega, by omega⟩)
    all_goals
      clear h1 Hbad
      unfold plV at HR ⊢
      go_enter Try.func21, Try.ntmps21
      go_upto_region 1 with fail
      generalize World.alloc (World.alloc w _) _ = w1 at HT ⊢
      obtain ⟨g, hg⟩ : ∃ g, g = w.heap.size := ⟨_, rfl⟩
      rw [← hg] at HT ⊢
      obtain ⟨r, hr⟩ : ∃ r, r = g + 1 := ⟨_, rfl⟩
      rw [← hr] at HT ⊢
      clear hg hr
      have c0 := HT.out.bg.cell 0
      have c1 := HT.out.bg.cell 1
      have c2 := HT.out.bg.cell 2
      have hlg := HT.out.bg.lt
      simp at c0 c1 c2
      go_wp2_with fail
      refine (HR.out _).mono ?_
      rintro e w3 ⟨rfl, hF3⟩
      have HT3 := Lib.hid (HT.out.fr0 hF3)
      clear hF3 c0 c1 c2 hlg HT
      have c0 := HT3.out.bg.cell 0
      have c1 := HT3.out.bg.cell 1
      have c2 := HT3.out.bg.cell 2
      have hlg := HT3.out.bg.lt
      have d0 := HT3.out.br.cell 0
      have d1 := HT3.out.br.cell 1
      have d2 := HT3.out.br.cell 2
      have f0 := HT3.out.br.frozen 0
      have f1 := HT3.out.br.frozen 1
      have f2 := HT3.out.br.frozen 2
      have hlr := HT3.out.br.lt
      simp at c0 c1 c2 d0 d1 d2
      obtain ⟨hb5, hf5⟩ := stored3 0 0 (.slice none 0 0) HT3.out.br rfl
      have HB5 := Lib.hid hb5; have HF5 := Lib.hid (HT3.out.fr.trans hf5 (by intro k hk; simp at hk; subst hk; exact .inr (by have := HT3.out.er; have := HT3.out.eg; omega)))
      clear hb5 hf5
      go_wp2_with fail
    all_goals try exact bodyPost_ret (v := .tuple #[plV 0 0 none 0 0, .int .i64 61]) (results_row_tmp Try.results21 _ _ r 25 _ (0, 0) _ rfl HB5.out.here Try.underlying25 rfl (by kernel_rfl)) rfl (Hend.out _ HF5.out)
    clear c0 c1 c2 hlg d0 d1 d2 f0 f1 f2 hlr HB5 HF5
    obtain ⟨a, b, hWa, hHb⟩ := Hab.out
    have hcall := halved_any a b ad c pix w3 (HS.out.fr0 HT3.out.fr) (by rw [← hWa, ← hHb]; exact Hok.out) (by rw [← hWa, ← hHb]; exact HO.out)
    rw [← hWa, ← hHb, ← Hnn.out] at hcall
    refine hcall.mono ?_
    rintro e w4 ⟨x, M, rfl, hM⟩
    obtain ⟨m1, m2, m3, hM⟩ := hM.open_
    have HT4 := Lib.hid (HT3.out.fr0 hM.fr)
    have hne : ∀ k, (Value.slice (some ⟨x, 0, none⟩) M M).ownBlock = some k → k ≠ r := fun k hk => by
      have h1 := hM.new k hk
      have h3 := HT3.out.br.lt
      omega
    have hM4 : Mine w w4 (.slice (some ⟨x, 0, none⟩) M M) (Pl.half ⟨(W' : Int), (H' : Int), pix⟩).1.pix := ⟨hM.own, HT4.out.fr, fun k hk => Nat.le_trans HT3.out.fr.size (hM.new k hk)⟩
    have HM := Lib.hid hM4; have Hne := Lib.hid hne; have Hm := Lib.hid (And.intro m1 (And.intro m2 m3))
    clear hM hM4 hne m1 m2 m3 hcall HT3 HR
    have d0 := HT4.out.br.cell 0
    have d1 := HT4.out.br.cell 1
    have d2 := HT4.out.br.cell 2
    have f0 := HT4.out.br.frozen 0
    have f1 := HT4.out.br.frozen 1
    have f2 := HT4.out.br.frozen 2
    have hlr := HT4.out.br.lt
    simp at d0 d1 d2
    obtain ⟨hb5, hf5⟩ := stored3 (a : Int) (b : Int) (.slice (some ⟨x, 0, none⟩) M M) HT4.out.br rfl
    have HB5 := Lib.hid hb5; have HF5 := Lib.hid hf5
    clear hb5 hf5 hWa hHb
    unfold plV
    go_wp2_with fail
    refine bodyPost_ret (v := .tuple #[plV a b (some ⟨x, 0, none⟩) M M, .int .i64 0]) (results_row_tmp Try.results21 _ _ r 25 _ (0, 0) _ rfl HB5.out.here Try.underlying25 rfl (by kernel_rfl)) rfl ?_
    rw [HRe.out]
    have hz : (Pl.half ⟨(W' : Int), (H' : Int), pix⟩).2 = 0 := by unfold Pl.half; rw [Heven2.out]; rfl
    obtain ⟨m1, m2, m3⟩ := Hm.out
    unfold HalfPost
    rw [hz]
    refine ⟨_, rfl, some ⟨x, 0, none⟩, M, by rw [← m1, ← m2, ← m3], ?_⟩
    rw [← m3]
    exact HM.out.other HF5.out (by have := HT4.out.er; have := HT4.out.eg; omega) Hne.out
end Go.Proofs.Ytlcjlgdcleenlaa

/-
  Contracts of the landed planes: isChroma, Whole. Conditions: the samples are not too many.
-/
namespace Go.Proofs.Ytlcjlgdcleenlaa
open Go.RowKit

set_option maxRecDepth 20000 in
theorem chroma_any (W H : Int) (A : Option Addr) (c : Nat) (px : List UInt8) (W' H' : Nat) (A' : Option Addr) (n' c' : Nat) (w : World) (hn : px.length ≤ 1000000000000) (hW : W' ≤ 4096) (hH : H' ≤ 4096) :
    Calls Try.prog 49 #[plV W H A px.length c, plV (W' : Int) (H' : Int) A' n' c'] w fun e w' => e = .returned (.bool (Pl.ok ⟨W, H, px⟩ && decide (W = (W' : Int) / 2) && decide (H = (H' : Int) / 2))) ∧ Fr [] w w' := by
  have HR := Lib.hid fun w => right_any W H A c px w hn
  obtain ⟨n, hnn⟩ : ∃ n, n = px.length := ⟨_, rfl⟩
  obtain ⟨R, hR⟩ : ∃ R, R = Pl.ok ⟨W, H, px⟩ := ⟨_, rfl⟩
  rw [← hR, ← hnn] at HR
  rw [← hR, ← hnn]
  have hT := box2 w #[.int .i64 W, .int .i64 H, .slice A n c] #[.int .i64 (W' : Int), .int .i64 (H' : Int), .slice A' n' c']
  have HT := Lib.hid hT
  obtain ⟨Z, hZ⟩ : ∃ Z, Z = (R && decide (W = (W' : Int) / 2) && decide (H = (H' : Int) / 2)) := ⟨_, rfl⟩
  rw [← hZ]
  have hcase : (R = false ∧ Z = false) ∨ (R = true ∧ W ≠ (W' : Int) / 2 ∧ Z = false) ∨ (R = true ∧ W = (W' : Int) / 2 ∧ H ≠ (H' : Int) / 2 ∧ Z = false) ∨ (R = true ∧ W = (W' : Int) / 2 ∧ H = (H' : Int) / 2 ∧ Z = true) := by
    rw [hZ]
    cases R
    · exact .inl ⟨rfl, rfl⟩
    · by_cases h1 : W = (W' : Int) / 2
      · by_cases h2 : H = (H' : Int) / 2
        · exact .inr (.inr (.inr ⟨rfl, h1, h2, by simp [h1, h2]⟩))
        · exact .inr (.inr (.inl ⟨rfl, h1, h2, by simp [h2]⟩))
      · exact .inr (.inl ⟨rfl, h1, by simp [h1]⟩)
  clear hT hZ hR hnn hn
  unfold plV at HR ⊢
  rcases hcase with ⟨rfl, rfl⟩ | ⟨rfl, h1, rfl⟩ | ⟨rfl, h1, h2, rfl⟩ | ⟨rfl, h1, h2, rfl⟩
  case' inr.inl =>
    have t1 : (W == (W' : Int) / 2) = false := by simpa using h1
    clear h1
  case' inr.inr.inl =>
    have t1 : (W == (W' : Int) / 2) = true := by simpa using h1
    have t2 : (H == (H' : Int) / 2) = false := by simpa using h2
    clear h1 h2
  case' inr.inr.inr =>
    have t1 : (W == (W' : Int) / 2) = true := by simpa using h1
    have t2 : (H == (H' : Int) / 2) = true := by simpa using h2
    clear h1 h2
  all_goals
    go_enter Try.func49, Try.ntmps49
    go_upto_region 1 with fail
    generalize World.alloc (World.alloc w _) _ = w1 at HT ⊢
    obtain ⟨g, hg⟩ : ∃ g, g = w.heap.size := ⟨_, rfl⟩
    rw [← hg] at HT ⊢
    obtain ⟨r, hr⟩ : ∃ r, r = g + 1 := ⟨_, rfl⟩
    rw [← hr] at HT ⊢
    clear hg hr
    have c0 := HT.out.bg.cell 0
    have c1 := HT.out.bg.cell 1
    have c2 := HT.out.bg.cell 2
    have hlg := HT.out.bg.lt
    simp at c0 c1 c2
    go_wp2_with fail
    refine (HR.out _).mono ?_
    rintro e w2 ⟨rfl, hF2⟩
    have HT2 := Lib.hid (HT.out.fr0 hF2)
    clear hF2 c0 c1 c2 hlg HT
    have c0 := HT2.out.bg.cell 0
    have c1 := HT2.out.bg.cell 1
    have d0 := HT2.out.br.cell 0
    have d1 := HT2.out.br.cell 1
    have hlg := HT2.out.bg.lt
    have hlr := HT2.out.br.lt
    simp at c0 c1 d0 d1
    go_wp2_with fail
    go_ret
    exact ⟨rfl, HT2.out.fr⟩

theorem whole_eq (F : Frm) : F.whole = ((sideOk F.y.w && sideOk F.y.h && decide (F.y.w % 16 = 0) && decide (F.y.h % 16 = 0)) && F.y.ok && (F.u.ok && decide (F.u.w = F.y.w / 2) && decide (F.u.h = F.y.h / 2)) && (F.v.ok && decide (F.v.w = F.y.w / 2) && decide (F.v.h = F.y.h / 2))) := by
  rw [Bool.eq_iff_iff]
  unfold Frm.whole
  simp only [Bool.and_eq_true, decide_eq_true_eq]
  constructor
  · rintro ⟨⟨⟨⟨⟨⟨⟨⟨h1, h2⟩, h3⟩, h4⟩, h5⟩, h6⟩, h7⟩, h8⟩, h9⟩
    obtain ⟨k1, k2, -⟩ := Pl.ok_iff.1 h1
    exact ⟨⟨⟨⟨⟨⟨sideOk_iff.2 k1, sideOk_iff.2 k2⟩, h4⟩, h5⟩, h1⟩, ⟨⟨h2, h6⟩, h7⟩⟩, ⟨⟨h3, by rw [h8, h6]⟩, by rw [h9, h7]⟩⟩
  · rintro ⟨⟨⟨⟨⟨⟨k1, k2⟩, h4⟩, h5⟩, h1⟩, ⟨⟨h2, h6⟩, h7⟩⟩, ⟨⟨h3, h8⟩, h9⟩⟩
    exact ⟨⟨⟨⟨⟨⟨⟨⟨h1, h2⟩, h3⟩, h4⟩, h5⟩, h6⟩, h7⟩, by rw [h8, h6]⟩, by rw [h9, h7]⟩

/-- The walk's cases of Whole: what each call says. -/
theorem pwhole_walk (y u v : FrAt) (w : World) (S R C1 C2 : Bool)
    (hA : ∀ W, Calls Try.prog 38 #[.int .i64 y.W, .int .i64 y.H] W fun e w' => e = .returned (.bool S) ∧ w' = W)
    (hR : ∀ W, Calls Try.prog 29 #[.agg #[.int .i64 y.W, .int .i64 y.H, .slice y.A y.n y.c]] W fun e w' => e = .returned (.bool R) ∧ Fr [] W w')
    (h1 : S = true → ∀ W, Calls Try.prog 49 #[.agg #[.int .i64 u.W, .int .i64 u.H, .slice u.A u.n u.c], .agg #[.int .i64 y.W, .int .i64 y.H, .slice y.A y.n y.c]] W fun e w' => e = .returned (.bool C1) ∧ Fr [] W w')
    (h2 : S = true → ∀ W, Calls Try.prog 49 #[.agg #[.int .i64 v.W, .int .i64 v.H, .slice v.A v.n v.c], .agg #[.int .i64 y.W, .int .i64 y.H, .slice y.A y.n y.c]] W fun e w' => e = .returned (.bool C2) ∧ Fr [] W w') :
    Calls Try.prog 27 #[frV y u v] w fun e w' => e = .returned (.bool (S && R && C1 && C2)) ∧ Fr [] w w' := by
  have HA := Lib.hid hA; have HR := Lib.hid hR; have H1 := Lib.hid h1; have H2 := Lib.hid h2
  clear hA hR h1 h2
  obtain ⟨yW, yH, yA, yn, yc⟩ := y
  obtain ⟨uW, uH, uA, un, uc⟩ := u
  obtain ⟨vW, vH, vA, vn, vc⟩ := v
  simp only at HA HR H1 H2
  have hB := Blk.new w 30 #[.int .i64 yW, .int .i64 yH, .slice yA yn yc, .int .i64 uW, .int .i64 uH, .slice uA un uc, .int .i64 vW, .int .i64 vH, .slice vA vn vc]
  have hF : Fr [] w (w.alloc (.cells #[.int .i64 yW, .int .i64 yH, .slice yA yn yc, .int .i64 uW, .int .i64 uH, .slice uA un uc, .int .i64 vW, .int .i64 vH, .slice vA vn vc] 30)) := (Fr.refl _ _).alloc _
  have HB := Lib.hid hB; have HF := Lib.hid hF
  clear hB hF
  unfold frV FrAt.cells
  simp only
  have hcase : S = false ∨ (S = true ∧ R = false) ∨ (S = true ∧ R = true ∧ C1 = false) ∨ (S = true ∧ R = true ∧ C1 = true) := by cases S <;> cases R <;> cases C1 <;> simp
  rcases hcase with rfl | ⟨rfl, rfl⟩ | ⟨rfl, rfl, rfl⟩ | ⟨rfl, rfl, rfl⟩
  all_goals
    go_enter Try.func27, Try.ntmps27
    go_upto_region 1 with fail
    generalize World.alloc w _ = w1 at HB HF ⊢
    obtain ⟨g, hg⟩ : ∃ g, g = w.heap.size := ⟨_, rfl⟩
    rw [← hg] at HB ⊢
    clear hg
    have c0 := HB.out.cell 0
    have c1 := HB.out.cell 1
    have c2 := HB.out.cell 2
    have hlg := HB.out.lt
    simp at c0 c1 c2
    go_wp2_with fail
    refine (HA.out _).mono ?_
    rintro e w2 ⟨rfl, rfl⟩
    go_wp2_with fail
  all_goals try (go_ret; exact ⟨rfl, HF.out⟩)
  all_goals
    refine (HR.out _).mono ?_
    rintro e w3 ⟨rfl, hF3⟩
    have HB3 := Lib.hid (HB.out.fr hF3 (by simp)); have HF3 := Lib.hid (HF.out.trans hF3 (by simp))
    clear hF3 c0 c1 c2 hlg HB HF
    have c0 := HB3.out.cell 0
    have c1 := HB3.out.cell 1
    have c2 := HB3.out.cell 2
    have d0 := HB3.out.cell 3
    have d1 := HB3.out.cell 4
    have d2 := HB3.out.cell 5
    have hlg := HB3.out.lt
    simp at c0 c1 c2 d0 d1 d2
    go_wp2_with fail
  all_goals try (go_ret; exact ⟨rfl, HF3.out⟩)
  all_goals
    refine (H1.out trivial _).mono ?_
    rintro e w4 ⟨rfl, hF4⟩
    have HB4 := Lib.hid (HB3.out.fr hF4 (by simp)); have HF4 := Lib.hid (HF3.out.trans hF4 (by simp))
    clear hF4 c0 c1 c2 d0 d1 d2 hlg HB3 HF3
    have c0 := HB4.out.cell 0
    have c1 := HB4.out.cell 1
    have c2 := HB4.out.cell 2
    have d0 := HB4.out.cell 6
    have d1 := HB4.out.cell 7
    have d2 := HB4.out.cell 8
    have hlg := HB4.out.lt
    simp at c0 c1 c2 d0 d1 d2
    go_wp2_with fail
  all_goals try (go_ret; exact ⟨rfl, HF4.out⟩)
  refine (H2.out trivial _).mono ?_
  rintro e w5 ⟨rfl, hF5⟩
  have HF5 := Lib.hid (HF4.out.trans hF5 (by simp))
  clear hF5 c0 c1 c2 d0 d1 d2 hlg HB4 HF4
  go_wp2_with fail
  go_ret
  exact ⟨by simp, HF5.out⟩

theorem FrAt.pright {a : FrAt} {P : Pl} {w W : World} (h : a.has w P) (hn : P.pix.length ≤ 1000000000000) :
    Calls Try.prog 29 #[.agg #[.int .i64 a.W, .int .i64 a.H, .slice a.A a.n a.c]] W fun e w' => e = .returned (.bool P.ok) ∧ Fr [] W w' := by
  obtain ⟨e1, e2, e3, e4⟩ := h
  have := right_any a.W a.H a.A a.c P.pix W hn
  rw [show (⟨a.W, a.H, P.pix⟩ : Pl) = P by rw [e1, e2], ← e3] at this
  exact this
theorem FrAt.chroma {a b : FrAt} {P : Pl} {w W : World} (h : a.has w P) (hn : P.pix.length ≤ 1000000000000) (hW : sideOk b.W = true) (hH : sideOk b.H = true) :
    Calls Try.prog 49 #[.agg #[.int .i64 a.W, .int .i64 a.H, .slice a.A a.n a.c], .agg #[.int .i64 b.W, .int .i64 b.H, .slice b.A b.n b.c]] W fun e w' => e = .returned (.bool (P.ok && decide (P.w = b.W / 2) && decide (P.h = b.H / 2))) ∧ Fr [] W w' := by
  obtain ⟨e1, e2, e3, e4⟩ := h
  obtain ⟨bW, bH, bA, bn, bc⟩ := b
  simp only at hW hH ⊢
  have k1 := sideOk_iff.1 hW
  have k2 := sideOk_iff.1 hH
  obtain ⟨W', rfl⟩ : ∃ W' : Nat, bW = (W' : Int) := ⟨bW.toNat, by omega⟩
  obtain ⟨H', rfl⟩ : ∃ H' : Nat, bH = (H' : Int) := ⟨bH.toNat, by omega⟩
  have := chroma_any a.W a.H a.A a.c P.pix W' H' bA bn bc W hn (by omega) (by omega)
  rw [show (⟨a.W, a.H, P.pix⟩ : Pl) = P by rw [e1, e2], ← e3, e1, e2] at this
  rw [e1, e2]
  exact this

theorem pwhole_any (y u v : FrAt) (F : Frm) (w : World) (h1 : y.has w F.y) (h2 : u.has w F.u) (h3 : v.has w F.v) (n1 : F.y.pix.length ≤ 1000000000000) (n2 : F.u.pix.length ≤ 1000000000000) (n3 : F.v.pix.length ≤ 1000000000000) :
    Calls Try.prog 27 #[frV y u v] w fun e w' => e = .returned (.bool F.whole) ∧ Fr [] w w' := by
  rw [whole_eq, ← h1.1, ← h1.2.1]
  have hs : (sideOk y.W && sideOk y.H && decide (y.W % 16 = 0) && decide (y.H % 16 = 0)) = true → sideOk y.W = true ∧ sideOk y.H = true := by
    simp only [Bool.and_eq_true]
    exact fun h => ⟨h.1.1.1, h.1.1.2⟩
  exact pwhole_walk y u v w _ _ _ _ (fun W => areSides_any y.W y.H W) (fun W => FrAt.pright h1 n1) (fun hS W => FrAt.chroma h2 n2 (hs hS).1 (hs hS).2) (fun hS W => FrAt.chroma h3 n3 (hs hS).1 (hs hS).2)
end Go.Proofs.Ytlcjlgdcleenlaa

/-
  Contracts of the landed planes: Down. Conditions: the samples are not too many.
-/
namespace Go.Proofs.Ytlcjlgdcleenlaa
open Go.RowKit

theorem FrAt.phalved {a : FrAt} {P : Pl} {w : World} (h : a.has w P) (he : P.even = true) :
    Calls Try.prog 47 #[.agg #[.int .i64 a.W, .int .i64 a.H, .slice a.A a.n a.c]] w fun e w' => ∃ b : FrAt, e = .returned (.agg #[.int .i64 b.W, .int .i64 b.H, .slice b.A b.n b.c]) ∧ b.has w' P.half.1 ∧ (∀ k, (Value.slice b.A b.n b.c).ownBlock = some k → w.heap.size ≤ k) ∧ Fr [] w w' := by
  obtain ⟨aw, ah, ew, eh, hok⟩ := phalf_shape P he
  obtain ⟨W, H, A, n, c⟩ := a
  obtain ⟨e1, e2, e3, e4⟩ := h
  simp only at e1 e2 e3 e4 ⊢
  obtain ⟨Pw, Ph, px⟩ := P
  simp only at ew eh e1 e2 e3 e4
  subst e1 e2 e3 ew eh
  obtain ⟨W', H', ad, q1, q2, rfl, hO⟩ := ok_at hok e4
  have hW : W' = 2 * aw := by omega
  have hH : H' = 2 * ah := by omega
  subst hW hH
  refine (halved_any aw ah ad c px w e4 hok hO).mono ?_
  rintro e w' ⟨x, M, rfl, hM⟩
  have hf := hM.fr
  obtain ⟨b, hb, hh, hn⟩ := hM.at_
  exact ⟨b, by rw [hb], hh, hn, hf⟩

theorem whole_parts {F : Frm} (h : F.whole = true) : F.y.even = true ∧ F.u.even = true ∧ F.v.even = true ∧ ∃ W H : Nat, F.y.w = (W : Int) ∧ F.y.h = (H : Int) ∧ W ≤ 4096 ∧ H ≤ 4096 := by
  rw [whole_eq] at h
  simp only [Bool.and_eq_true, decide_eq_true_eq] at h
  obtain ⟨⟨⟨⟨⟨⟨k1, k2⟩, h4⟩, h5⟩, h1⟩, ⟨⟨h2, h6⟩, h7⟩⟩, ⟨⟨h3, h8⟩, h9⟩⟩ := h
  obtain ⟨a1, a2⟩ := sideOk_iff.1 k1
  obtain ⟨b1, b2⟩ := sideOk_iff.1 k2
  unfold Pl.even
  simp only [Bool.and_eq_true, decide_eq_true_eq]
  exact ⟨⟨⟨h1, by omega⟩, by omega⟩, ⟨⟨h2, by omega⟩, by omega⟩, ⟨⟨h3, by omega⟩, by omega⟩, F.y.w.toNat, F.y.h.toNat, by omega, by omega, by omega, by omega⟩
theorem half_right {P : Pl} (h : P.even = true) : P.half.1.w = P.w / 2 ∧ P.half.1.h = P.h / 2 ∧ P.half.1.ok = true := by
  obtain ⟨a, b, ew, eh, hok⟩ := phalf_shape P h
  have hh : P.half = (⟨P.w / 2, P.h / 2, (List.range ((P.w / 2).toNat * (P.h / 2).toNat)).map (P.halves (P.w / 2).toNat)⟩, 0) := by
    unfold Pl.half
    rw [h]
    rfl
  rw [hh]
  refine ⟨rfl, rfl, Pl.ok_iff.2 ?_⟩
  simp only [List.length_map, List.length_range]
  obtain ⟨⟨a1, a2⟩, ⟨b1, b2⟩, -⟩ := Pl.ok_iff.1 hok
  rw [ew, eh] at *
  have q1 : ((2 * a : Nat) : Int) / 2 = (a : Int) := by omega
  have q2 : ((2 * b : Nat) : Int) / 2 = (b : Int) := by omega
  rw [q1, q2]
  simp only [Int.toNat_natCast]
  refine ⟨by omega, by omega, by simp⟩
theorem halved_whole {F : Frm} (h : F.whole = true) : F.halved.whole = (sideOk (F.y.w / 2) && sideOk (F.y.h / 2) && decide (F.y.w / 2 % 16 = 0) && decide (F.y.h / 2 % 16 = 0)) := by
  obtain ⟨k1, k2, k3, -⟩ := whole_parts h
  obtain ⟨a1, a2, a3⟩ := half_right k1
  obtain ⟨b1, b2, b3⟩ := half_right k2
  obtain ⟨c1, c2, c3⟩ := half_right k3
  rw [whole_eq] at h
  simp only [Bool.and_eq_true, decide_eq_true_eq] at h
  obtain ⟨⟨⟨⟨⟨⟨-, -⟩, h4⟩, h5⟩, h1⟩, ⟨⟨h2, h6⟩, h7⟩⟩, ⟨⟨h3, h8⟩, h9⟩⟩ := h
  rw [whole_eq]
  unfold Frm.halved
  simp only [a1, a2, a3, b1, b2, b3, c1, c2, c3, h6, h7, h8, h9]
  simp

set_option maxRecDepth 20000 in
set_option maxHeartbeats 8000000 in
theorem pdown_any (y u v : FrAt) (F : Frm) (w : World) (h1 : y.has w F.y) (h2 : u.has w F.u) (h3 : v.has w F.v) (n1 : F.y.pix.length ≤ 1000000000000) (n2 : F.u.pix.length ≤ 1000000000000) (n3 : F.v.pix.length ≤ 1000000000000) :
    Calls Try.prog 25 #[frV y u v] w (FrPost w F.down) := by
  have HWh := Lib.hid fun W (hf : Fr [] w W) => pwhole_any y u v F W (h1.fr0 hf) (h2.fr0 hf) (h3.fr0 hf) n1 n2 n3
  have HHw := Lib.hid (fun (hw : F.whole = true) W (hf : Fr [] w W) => And.intro (FrAt.phalved (h1.fr0 hf) (whole_parts hw).1) (And.intro (FrAt.phalved (h2.fr0 hf) (whole_parts hw).2.1) (FrAt.phalved (h3.fr0 hf) (whole_parts hw).2.2.1)))
  have hyW := h1.1
  have hyH := h1.2.1
  obtain ⟨yW, yH, yA, yn, yc⟩ := y
  obtain ⟨uW, uH, uA, un, uc⟩ := u
  obtain ⟨vW, vH, vA, vn, vc⟩ := v
  simp only at HHw hyW hyH
  have hT := pairT 30 w #[.int .i64 yW, .int .i64 yH, .slice yA yn yc, .int .i64 uW, .int .i64 uH, .slice uA un uc, .int .i64 vW, .int .i64 vH, .slice vA vn vc] zeroF
  unfold zeroF at hT
  have HT := Lib.hid hT
  have hendN : ¬ (F.whole = true ∧ F.halved.whole = true) → ∀ w', Fr [] w w' → FrPost w F.down (.returned (.tuple #[.agg zeroF, .int .i64 61])) w' := fun hn w' hf => frPost_none (w := w) (w' := w') (down_none hn) hf
  have hendY : F.whole = true ∧ F.halved.whole = true → F.down = (F.halved, 0) := down_ok
  obtain ⟨L, hL⟩ : ∃ L, L = FrPost w F.down := ⟨_, rfl⟩
  rw [← hL] at hendN ⊢
  have HL := Lib.hid hL; have HN := Lib.hid hendN; have HY := Lib.hid hendY; have Hyw := Lib.hid (And.intro hyW hyH)
  clear hT hL hendN hendY h1 h2 h3 hyW hyH
  unfold frV FrAt.cells at HWh ⊢
  simp only at HWh ⊢
  cases bw : F.whole
  · rw [bw] at HWh
    have Hend := Lib.hid fun w' hf => HN.out (by rw [bw]; simp) w' hf
    clear HN HY bw HHw Hyw
    go_enter Try.func25, Try.ntmps25
    go_upto_region 1 with fail
    generalize World.alloc (World.alloc w _) _ = w1 at HT ⊢
    obtain ⟨g, hg⟩ : ∃ g, g = w.heap.size := ⟨_, rfl⟩
    rw [← hg] at HT ⊢
    obtain ⟨r, hr⟩ : ∃ r, r = g + 1 := ⟨_, rfl⟩
    rw [← hr] at HT ⊢
    clear hg hr
    have c0 := HT.out.bg.cell 0
    have c1 := HT.out.bg.cell 1
    have c2 := HT.out.bg.cell 2
    have c3 := HT.out.bg.cell 3
    have c4 := HT.out.bg.cell 4
    have c5 := HT.out.bg.cell 5
    have c6 := HT.out.bg.cell 6
    have c7 := HT.out.bg.cell 7
    have c8 := HT.out.bg.cell 8
    have hlg := HT.out.bg.lt
    simp at c0 c1 c2 c3 c4 c5 c6 c7 c8
    go_wp2_with fail
    refine (HWh.out _ HT.out.fr).mono ?_
    rintro e w2 ⟨rfl, hF2⟩
    have HT2 := Lib.hid (HT.out.fr0 hF2)
    clear hF2 c0 c1 c2 c3 c4 c5 c6 c7 c8 hlg HT HWh
    have HR : Hid (ResF w w2 r) := Lib.hid ⟨HT2.out.fr, by rw [HT2.out.er, HT2.out.eg]; omega, HT2.out.br⟩
    have d0 := HR.out.br.cell 0
    have d1 := HR.out.br.cell 1
    have d2 := HR.out.br.cell 2
    have d3 := HR.out.br.cell 3
    have d4 := HR.out.br.cell 4
    have d5 := HR.out.br.cell 5
    have d6 := HR.out.br.cell 6
    have d7 := HR.out.br.cell 7
    have d8 := HR.out.br.cell 8
    have f0 := HR.out.br.frozen 0
    have f1 := HR.out.br.frozen 1
    have f2 := HR.out.br.frozen 2
    have f3 := HR.out.br.frozen 3
    have f4 := HR.out.br.frozen 4
    have f5 := HR.out.br.frozen 5
    have f6 := HR.out.br.frozen 6
    have f7 := HR.out.br.frozen 7
    have f8 := HR.out.br.frozen 8
    have hlr := HR.out.br.lt
    simp [zeroF] at d0 d1 d2 d3 d4 d5 d6 d7 d8
    obtain ⟨hb5, hf5, -⟩ := HR.out.stored (.int .i64 0) (.int .i64 0) (.slice none 0 0) (.int .i64 0) (.int .i64 0) (.slice none 0 0) (.int .i64 0) (.int .i64 0) (.slice none 0 0)
    unfold store9 at hb5 hf5
    have HB5 := Lib.hid hb5; have HF5 := Lib.hid hf5
    clear hb5 hf5
    go_wp2_with fail
    refine bodyPost_ret (results_row_tmp Try.results25 _ _ r 30 _ (0, 0) _ rfl HB5.out.here Try.underlying30 rfl (by kernel_rfl)) rfl ?_
    exact Hend.out _ HF5.out
  · obtain ⟨-, -, -, W, H, eW, eH, hW, hH⟩ := whole_parts bw
    have hhw := halved_whole bw
    have HA := Lib.hid fun w => areSides_any ((W : Int) / 2) ((H : Int) / 2) w
    rw [eW, eH] at hhw
    rw [← hhw] at HA
    obtain rfl : yW = (W : Int) := by rw [Hyw.out.1, eW]
    obtain rfl : yH = (H : Int) := by rw [Hyw.out.2, eH]
    rw [bw] at HWh
    have HH1 := Lib.hid fun W' hf => (HHw.out bw W' hf).1
    have HH2 := Lib.hid fun W' hf => (HHw.out bw W' hf).2.1
    have HH3 := Lib.hid fun W' hf => (HHw.out bw W' hf).2.2
    obtain ⟨Z, hZ⟩ : ∃ Z, Z = F.halved.whole := ⟨_, rfl⟩
    rw [← hZ] at HA HN HY
    have HN2 := Lib.hid (fun hz : Z = false => HN.out (by rw [hz]; simp))
    have HY2 := Lib.hid (fun hz : Z = true => HY.out ⟨bw, hz⟩)
    clear hhw eW eH bw HHw Hyw hZ HN HY
    cases Z
    case' true => have Hdn := Lib.hid (HY2.out rfl)
    case' false => have Hend := Lib.hid (HN2.out rfl)
    all_goals
      clear HN2 HY2
      go_enter Try.func25, Try.ntmps25
      go_upto_region 1 with fail
      generalize World.alloc (World.alloc w _) _ = w1 at HT ⊢
      obtain ⟨g, hg⟩ : ∃ g, g = w.heap.size := ⟨_, rfl⟩
      rw [← hg] at HT ⊢
      obtain ⟨r, hr⟩ : ∃ r, r = g + 1 := ⟨_, rfl⟩
      rw [← hr] at HT ⊢
      clear hg hr
      have c0 := HT.out.bg.cell 0
      have c1 := HT.out.bg.cell 1
      have c2 := HT.out.bg.cell 2
      have c3 := HT.out.bg.cell 3
      have c4 := HT.out.bg.cell 4
      have c5 := HT.out.bg.cell 5
      have c6 := HT.out.bg.cell 6
      have c7 := HT.out.bg.cell 7
      have c8 := HT.out.bg.cell 8
      have hlg := HT.out.bg.lt
      simp at c0 c1 c2 c3 c4 c5 c6 c7 c8
      go_wp2_with fail
      refine (HWh.out _ HT.out.fr).mono ?_
      rintro e w2 ⟨rfl, hF2⟩
      have HT2 := Lib.hid (HT.out.fr0 hF2)
      clear hF2 c0 c1 c2 c3 c4 c5 c6 c7 c8 hlg HT HWh
      have c0 := HT2.out.bg.cell 0
      have c1 := HT2.out.bg.cell 1
      have hlg := HT2.out.bg.lt
      simp at c0 c1
      go_wp2_with fail
      refine (HA.out _).mono ?_
      rintro e w3 ⟨rfl, rfl⟩
      clear c0 c1 hlg HA
    · have HR : Hid (ResF w w3 r) := Lib.hid ⟨HT2.out.fr, by rw [HT2.out.er, HT2.out.eg]; omega, HT2.out.br⟩
      have d0 := HR.out.br.cell 0
      have d1 := HR.out.br.cell 1
      have d2 := HR.out.br.cell 2
      have d3 := HR.out.br.cell 3
      have d4 := HR.out.br.cell 4
      have d5 := HR.out.br.cell 5
      have d6 := HR.out.br.cell 6
      have d7 := HR.out.br.cell 7
      have d8 := HR.out.br.cell 8
      have f0 := HR.out.br.frozen 0
      have f1 := HR.out.br.frozen 1
      have f2 := HR.out.br.frozen 2
      have f3 := HR.out.br.frozen 3
      have f4 := HR.out.br.frozen 4
      have f5 := HR.out.br.frozen 5
      have f6 := HR.out.br.frozen 6
      have f7 := HR.out.br.frozen 7
      have f8 := HR.out.br.frozen 8
      have hlr := HR.out.br.lt
      simp [zeroF] at d0 d1 d2 d3 d4 d5 d6 d7 d8
      obtain ⟨hb5, hf5, -⟩ := HR.out.stored (.int .i64 0) (.int .i64 0) (.slice none 0 0) (.int .i64 0) (.int .i64 0) (.slice none 0 0) (.int .i64 0) (.int .i64 0) (.slice none 0 0)
      unfold store9 at hb5 hf5
      have HB5 := Lib.hid hb5; have HF5 := Lib.hid hf5
      clear hb5 hf5
      go_wp2_with fail
      refine bodyPost_ret (results_row_tmp Try.results25 _ _ r 30 _ (0, 0) _ rfl HB5.out.here Try.underlying30 rfl (by kernel_rfl)) rfl ?_
      exact Hend.out _ HF5.out
    go_upto_region 3 with fail
    have HT1 := Lib.hid (HT2.out.fr0 (Fr.refl [] w3).drew)
    clear HT2
    have q0 := HT1.out.bg.cell 0
    have q1 := HT1.out.bg.cell 1
    have q2 := HT1.out.bg.cell 2
    have q3 := HT1.out.bg.cell 3
    have q4 := HT1.out.bg.cell 4
    have q5 := HT1.out.bg.cell 5
    have q6 := HT1.out.bg.cell 6
    have q7 := HT1.out.bg.cell 7
    have q8 := HT1.out.bg.cell 8
    simp at q0 q1 q2 q3 q4 q5 q6 q7 q8
    refine wp_region_held_drew (S := fun Wq => Wq.cell? ⟨g, 0, none⟩ = some (.int .i64 (W : Int)) ∧ Wq.cell? ⟨g, 1, none⟩ = some (.int .i64 (H : Int)) ∧ Wq.cell? ⟨g, 2, none⟩ = some (.slice yA yn yc) ∧ Wq.cell? ⟨g, 3, none⟩ = some (.int .i64 uW) ∧ Wq.cell? ⟨g, 4, none⟩ = some (.int .i64 uH) ∧ Wq.cell? ⟨g, 5, none⟩ = some (.slice uA un uc) ∧ Wq.cell? ⟨g, 6, none⟩ = some (.int .i64 vW) ∧ Wq.cell? ⟨g, 7, none⟩ = some (.int .i64 vH) ∧ Wq.cell? ⟨g, 8, none⟩ = some (.slice vA vn vc)) (by kernel_rfl) ?_ (fun hHeld => ?_)
    · (first | exact ⟨p0, p1, p2, p3, p4, p5, p6, p7, p8⟩ | exact ⟨m0, m1, m2, m3, m4, m5, m6, m7, m8⟩ | exact ⟨l0, l1, l2, l3, l4, l5, l6, l7, l8⟩ | exact ⟨k0, k1, k2, k3, k4, k5, k6, k7, k8⟩ | exact ⟨q0, q1, q2, q3, q4, q5, q6, q7, q8⟩)
    refine wpAnyH_pick 0 (v := ?_) rfl (by kernel_rfl) (by kernel_rfl) (by kernel_rfl) (fun _ _ _ h => h) (by assumption) (by rfl) ?_ ?_
    rotate_left
    · (intro w hSw; (try dsimp only at hSw); go_simp) <;> (with_reducible rfl)
    (try simp only [Act.put, List.setIfInBounds_toArray, List.set_cons_zero, List.set_cons_succ])
    refine wpAnyH_pick 1 (v := ?_) rfl (by kernel_rfl) (by kernel_rfl) (by kernel_rfl) (fun _ _ _ h => h) (by assumption) (by rfl) ?_ ?_
    rotate_left
    · (intro w hSw; (try dsimp only at hSw); go_simp) <;> (with_reducible rfl)
    (try simp only [Act.put, List.setIfInBounds_toArray, List.set_cons_zero, List.set_cons_succ])
    refine wpAnyH_pick 3 (v := ?_) rfl (by kernel_rfl) (by kernel_rfl) (by kernel_rfl) (fun _ _ _ h => h) (by assumption) (by rfl) ?_ ?_
    rotate_left
    · (intro w hSw; (try dsimp only at hSw); go_simp) <;> (with_reducible rfl)
    (try simp only [Act.put, List.setIfInBounds_toArray, List.set_cons_zero, List.set_cons_succ])
    refine wpAnyH_pick 4 (v := ?_) rfl (by kernel_rfl) (by kernel_rfl) (by kernel_rfl) (fun _ _ _ h => h) (by assumption) (by rfl) ?_ ?_
    rotate_left
    · (intro w hSw; (try dsimp only at hSw); go_simp) <;> (with_reducible rfl)
    (try simp only [Act.put, List.setIfInBounds_toArray, List.set_cons_zero, List.set_cons_succ])
    refine wpAnyH_pick 6 (v := ?_) rfl (by kernel_rfl) (by kernel_rfl) (by kernel_rfl) (fun _ _ _ h => h) (by assumption) (by rfl) ?_ ?_
    rotate_left
    · (intro w hSw; (try dsimp only at hSw); go_simp) <;> (with_reducible rfl)
    (try simp only [Act.put, List.setIfInBounds_toArray, List.set_cons_zero, List.set_cons_succ])
    refine wpAnyH_pick 7 (v := ?_) rfl (by kernel_rfl) (by kernel_rfl) (by kernel_rfl) (fun _ _ _ h => h) (by assumption) (by rfl) ?_ ?_
    rotate_left
    · (intro w hSw; (try dsimp only at hSw); go_simp) <;> (with_reducible rfl)
    (try simp only [Act.put, List.setIfInBounds_toArray, List.set_cons_zero, List.set_cons_succ])
    refine wpAnyH_ready (rs := [2]) (by kernel_rfl) (by simp) ?_
    refine AllReadyH_pick rfl (fun K hK => ?_) (AllReadyH.nil)
    go_simp
    refine (HH1.out _ HT1.out.fr).mono ?_
    rintro e wa ⟨⟨W1, H1, A1, n1, c1⟩, rfl, ha1, hn1, hf1⟩
    have HT2 := Lib.hid (HT1.out.fr0 hf1); have HA1 := Lib.hid ha1
    have Hn1 := Lib.hid (fun k hk => (by have := hn1 k hk; have := HT1.out.br.lt; omega) : ∀ k, (Value.slice A1 n1 c1).ownBlock = some k → k ≠ r)
    clear hf1 ha1 hn1
    have k0 := HT2.out.bg.cell 0
    have k1 := HT2.out.bg.cell 1
    have k2 := HT2.out.bg.cell 2
    have k3 := HT2.out.bg.cell 3
    have k4 := HT2.out.bg.cell 4
    have k5 := HT2.out.bg.cell 5
    have k6 := HT2.out.bg.cell 6
    have k7 := HT2.out.bg.cell 7
    have k8 := HT2.out.bg.cell 8
    simp at k0 k1 k2 k3 k4 k5 k6 k7 k8
    go_wp2_with fail
    refine hK.out _ _ ?_ (fun hHeld => ?_)
    · (first | exact ⟨p0, p1, p2, p3, p4, p5, p6, p7, p8⟩ | exact ⟨m0, m1, m2, m3, m4, m5, m6, m7, m8⟩ | exact ⟨l0, l1, l2, l3, l4, l5, l6, l7, l8⟩ | exact ⟨k0, k1, k2, k3, k4, k5, k6, k7, k8⟩ | exact ⟨q0, q1, q2, q3, q4, q5, q6, q7, q8⟩)
    clear hK K
    (try simp only [Act.put, List.setIfInBounds_toArray, List.set_cons_zero, List.set_cons_succ])
    refine wpAnyH_ready (rs := [5]) (by kernel_rfl) (by simp) ?_
    refine AllReadyH_pick rfl (fun K hK => ?_) (AllReadyH.nil)
    go_simp
    refine (HH2.out _ HT2.out.fr).mono ?_
    rintro e wb ⟨⟨W2, H2, A2, n2, c2⟩, rfl, ha2, hn2, hf2⟩
    have HT3 := Lib.hid (HT2.out.fr0 hf2); have HA2 := Lib.hid ha2
    have Hn2 := Lib.hid (fun k hk => (by have := hn2 k hk; have := HT2.out.br.lt; omega) : ∀ k, (Value.slice A2 n2 c2).ownBlock = some k → k ≠ r)
    replace HA1 := Lib.hid (HA1.out.fr0 hf2)
    clear hf2 ha2 hn2
    have l0 := HT3.out.bg.cell 0
    have l1 := HT3.out.bg.cell 1
    have l2 := HT3.out.bg.cell 2
    have l3 := HT3.out.bg.cell 3
    have l4 := HT3.out.bg.cell 4
    have l5 := HT3.out.bg.cell 5
    have l6 := HT3.out.bg.cell 6
    have l7 := HT3.out.bg.cell 7
    have l8 := HT3.out.bg.cell 8
    simp at l0 l1 l2 l3 l4 l5 l6 l7 l8
    go_wp2_with fail
    refine hK.out _ _ ?_ (fun hHeld => ?_)
    · (first | exact ⟨p0, p1, p2, p3, p4, p5, p6, p7, p8⟩ | exact ⟨m0, m1, m2, m3, m4, m5, m6, m7, m8⟩ | exact ⟨l0, l1, l2, l3, l4, l5, l6, l7, l8⟩ | exact ⟨k0, k1, k2, k3, k4, k5, k6, k7, k8⟩ | exact ⟨q0, q1, q2, q3, q4, q5, q6, q7, q8⟩)
    clear hK K
    (try simp only [Act.put, List.setIfInBounds_toArray, List.set_cons_zero, List.set_cons_succ])
    refine wpAnyH_ready (rs := [8]) (by kernel_rfl) (by simp) ?_
    refine AllReadyH_pick rfl (fun K hK => ?_) (AllReadyH.nil)
    go_simp
    refine (HH3.out _ HT3.out.fr).mono ?_
    rintro e wc ⟨⟨W3, H3, A3, n3, c3⟩, rfl, ha3, hn3, hf3⟩
    have HT4 := Lib.hid (HT3.out.fr0 hf3); have HA3 := Lib.hid ha3
    have Hn3 := Lib.hid (fun k hk => (by have := hn3 k hk; have := HT3.out.br.lt; omega) : ∀ k, (Value.slice A3 n3 c3).ownBlock = some k → k ≠ r)
    replace HA1 := Lib.hid (HA1.out.fr0 hf3)
    replace HA2 := Lib.hid (HA2.out.fr0 hf3)
    clear hf3 ha3 hn3
    have m0 := HT4.out.bg.cell 0
    have m1 := HT4.out.bg.cell 1
    have m2 := HT4.out.bg.cell 2
    have m3 := HT4.out.bg.cell 3
    have m4 := HT4.out.bg.cell 4
    have m5 := HT4.out.bg.cell 5
    have m6 := HT4.out.bg.cell 6
    have m7 := HT4.out.bg.cell 7
    have m8 := HT4.out.bg.cell 8
    simp at m0 m1 m2 m3 m4 m5 m6 m7 m8
    go_wp2_with fail
    refine hK.out _ _ ?_ (fun hHeld => ?_)
    · (first | exact ⟨p0, p1, p2, p3, p4, p5, p6, p7, p8⟩ | exact ⟨m0, m1, m2, m3, m4, m5, m6, m7, m8⟩ | exact ⟨l0, l1, l2, l3, l4, l5, l6, l7, l8⟩ | exact ⟨k0, k1, k2, k3, k4, k5, k6, k7, k8⟩ | exact ⟨q0, q1, q2, q3, q4, q5, q6, q7, q8⟩)
    clear hK K
    (try simp only [Act.put, List.setIfInBounds_toArray, List.set_cons_zero, List.set_cons_succ])
    refine wpAnyH_pick 9 (v := ?_) rfl (by kernel_rfl) (by kernel_rfl) (by kernel_rfl) (fun _ _ _ h => h) (by assumption) (by rfl) ?_ ?_
    rotate_left
    · (intro w hSw; (try dsimp only at hSw); go_simp) <;> (with_reducible rfl)
    (try simp only [Act.put, List.setIfInBounds_toArray, List.set_cons_zero, List.set_cons_succ])
    refine wpAnyH_ready (rs := [10]) (by kernel_rfl) (by simp) ?_
    refine AllReadyH_pick rfl (fun K hK => ?_) (AllReadyH.nil)
    simp only
    have d0 := HT4.out.br.cell 0
    have d1 := HT4.out.br.cell 1
    have d2 := HT4.out.br.cell 2
    have d3 := HT4.out.br.cell 3
    have d4 := HT4.out.br.cell 4
    have d5 := HT4.out.br.cell 5
    have d6 := HT4.out.br.cell 6
    have d7 := HT4.out.br.cell 7
    have d8 := HT4.out.br.cell 8
    have f0 := HT4.out.br.frozen 0
    have f1 := HT4.out.br.frozen 1
    have f2 := HT4.out.br.frozen 2
    have f3 := HT4.out.br.frozen 3
    have f4 := HT4.out.br.frozen 4
    have f5 := HT4.out.br.frozen 5
    have f6 := HT4.out.br.frozen 6
    have f7 := HT4.out.br.frozen 7
    have f8 := HT4.out.br.frozen 8
    have hlr := HT4.out.br.lt
    simp at d0 d1 d2 d3 d4 d5 d6 d7 d8
    have HR : Hid (ResF w wc r) := Lib.hid ⟨HT4.out.fr, by rw [HT4.out.er, HT4.out.eg]; omega, HT4.out.br⟩
    obtain ⟨hb5, hf5, hf6⟩ := HR.out.stored (.int .i64 W1) (.int .i64 H1) (.slice A1 n1 c1) (.int .i64 W2) (.int .i64 H2) (.slice A2 n2 c2) (.int .i64 W3) (.int .i64 H3) (.slice A3 n3 c3)
    unfold store9 at hb5 hf5 hf6
    have HB5 := Lib.hid hb5; have HF5 := Lib.hid hf5; have HF6 := Lib.hid hf6
    clear hb5 hf5 hf6
    have hbg := HT4.out.bg.fr HF6.out (by simp; have := HT4.out.er; omega)
    have p0 : (((((((((((wc.setCell ⟨r, 0, none⟩ (.int .i64 W1)).setCell ⟨r, 1, none⟩ (.int .i64 H1)).setCell ⟨r, 2, none⟩ (.slice A1 n1 c1)).setCell ⟨r, 3, none⟩ (.int .i64 W2)).setCell ⟨r, 4, none⟩ (.int .i64 H2)).setCell ⟨r, 5, none⟩ (.slice A2 n2 c2)).setCell ⟨r, 6, none⟩ (.int .i64 W3)).setCell ⟨r, 7, none⟩ (.int .i64 H3)).setCell ⟨r, 8, none⟩ (.slice A3 n3 c3)))).cell? ⟨g, 0, none⟩ = some (.int .i64 (W : Int)) := hbg.cell 0
    have p1 : (((((((((((wc.setCell ⟨r, 0, none⟩ (.int .i64 W1)).setCell ⟨r, 1, none⟩ (.int .i64 H1)).setCell ⟨r, 2, none⟩ (.slice A1 n1 c1)).setCell ⟨r, 3, none⟩ (.int .i64 W2)).setCell ⟨r, 4, none⟩ (.int .i64 H2)).setCell ⟨r, 5, none⟩ (.slice A2 n2 c2)).setCell ⟨r, 6, none⟩ (.int .i64 W3)).setCell ⟨r, 7, none⟩ (.int .i64 H3)).setCell ⟨r, 8, none⟩ (.slice A3 n3 c3)))).cell? ⟨g, 1, none⟩ = some (.int .i64 (H : Int)) := hbg.cell 1
    have p2 : (((((((((((wc.setCell ⟨r, 0, none⟩ (.int .i64 W1)).setCell ⟨r, 1, none⟩ (.int .i64 H1)).setCell ⟨r, 2, none⟩ (.slice A1 n1 c1)).setCell ⟨r, 3, none⟩ (.int .i64 W2)).setCell ⟨r, 4, none⟩ (.int .i64 H2)).setCell ⟨r, 5, none⟩ (.slice A2 n2 c2)).setCell ⟨r, 6, none⟩ (.int .i64 W3)).setCell ⟨r, 7, none⟩ (.int .i64 H3)).setCell ⟨r, 8, none⟩ (.slice A3 n3 c3)))).cell? ⟨g, 2, none⟩ = some (.slice yA yn yc) := hbg.cell 2
    have p3 : (((((((((((wc.setCell ⟨r, 0, none⟩ (.int .i64 W1)).setCell ⟨r, 1, none⟩ (.int .i64 H1)).setCell ⟨r, 2, none⟩ (.slice A1 n1 c1)).setCell ⟨r, 3, none⟩ (.int .i64 W2)).setCell ⟨r, 4, none⟩ (.int .i64 H2)).setCell ⟨r, 5, none⟩ (.slice A2 n2 c2)).setCell ⟨r, 6, none⟩ (.int .i64 W3)).setCell ⟨r, 7, none⟩ (.int .i64 H3)).setCell ⟨r, 8, none⟩ (.slice A3 n3 c3)))).cell? ⟨g, 3, none⟩ = some (.int .i64 uW) := hbg.cell 3
    have p4 : (((((((((((wc.setCell ⟨r, 0, none⟩ (.int .i64 W1)).setCell ⟨r, 1, none⟩ (.int .i64 H1)).setCell ⟨r, 2, none⟩ (.slice A1 n1 c1)).setCell ⟨r, 3, none⟩ (.int .i64 W2)).setCell ⟨r, 4, none⟩ (.int .i64 H2)).setCell ⟨r, 5, none⟩ (.slice A2 n2 c2)).setCell ⟨r, 6, none⟩ (.int .i64 W3)).setCell ⟨r, 7, none⟩ (.int .i64 H3)).setCell ⟨r, 8, none⟩ (.slice A3 n3 c3)))).cell? ⟨g, 4, none⟩ = some (.int .i64 uH) := hbg.cell 4
    have p5 : (((((((((((wc.setCell ⟨r, 0, none⟩ (.int .i64 W1)).setCell ⟨r, 1, none⟩ (.int .i64 H1)).setCell ⟨r, 2, none⟩ (.slice A1 n1 c1)).setCell ⟨r, 3, none⟩ (.int .i64 W2)).setCell ⟨r, 4, none⟩ (.int .i64 H2)).setCell ⟨r, 5, none⟩ (.slice A2 n2 c2)).setCell ⟨r, 6, none⟩ (.int .i64 W3)).setCell ⟨r, 7, none⟩ (.int .i64 H3)).setCell ⟨r, 8, none⟩ (.slice A3 n3 c3)))).cell? ⟨g, 5, none⟩ = some (.slice uA un uc) := hbg.cell 5
    have p6 : (((((((((((wc.setCell ⟨r, 0, none⟩ (.int .i64 W1)).setCell ⟨r, 1, none⟩ (.int .i64 H1)).setCell ⟨r, 2, none⟩ (.slice A1 n1 c1)).setCell ⟨r, 3, none⟩ (.int .i64 W2)).setCell ⟨r, 4, none⟩ (.int .i64 H2)).setCell ⟨r, 5, none⟩ (.slice A2 n2 c2)).setCell ⟨r, 6, none⟩ (.int .i64 W3)).setCell ⟨r, 7, none⟩ (.int .i64 H3)).setCell ⟨r, 8, none⟩ (.slice A3 n3 c3)))).cell? ⟨g, 6, none⟩ = some (.int .i64 vW) := hbg.cell 6
    have p7 : (((((((((((wc.setCell ⟨r, 0, none⟩ (.int .i64 W1)).setCell ⟨r, 1, none⟩ (.int .i64 H1)).setCell ⟨r, 2, none⟩ (.slice A1 n1 c1)).setCell ⟨r, 3, none⟩ (.int .i64 W2)).setCell ⟨r, 4, none⟩ (.int .i64 H2)).setCell ⟨r, 5, none⟩ (.slice A2 n2 c2)).setCell ⟨r, 6, none⟩ (.int .i64 W3)).setCell ⟨r, 7, none⟩ (.int .i64 H3)).setCell ⟨r, 8, none⟩ (.slice A3 n3 c3)))).cell? ⟨g, 7, none⟩ = some (.int .i64 vH) := hbg.cell 7
    have p8 : (((((((((((wc.setCell ⟨r, 0, none⟩ (.int .i64 W1)).setCell ⟨r, 1, none⟩ (.int .i64 H1)).setCell ⟨r, 2, none⟩ (.slice A1 n1 c1)).setCell ⟨r, 3, none⟩ (.int .i64 W2)).setCell ⟨r, 4, none⟩ (.int .i64 H2)).setCell ⟨r, 5, none⟩ (.slice A2 n2 c2)).setCell ⟨r, 6, none⟩ (.int .i64 W3)).setCell ⟨r, 7, none⟩ (.int .i64 H3)).setCell ⟨r, 8, none⟩ (.slice A3 n3 c3)))).cell? ⟨g, 8, none⟩ = some (.slice vA vn vc) := hbg.cell 8
    clear hbg
    go_simp
    refine hK.out _ _ ?_ (fun hHeld => ?_)
    · (first | exact ⟨p0, p1, p2, p3, p4, p5, p6, p7, p8⟩ | exact ⟨m0, m1, m2, m3, m4, m5, m6, m7, m8⟩ | exact ⟨l0, l1, l2, l3, l4, l5, l6, l7, l8⟩ | exact ⟨k0, k1, k2, k3, k4, k5, k6, k7, k8⟩ | exact ⟨q0, q1, q2, q3, q4, q5, q6, q7, q8⟩)
    clear hK K
    (try simp only [Act.put, List.setIfInBounds_toArray, List.set_cons_zero, List.set_cons_succ])
    refine wpAnyH_pick 11 (v := ?_) rfl (by kernel_rfl) (by kernel_rfl) (by kernel_rfl) (fun _ _ _ h => h) (by assumption) (by rfl) ?_ ?_
    rotate_left
    · (intro w hSw; (try dsimp only at hSw); go_simp) <;> (with_reducible rfl)
    (try simp only [Act.put, List.setIfInBounds_toArray, List.set_cons_zero, List.set_cons_succ])
    refine wpAnyH_done (by kernel_rfl) ?_ _
    skip
    go_wp2_with fail
    refine bodyPost_ret (results_row_tmp Try.results25 _ _ r 30 _ (0, 0) _ rfl HB5.out.here Try.underlying30 rfl (by kernel_rfl)) rfl ?_
    rw [HL.out, Hdn.out]
    exact ⟨⟨W1, H1, A1, n1, c1⟩, ⟨W2, H2, A2, n2, c2⟩, ⟨W3, H3, A3, n3, c3⟩, rfl, HA1.out.frS HF6.out (fun k hk => by simpa using Hn1.out k hk), HA2.out.frS HF6.out (fun k hk => by simpa using Hn2.out k hk), HA3.out.frS HF6.out (fun k hk => by simpa using Hn3.out k hk), HF5.out⟩
end Go.Proofs.Ytlcjlgdcleenlaa

/-
  The landed planes keep their contracts. No condition.
-/
namespace Go.Proofs.Ytlcjlgdcleenlaa
open Go.RowKit

theorem FrAt.has.srcP {a : FrAt} {w : World} {P : Pl} (h : a.has w P) : Src w (.slice a.A P.pix.length a.c) (P.pix.map B8) := by
  rw [← h.2.2.1]
  exact h.2.2.2

theorem pblock_any (w : World) (a : FrAt) (P : Pl) (x y n : Int) (ha : a.has w P) (hp : P.small) :
    Calls Try.prog 30 #[a.val, .int .i64 x, .int .i64 y, .int .i64 n] w (BsPost w (P.block x y n)) := by
  rw [FrAt.val_pl ha]
  by_cases h : P.ok = true ∧ spanOk n = true
  · have hs := ha.srcP
    obtain ⟨n1, n2⟩ := spanOk_iff.1 h.2
    obtain ⟨N, rfl⟩ : ∃ N : Nat, n = (N : Int) := ⟨n.toNat, by omega⟩
    obtain ⟨Pw, Ph, px⟩ := P
    obtain ⟨W', H', ad, e1, e2, e3, hO⟩ := ok_at h.1 hs
    simp only at hs e1 e2 e3 ⊢
    subst e1 e2
    rw [e3] at hs ⊢
    have := block_good W' H' ad a.c N px x y w hs hp.long h.1 hO (by omega) (by omega)
    have hb : Pl.block ⟨(W' : Int), (H' : Int), px⟩ x y (N : Int) = sqs ⟨(W' : Int), (H' : Int), px⟩ x y N (N * N) := by
      unfold Pl.block
      rw [h.1, h.2]
      simp only [Bool.and_self, if_true, Int.toNat_natCast]
      rfl
    rw [hb]
    exact this
  · exact block_nil P.w P.h a.A a.c P.pix x y n w hp.long h

theorem play_any (w : World) (a : FrAt) (P : Pl) (x y n : Int) (A : Option Addr) (c : Nat) (b : List UInt8) (ha : a.has w P) (hp : P.small) (hs : Src w (.slice A b.length c) (b.map B8)) (hb : b.length ≤ 20000) :
    Calls Try.prog 18 #[a.val, .int .i64 x, .int .i64 y, .int .i64 n, .slice A b.length c] w (PlPost w (P.lay x y n b)) := by
  rw [FrAt.val_pl ha]
  have hpost : ∀ e w', LayPost w P.w P.h P.pix x y n b e w' → PlPost w (P.lay x y n b) e w' := by
    rintro e w' ⟨u, he, hM⟩
    obtain ⟨a, rfl, ha, -⟩ := hM.at_
    exact ⟨a, he, ha, hM.fr⟩
  refine Calls.mono ?_ hpost
  by_cases h : 1 ≤ n ∧ n ≤ 64 ∧ (b.length : Int) = n * n
  · obtain ⟨n1, n2, n3⟩ := h
    obtain ⟨N, rfl⟩ : ∃ N : Nat, n = (N : Int) := ⟨n.toNat, by omega⟩
    have hbN : b.length = N * N := by
      have : ((N : Int) * (N : Int)) = ((N * N : Nat) : Int) := by simp
      omega
    cases hok : P.ok
    · exact play_plane P.w P.h a.A a.c P.pix x y N A c b w hp.long (by omega) (by omega) hbN hok
    · have hs1 := ha.srcP
      obtain ⟨Pw, Ph, px⟩ := P
      obtain ⟨W', H', ad, e1, e2, e3, hO⟩ := ok_at hok hs1
      simp only at hs1 e1 e2 e3 ⊢
      subst e1 e2
      rw [e3] at hs1 ⊢
      have hN1 : 1 ≤ N := by omega
      have hpos : 0 < b.length := by rw [hbN]; exact Nat.mul_pos hN1 hN1
      rcases hs with ⟨e, h0⟩ | ⟨bd, c', e, hle, hc⟩
      · have := congrArg List.length h0
        rw [List.length_map, List.length_nil] at this
        omega
      · injection e with q1 q2 q3
        subst q1 q3
        exact play_good W' H' ad a.c px x y N bd c b w hs1 (.inr ⟨bd, c, by rw [List.length_map], hle, hc⟩) hp.long hok hO hN1 (by omega) hbN
  · exact play_arg P.w P.h a.A P.pix.length a.c P.pix x y n A c b w rfl (by omega) h

theorem planeI : PlaneSpec where
  new := fun w W H v _ _ => pnew_any W H v w
  right := fun w a P ha hp => FrAt.pright ha hp.long
  at_ := fun w a P x y ha hp _ _ => by
    rw [FrAt.val_pl ha]
    exact at_any P.w P.h a.A a.c P.pix x y w ha.srcP hp.long
  block := fun w a P x y n ha hp _ _ _ => pblock_any w a P x y n ha hp
  lay := fun w a P x y n A c b ha hp hs hb _ _ _ => play_any w a P x y n A c b ha hp hs hb
  half := fun w a P ha hp => by
    rw [FrAt.val_pl ha]
    refine (phalf_any P.w P.h a.A a.c P.pix w ha.srcP hp.long).mono ?_
    rintro e w' ⟨u, he, hM⟩
    obtain ⟨a, rfl, ha, -⟩ := hM.at_
    exact ⟨a, he, ha, hM.fr⟩
  far := fun w a b P Q ha hb hp hq => by
    rw [FrAt.val_pl ha, FrAt.val_pl hb]
    exact pfar_any P.w P.h a.A a.c P.pix Q.w Q.h b.A b.c Q.pix w ha.srcP hb.srcP hp.long hq.long
  blank := fun w W H v _ _ => pblank_any W H v w
  whole := fun w y u v F h hs => pwhole_any y u v F w h.y h.u h.v hs.1.long hs.2.1.long hs.2.2.long
  down := fun w y u v F h hs => pdown_any y u v F w h.y h.u h.v hs.1.long hs.2.1.long hs.2.2.long
  same := fun w y u v y' u' v' F G h k _ _ => psameF_any y u v y' u' v' F G w h.y h.u h.v k.y k.u k.v
  copy := fun w y u v F h hs => pcopy_any y u v F w h.y h.u h.v hs.1.long hs.2.1.long hs.2.2.long
end Go.Proofs.Ytlcjlgdcleenlaa

/-
  Planes: what is laid is there; beyond the edges. Plain: no program text.
-/
namespace Go.Proofs.Ytlcjlgdcleenlaa

theorem nearI_near (x : Int) {n : Int} (h : 1 ≤ n) : nearI (nearI x n) n = nearI x n := by
  obtain ⟨h1, h2⟩ := nearI_range x h
  exact nearI_in h1 h2
theorem at_near {P : Pl} (h : P.ok = true) (x y : Int) : P.at_ (nearI x P.w) (nearI y P.h) = P.at_ x y := by
  obtain ⟨⟨h1, h2⟩, ⟨h3, h4⟩, h5⟩ := Pl.ok_iff.1 h
  unfold Pl.at_ Pl.smp
  rw [nearI_near x h1, nearI_near y h3]
theorem nearI_minmax (x n : Int) (h : 1 ≤ n) : nearI x n = min (max x 0) (n - 1) := by
  unfold nearI
  split
  · omega
  · split <;> omega

theorem block_length {P : Pl} (h : P.ok = true) {n : Nat} (h1 : 1 ≤ n) (h2 : n ≤ 64) (x y : Int) : (P.block x y (n : Int)).length = n * n := by
  unfold Pl.block
  rw [h, spanOk_iff.2 ⟨by omega, by omega⟩]
  simp
theorem block_get {P : Pl} (h : P.ok = true) {n : Nat} (h1 : 1 ≤ n) (h2 : n ≤ 64) (x y : Int) {k : Nat} (hk : k < n * n) : (P.block x y (n : Int))[k]? = some (P.sq x y n k) := by
  unfold Pl.block
  rw [h, spanOk_iff.2 ⟨by omega, by omega⟩]
  simp [hk]
theorem sq_split {n k : Nat} (hn : 1 ≤ n) (hk : k < n * n) : k % n < n ∧ k / n < n ∧ k / n * n + k % n = k := by
  refine ⟨Nat.mod_lt _ (by omega), (Nat.div_lt_iff_lt_mul (by omega)).2 hk, ?_⟩
  rw [Nat.mul_comm]
  exact Nat.div_add_mod k n
/-- Wholly beyond the right upper corner, and beyond the left lower one. -/
theorem corner_right {P : Pl} (h : P.ok = true) {n k : Nat} (h1 : 1 ≤ n) (h2 : n ≤ 16) (hk : k < n * n) : P.sq 1099511627776 (-1099511627776) n k = P.at_ (P.w - 1) 0 := by
  obtain ⟨⟨w1, w2⟩, ⟨w3, w4⟩, -⟩ := Pl.ok_iff.1 h
  obtain ⟨k1, k2, -⟩ := sq_split h1 hk
  unfold Pl.sq Pl.at_ Pl.smp
  rw [if_pos h]
  generalize k % n = i at k1
  generalize k / n = j at k2
  have e1 : nearI (1099511627776 + (i : Int)) P.w = nearI (P.w - 1) P.w := by unfold nearI; rw [if_neg (by omega), if_pos (by omega), if_neg (by omega), if_neg (by omega)]
  have e2 : nearI (-1099511627776 + (j : Int)) P.h = nearI 0 P.h := by unfold nearI; rw [if_pos (by omega), if_neg (by omega), if_neg (by omega)]
  rw [e1, e2]
theorem corner_left {P : Pl} (h : P.ok = true) {n k : Nat} (h1 : 1 ≤ n) (_h2 : n ≤ 16) (hk : k < n * n) : P.sq (-(n : Int)) P.h n k = P.at_ 0 (P.h - 1) := by
  obtain ⟨⟨w1, w2⟩, ⟨w3, w4⟩, -⟩ := Pl.ok_iff.1 h
  obtain ⟨k1, k2, -⟩ := sq_split h1 hk
  unfold Pl.sq Pl.at_ Pl.smp
  rw [if_pos h]
  generalize k % n = i at k1
  generalize k / n = j at k2
  have e1 : nearI (-(n : Int) + (i : Int)) P.w = nearI 0 P.w := by unfold nearI; rw [if_pos (by omega), if_neg (by omega), if_neg (by omega)]
  have e2 : nearI (P.h + (j : Int)) P.h = nearI (P.h - 1) P.h := by unfold nearI; rw [if_neg (by omega), if_pos (by omega), if_neg (by omega), if_neg (by omega)]
  rw [e1, e2]
theorem laid_none {P : Pl} {x y : Int} {n : Nat} {b : List UInt8} {m k : Nat} (h : ¬ (x ≤ ((k % P.w.toNat : Nat) : Int) ∧ ((k % P.w.toNat : Nat) : Int) < x + n ∧ y ≤ ((k / P.w.toNat : Nat) : Int) ∧ ((k / P.w.toNat : Nat) : Int) < y + n)) : P.laid x y n b m k = P.pix.getD k 0 := by
  unfold Pl.laid
  exact if_neg (fun q => h ⟨q.1, q.2.1, q.2.2.1, q.2.2.2.1⟩)
theorem lays_same {P : Pl} {x y : Int} {n : Nat} {b : List UInt8} {m : Nat} (h : ∀ k, k < P.pix.length → P.laid x y n b m k = P.pix.getD k 0) : P.lays x y n b m = P.pix := by
  apply List.ext_getElem?
  intro k
  by_cases hk : k < P.pix.length
  · rw [lays_get _ _ _ _ _ _ hk, h k hk, List.getD_eq_getElem?_getD, List.getElem?_eq_getElem hk]
    rfl
  · rw [List.getElem?_eq_none (by rw [lays_length]; omega), List.getElem?_eq_none (by omega)]
theorem lay_out {P : Pl} (h : P.ok = true) {x y : Int} {n : Nat} (h1 : 1 ≤ n) (h2 : n ≤ 64) {b : List UInt8} (hb : b.length = n * n) (hx : x + n ≤ 0 ∨ 4096 ≤ x) : P.lay x y n b = (P, 0) := by
  obtain ⟨w, h', e1, e2, w1, w2, h3, h4, hl⟩ := P.ok_nat h
  unfold Pl.lay
  rw [spanOk_iff.2 ⟨by omega, by omega⟩, h]
  simp only [Bool.true_and, Bool.not_true, Bool.false_eq_true, if_false]
  rw [if_neg (by simp [hb])]
  rw [lays_same]
  intro k hk
  apply laid_none
  have : k % P.w.toNat < P.w.toNat := Nat.mod_lt _ (by omega)
  omega

theorem lay_is {P : Pl} (h : P.ok = true) {x y : Int} {n : Nat} (h1 : 1 ≤ n) (h2 : n ≤ 64) {b : List UInt8} (hb : b.length = n * n) : P.lay x y n b = (⟨P.w, P.h, P.lays x y n b (n * n)⟩, 0) := by
  unfold Pl.lay
  rw [spanOk_iff.2 ⟨by omega, by omega⟩, h]
  simp only [Bool.true_and, Bool.not_true, Bool.false_eq_true, if_false]
  rw [if_neg (by simp [hb])]
  simp
theorem lays_ok {P : Pl} (h : P.ok = true) (x y : Int) (n : Nat) (b : List UInt8) (m : Nat) : (⟨P.w, P.h, P.lays x y n b m⟩ : Pl).ok = true := by
  have q := Pl.ok_iff.1 h
  refine Pl.ok_iff.2 ⟨q.1, q.2.1, ?_⟩
  show ((P.lays x y n b m).length : Int) = _
  rw [lays_length]
  exact q.2.2
theorem smp_in {P : Pl} {a c : Nat} (ha : (a : Int) < P.w) (hc : (c : Int) < P.h) : P.smp a c = P.pix.getD (c * P.w.toNat + a) 0 := by
  unfold Pl.smp
  rw [nearI_in (by omega) ha, nearI_in (by omega) hc]
  congr 1
  have : P.w = (P.w.toNat : Int) := by omega
  rw [this]
  have e : (c : Int) * (P.w.toNat : Int) + (a : Int) = ((c * P.w.toNat + a : Nat) : Int) := by simp
  rw [e, Int.toNat_natCast, Int.toNat_natCast]
theorem row_col {w a c : Nat} (ha : a < w) : (c * w + a) % w = a ∧ (c * w + a) / w = c := by
  rw [Nat.mul_comm c w, Nat.mul_add_mod, Nat.mod_eq_of_lt ha, Nat.mul_add_div (by omega), Nat.div_eq_of_lt ha]
  exact ⟨rfl, rfl⟩
/-- A sample of a plane on which a square is laid, by its column and row. -/
theorem laid_at {P : Pl} (h : P.ok = true) {x y n : Nat} {b : List UInt8} {a c : Nat} (ha : (a : Int) < P.w) (hc : (c : Int) < P.h) (_hb : b.length = n * n) :
    (⟨P.w, P.h, P.lays x y n b (n * n)⟩ : Pl).smp a c = if x ≤ a ∧ a < x + n ∧ y ≤ c ∧ c < y + n then b.getD ((c - y) * n + (a - x)) 0 else P.smp a c := by
  obtain ⟨w, h', e1, e2, w1, w2, h3, h4, hl⟩ := P.ok_nat h
  have ew : P.w.toNat = w := by omega
  rw [smp_in (P := ⟨P.w, P.h, P.lays x y n b (n * n)⟩) ha hc, smp_in (P := P) ha hc]
  simp only [ew]
  have hlt : c * w + a < P.pix.length := by rw [hl]; exact cell_lt (by omega) (by omega)
  rw [List.getD_eq_getElem?_getD, lays_get _ _ _ _ _ _ hlt, Option.getD_some]
  obtain ⟨q1, q2⟩ := row_col (w := w) (a := a) (c := c) (by omega)
  unfold Pl.laid
  simp only [ew, q1, q2]
  by_cases hin : x ≤ a ∧ a < x + n ∧ y ≤ c ∧ c < y + n
  · have e3 : ((c : Int) - (y : Int)) * (n : Int) + ((a : Int) - (x : Int)) = (((c - y) * n + (a - x) : Nat) : Int) := by
      rw [show (c : Int) - (y : Int) = ((c - y : Nat) : Int) by omega, show (a : Int) - (x : Int) = ((a - x : Nat) : Int) by omega]
      simp
    have hm : (c - y) * n + (a - x) < n * n := cell_lt (by omega) (by omega)
    rw [if_pos hin, if_pos ⟨by omega, by omega, by omega, by omega, by rw [e3, Int.toNat_natCast]; exact hm⟩, e3, Int.toNat_natCast]
  · rw [if_neg hin, if_neg (fun q => hin ⟨by omega, by omega, by omega, by omega⟩)]
theorem there_block {P : Pl} (h : P.ok = true) {x y n : Nat} (h1 : 1 ≤ n) (h2 : n ≤ 64) {b : List UInt8} (hb : b.length = n * n) (hx : (x : Int) + n ≤ P.w) (hy : (y : Int) + n ≤ P.h) :
    (⟨P.w, P.h, P.lays x y n b (n * n)⟩ : Pl).block x y n = b := by
  apply List.ext_getElem?
  intro k
  by_cases hk : k < n * n
  · obtain ⟨k1, k2, k3⟩ := sq_split h1 hk
    rw [block_get (lays_ok h ..) h1 h2 _ _ hk]
    unfold Pl.sq
    generalize k % n = i at k1 k3 ⊢
    generalize k / n = j at k2 k3 ⊢
    have e1 : (x : Int) + (i : Int) = ((x + i : Nat) : Int) := by simp
    have e2 : (y : Int) + (j : Int) = ((y + j : Nat) : Int) := by simp
    rw [e1, e2, laid_at h (by omega) (by omega) hb, if_pos (by omega), show y + j - y = j by omega, show x + i - x = i by omega, k3, List.getD_eq_getElem?_getD, List.getElem?_eq_getElem (by omega)]
    rfl
  · rw [List.getElem?_eq_none (by rw [block_length (lays_ok h ..) h1 h2]; omega), List.getElem?_eq_none (by omega)]
theorem there_outside {P : Pl} (h : P.ok = true) {x y n : Nat} {b : List UInt8} (hb : b.length = n * n) {a c : Nat} (ha : (a : Int) < P.w) (hc : (c : Int) < P.h) (ho : ¬ (x ≤ a ∧ a < x + n ∧ y ≤ c ∧ c < y + n)) :
    (⟨P.w, P.h, P.lays x y n b (n * n)⟩ : Pl).at_ a c = P.at_ a c := by
  unfold Pl.at_
  rw [if_pos (lays_ok h ..), if_pos h, laid_at h ha hc hb, if_neg ho]
theorem there_again {P : Pl} (h : P.ok = true) {x y n : Nat} (h1 : 1 ≤ n) (h2 : n ≤ 64) {b : List UInt8} (hb : b.length = n * n) (_hx : (x : Int) + n ≤ P.w) (_hy : (y : Int) + n ≤ P.h) :
    (⟨P.w, P.h, P.lays x y n b (n * n)⟩ : Pl).lays x y n (P.block x y n) (n * n) = P.pix := by
  obtain ⟨w, h', e1, e2, w1, w2, h3, h4, hl⟩ := P.ok_nat h
  obtain ⟨Q, hQ⟩ : ∃ Q : Pl, Q = ⟨P.w, P.h, P.lays x y n b (n * n)⟩ := ⟨_, rfl⟩
  have hQok : Q.ok = true := by rw [hQ]; exact lays_ok h ..
  have hQw : Q.w = P.w := by rw [hQ]
  have hQh : Q.h = P.h := by rw [hQ]
  have hQl : Q.pix.length = P.pix.length := by rw [hQ]; exact lays_length ..
  rw [← hQ]
  have hbl := block_length h h1 h2 (x : Int) (y : Int)
  have key : ∀ a c : Nat, (a : Int) < P.w → (c : Int) < P.h → (⟨Q.w, Q.h, Q.lays x y n (P.block x y n) (n * n)⟩ : Pl).smp a c = P.smp a c := by
    intro a c ha hc
    rw [laid_at hQok (by rw [hQw]; exact ha) (by rw [hQh]; exact hc) hbl]
    split
    · rename_i hin
      have hm : (c - y) * n + (a - x) < n * n := cell_lt (by omega) (by omega)
      rw [List.getD_eq_getElem?_getD, block_get h h1 h2 _ _ hm, Option.getD_some]
      unfold Pl.sq
      obtain ⟨q1, q2⟩ := row_col (w := n) (a := a - x) (c := c - y) (by omega)
      rw [q1, q2]
      congr 1 <;> omega
    · rename_i hin
      rw [hQ, laid_at h ha hc hb, if_neg hin]
  apply List.ext_getElem?
  intro k
  by_cases hk : k < P.pix.length
  · have hka : k % w < w := Nat.mod_lt _ (by omega)
    have hkc : k / w < h' := by rw [Nat.div_lt_iff_lt_mul (by omega), Nat.mul_comm, ← hl]; exact hk
    have hkk : k / w * w + k % w = k := by rw [Nat.mul_comm]; exact Nat.div_add_mod k w
    have := key (k % w) (k / w) (by omega) (by omega)
    rw [smp_in (by show ((k % w : Nat) : Int) < Q.w; omega) (by show ((k / w : Nat) : Int) < Q.h; omega), smp_in (by omega) (by omega)] at this
    have ew : P.w.toNat = w := by omega
    have ew' : Q.w.toNat = w := by omega
    simp only [ew, ew', hkk] at this
    rw [List.getD_eq_getElem?_getD, List.getD_eq_getElem?_getD] at this
    have g1 : k < (Q.lays x y n (P.block x y n) (n * n)).length := by rw [lays_length, hQl]; exact hk
    rw [List.getElem?_eq_getElem g1, List.getElem?_eq_getElem hk] at this
    rw [List.getElem?_eq_getElem g1, List.getElem?_eq_getElem hk]
    simpa using this
  · rw [List.getElem?_eq_none (by rw [lays_length, hQl]; omega), List.getElem?_eq_none (by omega)]
end Go.Proofs.Ytlcjlgdcleenlaa
