/-
  The law CoderWrites answers true whatever its input, out of the coder's contracts; no condition.
-/
import Derived.Test.YtfnmplipbgdniaaDLive
import Derived.Test.YtfnmplipbgdniaaRef4c
import Derived.Test.YtfnmplipbgdniaaStr
namespace Go.Proofs.Ytfnmplipbgdniaa
open Go.RowKit

theorem Re.lt {w : World} {q : Nat} {u : Value} {e : Enc} (h : Re w q u e) : q < w.heap.size := h.1.lt
theorem own_lt {w : World} {t : TypeId} {u : Value} {xs : List Value} (h : Own w t u xs) : ∀ k, u.ownBlock = some k → k < w.heap.size := by
  intro k hk
  rcases h.form with ⟨rfl, -⟩ | ⟨g, cap, cur, rfl, hb, -⟩
  · simp [Value.ownBlock] at hk
  · have : g = k := by simpa [Value.ownBlock] using hk
    subst this
    exact hb.lt

theorem rput_total (q : Nat) (u : Value) (e : Enc) (c : Nat) (bit : Int) (w : World) (h : Re w q u e) (he : e.Ok) (hn : e.n ≤ 100000) :
    Calls Try.prog 14 #[pt q, .int .i64 (c : Int), .int .i64 bit] w fun r w' => r = .returned (.int .i64 (encAct e c bit).1) ∧ ∃ u', Re w' q u' (encAct e c bit).2 ∧ ReFr q u u' w w' := by
  unfold encAct
  by_cases hg : rightC c ∧ (bit = 0 ∨ bit = 1)
  · rw [if_pos hg]
    have hb : bit = ((bit == 1).toNat : Int) := by rcases hg.2 with rfl | rfl <;> rfl
    have := rput_ok q u e c (bit == 1) w h he hg.1 (by omega)
    rw [← hb] at this
    exact this
  · rw [if_neg hg]
    exact (rput_bad (pt q) c bit w hg).mono fun r w' ⟨hr, hw⟩ => ⟨hr, u, by rw [hw]; exact h, by rw [hw]; exact ReFr.refl q u w⟩

/-- The encoder and the document's, apart, in memory that is new since w0. -/
structure Both4 (X : EncSpec) (w0 w : World) (p : Nat) (D : List Nat) (e : Enc) (q : Nat) (u : Value) (f : Enc) : Prop where
  a : Live X w0 w p D e
  b : Re w q u f
  sep : ∀ k ∈ p :: D, k ≠ q ∧ u.ownBlock ≠ some k
  nq : w0.heap.size ≤ q
  nu : ∀ k, u.ownBlock = some k → w0.heap.size ≤ k
section
variable {X : EncSpec} {w0 w w' : World} {p : Nat} {D D' : List Nat} {e e' : Enc} {q : Nat} {u u' : Value} {f f' : Enc}
theorem Both4.fr0 (h : Both4 X w0 w p D e q u f) (hf : Fr [] w w') : Both4 X w0 w' p D e q u f :=
  ⟨h.a.fr0 hf, h.b.fr0 hf, h.sep, h.nq, h.nu⟩
theorem Both4.stepA (h : Both4 X w0 w p D e q u f) (hf : Fr (p :: D) w w') (hL : Live X w0 w' p D' e') (hD : ∀ k ∈ D', k ∈ D ∨ w.heap.size ≤ k) : Both4 X w0 w' p D' e' q u f := by
  refine ⟨hL, h.b.fr hf (fun hm => (h.sep q hm).1 rfl) (fun k hk hm => (h.sep k hm).2 hk), fun k hk => ?_, h.nq, h.nu⟩
  rcases List.mem_cons.1 hk with rfl | hk
  · exact h.sep _ (List.mem_cons_self ..)
  · rcases hD k hk with h1 | h1
    · exact h.sep k (List.mem_cons_of_mem _ h1)
    · refine ⟨?_, fun hu => ?_⟩
      · have := h.b.lt; omega
      · have := own_lt h.b.2.1 k hu; omega
theorem Both4.stepB (h : Both4 X w0 w p D e q u f) (hf : ReFr q u u' w w') (hR : Re w' q u' f') : Both4 X w0 w' p D e q u' f' := by
  have hn : ∀ k ∈ q :: u.ownBlock.toList, w0.heap.size ≤ k := by
    intro k hk
    rcases List.mem_cons.1 hk with rfl | hk
    · exact h.nq
    · exact h.nu k (by simpa using hk)
  refine ⟨⟨X.fr h.a.en hf.1 fun k hk hm => ?_, h.a.fr.trans hf.1 (fun x hx => .inr (hn x hx)), h.a.new, h.a.ok⟩, hR, fun k hk => ⟨(h.sep k hk).1, fun hu => ?_⟩, h.nq, fun k hk => ?_⟩
  · rcases List.mem_cons.1 hm with hm | hm
    · exact (h.sep k hk).1 hm
    · exact (h.sep k hk).2 (by simpa using hm)
  · rcases hf.2 with h1 | ⟨g, h1, h2⟩
    · exact (h.sep k hk).2 (h1 ▸ hu)
    · rw [h1] at hu
      injection hu with hu
      subst hu
      have := X.lt h.a.en _ hk
      omega
  · rcases hf.2 with h1 | ⟨g, h1, h2⟩
    · exact h.nu k (h1 ▸ hk)
    · rw [h1] at hk
      injection hk with hk
      subst hk
      have := h.a.fr.size
      omega
end

attribute [local go_sem ↓] cv_rule

set_option maxRecDepth 100000 in
set_option maxHeartbeats 8000000 in
theorem writes4_law (X : EncSpec) (Y : DecSpec) (N : NextSpec) (A : Option Addr) (len cap : Nat) (acts : List (Int × Int)) (w : World) (hA : Acts2 w A len acts) (hm : len ≤ 9223372036854775807) :
    Calls Try.prog 3 #[.slice A len cap] w fun e w' => e = .returned (.bool true) ∧ Fr [] w w' := by
  have HA := Lib.hid hA; clear hA
  go_enter Try.func3, Try.ntmps3
  go_wp2_with fail
  refine (new_live (X := X) w (Fr.refl [] w)).mono ?_
  rintro e w1 ⟨p, D, rfl, hL, -, -⟩
  have HL := Lib.hid hL; clear hL
  go_wp2_with fail
  refine (rnew_any w1).mono ?_
  rintro e w2 ⟨q, u, rfl, hR, hF2, hq, hu⟩
  have hB : Both4 X w w2 p D encNew q u encNew := by
    refine ⟨HL.out.fr0 hF2, hR, fun k hk => ?_, Nat.le_trans HL.out.fr.size hq, fun k hk => Nat.le_trans HL.out.fr.size (hu k hk)⟩
    have := X.lt HL.out.en k hk
    exact ⟨by omega, fun hk2 => by have := hu k hk2; omega⟩
  have HB := Lib.hid hB; clear hB HL hR hF2 hq hu
  go_wp2_with fail
  go_loopw [5] (fun s5 wr => ∃ (i : Nat) (D : List Nat) (e : Enc) (u : Value), i ≤ len ∧ i ≤ 400 ∧ e.n ≤ i + 4 ∧ s5 = .int .i64 (i : Int) ∧ Both4 X w wr p D e q u e) (fun s5 _ => 400 - (intOf s5).toNat)
  case atStart => exact ⟨0, D, encNew, u, by omega, by omega, by decide, rfl, HB.out⟩
  case round =>
    obtain ⟨i, D, e, u, hi1, hi2, hn, rfl, hB⟩ := hrel
    have HBr := Lib.hid hB; clear hB HB
    by_cases hlt2 : i < len ∧ i < 400
    · obtain ⟨hl1, hl2⟩ := hlt2
      have eg1 : decide (i < len) = true := by simpa using hl1
      have eg2 : decide ((i : Int) < 400) = true := by simp; omega
      obtain ⟨⟨c, b⟩, hcb⟩ : ∃ x, acts[i]? = some x := ⟨_, List.getElem?_eq_getElem (by have := HA.out.1; omega)⟩
      have hcell : ∀ W, Fr [] w W → -9223372036854775808 ≤ b ∧ b ≤ 9223372036854775807 ∧ ∃ g o, A = some ⟨g, o, none⟩ ∧ W.cell? ⟨g, o + i * 2, none⟩ = some (.int .i64 c) ∧ W.cell? ⟨g, o + i * 2 + 1, none⟩ = some (.int .i64 b) := fun W hF => (HA.out.fr hF).2 i c b hcb
      obtain ⟨lb1, lb2, g, o, rfl, -, -⟩ := hcell wr HBr.out.a.fr
      have hcells : ∀ W, Fr [] w W → W.cell? ⟨g, o + i * 2, none⟩ = some (.int .i64 c) ∧ W.cell? ⟨g, o + i * 2 + 1, none⟩ = some (.int .i64 b) := by
        intro W hF
        obtain ⟨-, -, g', o', r1, h1, h2⟩ := hcell W hF
        have r2 := Option.some.inj r1
        injection r2 with r3 r4
        subst r3 r4
        exact ⟨h1, h2⟩
      have Hcells := Lib.hid hcells
      obtain ⟨ka, kb⟩ := hcells _ HBr.out.a.fr
      have eA := and_raw c
      have hC := rawC_lt c
      generalize rawC c = C at eA hC
      have HC : Hid (∀ W, Calls Try.prog 13 #[.int .i64 (C : Int)] W fun r W' => r = .returned (.int .u16 (C : Int)) ∧ W' = W) := Lib.hid fun W => by
        have := chance_any (C : Int) W
        rw [show rawC (C : Int) = C by unfold rawC; omega] at this
        exact this
      obtain ⟨E, e', hEe⟩ : ∃ E e', encAct e C b = (E, e') := ⟨_, _, rfl⟩
      have hen := encAct_n e C b
      rw [hEe] at hen
      have HP : Hid (∀ W, Live X w W p D e → Calls Try.prog 12 #[pt p, .int .u16 (C : Int), .int .i64 b] W fun r W' => r = .returned (.int .i64 E) ∧ ∃ D', Live X w W' p D' e' ∧ Fr (p :: D) W W' ∧ ∀ k ∈ D', k ∈ D ∨ W.heap.size ≤ k) := Lib.hid fun W hW => by
        have := put_total W p D e C b hW hC lb1 lb2 (by omega)
        rw [hEe] at this
        exact this
      have HR : Hid (∀ W, Re W q u e → Calls Try.prog 14 #[pt q, .int .i64 (C : Int), .int .i64 b] W fun r W' => r = .returned (.int .i64 E) ∧ ∃ u', Re W' q u' e' ∧ ReFr q u u' W W') := Lib.hid fun W hW => by
        have := rput_total q u e C b W hW HBr.out.a.ok (by omega)
        rw [hEe] at this
        exact this
      obtain ⟨y, hy⟩ : ∃ y, y = nextC C (b != 0) := ⟨_, rfl⟩
      have HN : Hid (∀ W, Calls Try.prog 15 #[.int .u16 (C : Int), .int .i64 b] W fun r W' => r = .returned (.int .u16 (y : Int)) ∧ Fr [] W W') := Lib.hid fun W => by
        rw [hy]
        exact N W C b hC lb1 lb2
      have HRN : Hid (∀ W, Calls Try.prog 16 #[.int .i64 (C : Int), .int .i64 b] W fun r W' => r = .returned (.int .i64 (y : Int)) ∧ W' = W) := Lib.hid fun W => by
        rw [hy]
        exact rnext_any C b W (by omega)
      have hyl : y < 65536 := by
        have := nextC_right C (b != 0)
        unfold rightC at this
        omega
      have eW : IntKind.i64.wrap (y : Int) = (y : Int) := IntWalk.i64_in _ (by omega)
      have eE : (E != E) = false := by simp
      have eY : ((y : Int) != (y : Int)) = false := by simp
      have hen2 : e'.n ≤ i + 1 + 4 := by simp at hen; omega
      clear hEe hen hy hcell hcells hcb hyl
      go_upto_region 7 with fail
      clear ka eA
      have hBd := HBr.out.fr0 (Fr.refl [] wr).drew
      have HBd := Lib.hid hBd
      clear hBd HBr
      refine wp_region_held_drew (S := fun W => W.cell? ⟨g, o + i * 2 + 1, none⟩ = some (.int .i64 b)) (by kernel_rfl) ?_ (fun hHeld => ?_)
      · (repeat' (first | trivial | assumption | refine ⟨?_, ?_⟩))
      refine wpAnyH_pick 0 (v := ?_) rfl (by kernel_rfl) (by kernel_rfl) (by kernel_rfl) (fun _ _ _ h => h) (by assumption) (by rfl) ?_ ?_
      rotate_left
      · (intro w hSw; (try dsimp only at hSw); go_simp) <;> (with_reducible rfl)
      (try simp only [Act.put, List.setIfInBounds_toArray, List.set_cons_zero, List.set_cons_succ])
      refine wpAnyH_pick 1 (v := ?_) rfl (by kernel_rfl) (by kernel_rfl) (by kernel_rfl) (fun _ _ _ h => h) (by assumption) (by rfl) ?_ ?_
      rotate_left
      · (intro w hSw; (try dsimp only at hSw); go_simp) <;> (with_reducible rfl)
      (try simp only [Act.put, List.setIfInBounds_toArray, List.set_cons_zero, List.set_cons_succ])
      refine wpAnyH_pick 3 (v := ?_) rfl (by kernel_rfl) (by kernel_rfl) (by kernel_rfl) (fun _ _ _ h => h) (by assumption) (by rfl) ?_ ?_
      rotate_left
      · (intro w hSw; (try dsimp only at hSw); go_simp) <;> (with_reducible rfl)
      (try simp only [Act.put, List.setIfInBounds_toArray, List.set_cons_zero, List.set_cons_succ])
      refine wpAnyH_pick 4 (v := ?_) rfl (by kernel_rfl) (by kernel_rfl) (by kernel_rfl) (fun _ _ _ h => h) (by assumption) (by rfl) ?_ ?_
      rotate_left
      · (intro w hSw; (try dsimp only at hSw); go_simp) <;> (with_reducible rfl)
      (try simp only [Act.put, List.setIfInBounds_toArray, List.set_cons_zero, List.set_cons_succ])
      refine wpAnyH_pick 5 (v := ?_) rfl (by kernel_rfl) (by kernel_rfl) (by kernel_rfl) (fun _ _ _ h => h) (by assumption) (by rfl) ?_ ?_
      rotate_left
      · (intro w hSw; (try dsimp only at hSw); go_simp) <;> (with_reducible rfl)
      (try simp only [Act.put, List.setIfInBounds_toArray, List.set_cons_zero, List.set_cons_succ])
      refine wpAnyH_pick 6 (v := ?_) rfl (by kernel_rfl) (by kernel_rfl) (by kernel_rfl) (fun _ _ _ h => h) (by assumption) (by rfl) ?_ ?_
      rotate_left
      · (intro w hSw; (try dsimp only at hSw); go_simp) <;> (with_reducible rfl)
      (try simp only [Act.put, List.setIfInBounds_toArray, List.set_cons_zero, List.set_cons_succ])
      refine wpAnyH_pick 7 (v := ?_) rfl (by kernel_rfl) (by kernel_rfl) (by kernel_rfl) (fun _ _ _ h => h) (by assumption) (by rfl) ?_ ?_
      rotate_left
      · (intro w hSw; (try dsimp only at hSw); go_simp) <;> (with_reducible rfl)
      (try simp only [Act.put, List.setIfInBounds_toArray, List.set_cons_zero, List.set_cons_succ])
      refine wpAnyH_pick 9 (v := ?_) rfl (by kernel_rfl) (by kernel_rfl) (by kernel_rfl) (fun _ _ _ h => h) (by assumption) (by rfl) ?_ ?_
      rotate_left
      · (intro w hSw; (try dsimp only at hSw); go_simp) <;> (with_reducible rfl)
      (try simp only [Act.put, List.setIfInBounds_toArray, List.set_cons_zero, List.set_cons_succ])
      refine wpAnyH_pick 10 (v := ?_) rfl (by kernel_rfl) (by kernel_rfl) (by kernel_rfl) (fun _ _ _ h => h) (by assumption) (by rfl) ?_ ?_
      rotate_left
      · (intro w hSw; (try dsimp only at hSw); go_simp) <;> (with_reducible rfl)
      (try simp only [Act.put, List.setIfInBounds_toArray, List.set_cons_zero, List.set_cons_succ])
      refine wpAnyH_pick 11 (v := ?_) rfl (by kernel_rfl) (by kernel_rfl) (by kernel_rfl) (fun _ _ _ h => h) (by assumption) (by rfl) ?_ ?_
      rotate_left
      · (intro w hSw; (try dsimp only at hSw); go_simp) <;> (with_reducible rfl)
      (try simp only [Act.put, List.setIfInBounds_toArray, List.set_cons_zero, List.set_cons_succ])
      refine wpAnyH_pick 12 (v := ?_) rfl (by kernel_rfl) (by kernel_rfl) (by kernel_rfl) (fun _ _ _ h => h) (by assumption) (by rfl) ?_ ?_
      rotate_left
      · (intro w hSw; (try dsimp only at hSw); go_simp) <;> (with_reducible rfl)
      (try simp only [Act.put, List.setIfInBounds_toArray, List.set_cons_zero, List.set_cons_succ])
      refine wpAnyH_pick 13 (v := ?_) rfl (by kernel_rfl) (by kernel_rfl) (by kernel_rfl) (fun _ _ _ h => h) (by assumption) (by rfl) ?_ ?_
      rotate_left
      · (intro w hSw; (try dsimp only at hSw); go_simp) <;> (with_reducible rfl)
      (try simp only [Act.put, List.setIfInBounds_toArray, List.set_cons_zero, List.set_cons_succ])
      refine wpAnyH_pick 14 (v := ?_) rfl (by kernel_rfl) (by kernel_rfl) (by kernel_rfl) (fun _ _ _ h => h) (by assumption) (by rfl) ?_ ?_
      rotate_left
      · (intro w hSw; (try dsimp only at hSw); go_simp) <;> (with_reducible rfl)
      (try simp only [Act.put, List.setIfInBounds_toArray, List.set_cons_zero, List.set_cons_succ])
      refine wpAnyH_pick 15 (v := ?_) rfl (by kernel_rfl) (by kernel_rfl) (by kernel_rfl) (fun _ _ _ h => h) (by assumption) (by rfl) ?_ ?_
      rotate_left
      · (intro w hSw; (try dsimp only at hSw); go_simp) <;> (with_reducible rfl)
      (try simp only [Act.put, List.setIfInBounds_toArray, List.set_cons_zero, List.set_cons_succ])
      refine wpAnyH_ready (rs := [2]) (by kernel_rfl) (by simp) ?_
      refine AllReadyH_pick rfl (fun K hK => ?_) (AllReadyH.nil)
      go_simp
      refine (HC.out _).mono ?_
      rintro r1 wC ⟨rfl, rfl⟩
      go_wp2_with fail
      refine hK.out _ _ ?_ (fun hHeld => ?_)
      · (repeat' (first | trivial | assumption | refine ⟨?_, ?_⟩))
      clear hK K
      (try simp only [Act.put, List.setIfInBounds_toArray, List.set_cons_zero, List.set_cons_succ])
      refine wpAnyH_ready (rs := [8]) (by kernel_rfl) (by simp) ?_
      refine AllReadyH_pick rfl (fun K hK => ?_) (AllReadyH.nil)
      go_simp
      refine (HP.out _ HBd.out.a).mono ?_
      rintro r1 wP ⟨rfl, D', hLP, hFP, hDP⟩
      have hB2 := HBd.out.stepA hFP hLP hDP
      obtain ⟨-, kbP⟩ := Hcells.out _ hB2.a.fr
      have HB2 := Lib.hid hB2
      clear hB2 hLP hFP hDP
      go_wp2_with fail
      refine hK.out _ _ ?_ (fun hHeld => ?_)
      · (repeat' (first | trivial | assumption | refine ⟨?_, ?_⟩))
      clear hK K
      (try simp only [Act.put, List.setIfInBounds_toArray, List.set_cons_zero, List.set_cons_succ])
      refine wpAnyH_ready (rs := [16]) (by kernel_rfl) (by simp) ?_
      refine AllReadyH_pick rfl (fun K hK => ?_) (AllReadyH.nil)
      go_simp
      refine (HR.out _ HB2.out.b).mono ?_
      rintro r1 wR ⟨rfl, u', hR3, hFR⟩
      have hB3 := HB2.out.stepB hFR hR3
      obtain ⟨-, kbR⟩ := Hcells.out _ hB3.a.fr
      have HB3 := Lib.hid hB3
      clear hB3 hR3 hFR
      go_wp2_with fail
      refine hK.out _ _ ?_ (fun hHeld => ?_)
      · (repeat' (first | trivial | assumption | refine ⟨?_, ?_⟩))
      clear hK K
      (try simp only [Act.put, List.setIfInBounds_toArray, List.set_cons_zero, List.set_cons_succ])
      refine wpAnyH_pick 17 (v := ?_) rfl (by kernel_rfl) (by kernel_rfl) (by kernel_rfl) (fun _ _ _ h => h) (by assumption) (by rfl) ?_ ?_
      rotate_left
      · (intro w hSw; (try dsimp only at hSw); go_simp) <;> (with_reducible rfl)
      (try simp only [Act.put, List.setIfInBounds_toArray, List.set_cons_zero, List.set_cons_succ])
      refine wpAnyH_pick 18 (v := ?_) rfl (by kernel_rfl) (by kernel_rfl) (by kernel_rfl) (fun _ _ _ h => h) (by assumption) (by rfl) ?_ ?_
      rotate_left
      · (intro w hSw; (try dsimp only at hSw); go_simp) <;> (with_reducible rfl)
      (try simp only [Act.put, List.setIfInBounds_toArray, List.set_cons_zero, List.set_cons_succ])
      refine wpAnyH_pick 19 (v := ?_) rfl (by kernel_rfl) (by kernel_rfl) (by kernel_rfl) (fun _ _ _ h => h) (by assumption) (by rfl) ?_ ?_
      rotate_left
      · (intro w hSw; (try dsimp only at hSw); go_simp) <;> (with_reducible rfl)
      (try simp only [Act.put, List.setIfInBounds_toArray, List.set_cons_zero, List.set_cons_succ])
      refine wpAnyH_pick 21 (v := ?_) rfl (by kernel_rfl) (by kernel_rfl) (by kernel_rfl) (fun _ _ _ h => h) (by assumption) (by rfl) ?_ ?_
      rotate_left
      · (intro w hSw; (try dsimp only at hSw); go_simp) <;> (with_reducible rfl)
      (try simp only [Act.put, List.setIfInBounds_toArray, List.set_cons_zero, List.set_cons_succ])
      refine wpAnyH_pick 22 (v := ?_) rfl (by kernel_rfl) (by kernel_rfl) (by kernel_rfl) (fun _ _ _ h => h) (by assumption) (by rfl) ?_ ?_
      rotate_left
      · (intro w hSw; (try dsimp only at hSw); go_simp) <;> (with_reducible rfl)
      (try simp only [Act.put, List.setIfInBounds_toArray, List.set_cons_zero, List.set_cons_succ])
      refine wpAnyH_pick 23 (v := ?_) rfl (by kernel_rfl) (by kernel_rfl) (by kernel_rfl) (fun _ _ _ h => h) (by assumption) (by rfl) ?_ ?_
      rotate_left
      · (intro w hSw; (try dsimp only at hSw); go_simp) <;> (with_reducible rfl)
      (try simp only [Act.put, List.setIfInBounds_toArray, List.set_cons_zero, List.set_cons_succ])
      refine wpAnyH_pick 24 (v := ?_) rfl (by kernel_rfl) (by kernel_rfl) (by kernel_rfl) (fun _ _ _ h => h) (by assumption) (by rfl) ?_ ?_
      rotate_left
      · (intro w hSw; (try dsimp only at hSw); go_simp) <;> (with_reducible rfl)
      (try simp only [Act.put, List.setIfInBounds_toArray, List.set_cons_zero, List.set_cons_succ])
      refine wpAnyH_pick 25 (v := ?_) rfl (by kernel_rfl) (by kernel_rfl) (by kernel_rfl) (fun _ _ _ h => h) (by assumption) (by rfl) ?_ ?_
      rotate_left
      · (intro w hSw; (try dsimp only at hSw); go_simp) <;> (with_reducible rfl)
      (try simp only [Act.put, List.setIfInBounds_toArray, List.set_cons_zero, List.set_cons_succ])
      refine wpAnyH_pick 28 (v := ?_) rfl (by kernel_rfl) (by kernel_rfl) (by kernel_rfl) (fun _ _ _ h => h) (by assumption) (by rfl) ?_ ?_
      rotate_left
      · (intro w hSw; (try dsimp only at hSw); go_simp) <;> (with_reducible rfl)
      (try simp only [Act.put, List.setIfInBounds_toArray, List.set_cons_zero, List.set_cons_succ])
      refine wpAnyH_pick 29 (v := ?_) rfl (by kernel_rfl) (by kernel_rfl) (by kernel_rfl) (fun _ _ _ h => h) (by assumption) (by rfl) ?_ ?_
      rotate_left
      · (intro w hSw; (try dsimp only at hSw); go_simp) <;> (with_reducible rfl)
      (try simp only [Act.put, List.setIfInBounds_toArray, List.set_cons_zero, List.set_cons_succ])
      refine wpAnyH_pick 30 (v := ?_) rfl (by kernel_rfl) (by kernel_rfl) (by kernel_rfl) (fun _ _ _ h => h) (by assumption) (by rfl) ?_ ?_
      rotate_left
      · (intro w hSw; (try dsimp only at hSw); go_simp) <;> (with_reducible rfl)
      (try simp only [Act.put, List.setIfInBounds_toArray, List.set_cons_zero, List.set_cons_succ])
      refine wpAnyH_pick 31 (v := ?_) rfl (by kernel_rfl) (by kernel_rfl) (by kernel_rfl) (fun _ _ _ h => h) (by assumption) (by rfl) ?_ ?_
      rotate_left
      · (intro w hSw; (try dsimp only at hSw); go_simp) <;> (with_reducible rfl)
      (try simp only [Act.put, List.setIfInBounds_toArray, List.set_cons_zero, List.set_cons_succ])
      refine wpAnyH_pick 32 (v := ?_) rfl (by kernel_rfl) (by kernel_rfl) (by kernel_rfl) (fun _ _ _ h => h) (by assumption) (by rfl) ?_ ?_
      rotate_left
      · (intro w hSw; (try dsimp only at hSw); go_simp) <;> (with_reducible rfl)
      (try simp only [Act.put, List.setIfInBounds_toArray, List.set_cons_zero, List.set_cons_succ])
      refine wpAnyH_pick 33 (v := ?_) rfl (by kernel_rfl) (by kernel_rfl) (by kernel_rfl) (fun _ _ _ h => h) (by assumption) (by rfl) ?_ ?_
      rotate_left
      · (intro w hSw; (try dsimp only at hSw); go_simp) <;> (with_reducible rfl)
      (try simp only [Act.put, List.setIfInBounds_toArray, List.set_cons_zero, List.set_cons_succ])
      refine wpAnyH_ready (rs := [20]) (by kernel_rfl) (by simp) ?_
      refine AllReadyH_pick rfl (fun K hK => ?_) (AllReadyH.nil)
      go_simp
      refine (HC.out _).mono ?_
      rintro r1 wC ⟨rfl, rfl⟩
      go_wp2_with fail
      refine hK.out _ _ ?_ (fun hHeld => ?_)
      · (repeat' (first | trivial | assumption | refine ⟨?_, ?_⟩))
      clear hK K
      (try simp only [Act.put, List.setIfInBounds_toArray, List.set_cons_zero, List.set_cons_succ])
      refine wpAnyH_ready (rs := [26]) (by kernel_rfl) (by simp) ?_
      refine AllReadyH_pick rfl (fun K hK => ?_) (AllReadyH.nil)
      go_simp
      refine (HN.out _).mono ?_
      rintro r1 wN ⟨rfl, hFN⟩
      have hB4 := HB3.out.fr0 hFN
      obtain ⟨-, kbN⟩ := Hcells.out _ hB4.a.fr
      have HB4 := Lib.hid hB4
      clear hB4 hFN
      go_wp2_with fail
      refine hK.out _ _ ?_ (fun hHeld => ?_)
      · (repeat' (first | trivial | assumption | refine ⟨?_, ?_⟩))
      clear hK K
      (try simp only [Act.put, List.setIfInBounds_toArray, List.set_cons_zero, List.set_cons_succ])
      refine wpAnyH_pick 27 (v := ?_) rfl (by kernel_rfl) (by kernel_rfl) (by kernel_rfl) (fun _ _ _ h => h) (by assumption) (by rfl) ?_ ?_
      rotate_left
      · (intro w hSw; (try dsimp only at hSw); go_simp) <;> (with_reducible rfl)
      (try simp only [Act.put, List.setIfInBounds_toArray, List.set_cons_zero, List.set_cons_succ])
      refine wpAnyH_ready (rs := [34]) (by kernel_rfl) (by simp) ?_
      refine AllReadyH_pick rfl (fun K hK => ?_) (AllReadyH.nil)
      go_simp
      refine (HRN.out _).mono ?_
      rintro r1 wM ⟨rfl, rfl⟩
      go_wp2_with fail
      refine hK.out _ _ ?_ (fun hHeld => ?_)
      · (repeat' (first | trivial | assumption | refine ⟨?_, ?_⟩))
      clear hK K
      (try simp only [Act.put, List.setIfInBounds_toArray, List.set_cons_zero, List.set_cons_succ])
      refine wpAnyH_pick 35 (v := ?_) rfl (by kernel_rfl) (by kernel_rfl) (by kernel_rfl) (fun _ _ _ h => h) (by assumption) (by rfl) ?_ ?_
      rotate_left
      · (intro w hSw; (try dsimp only at hSw); go_simp) <;> (with_reducible rfl)
      (try simp only [Act.put, List.setIfInBounds_toArray, List.set_cons_zero, List.set_cons_succ])
      refine wpAnyH_pick 36 (v := ?_) rfl (by kernel_rfl) (by kernel_rfl) (by kernel_rfl) (fun _ _ _ h => h) (by assumption) (by rfl) ?_ ?_
      rotate_left
      · (intro w hSw; (try dsimp only at hSw); go_simp) <;> (with_reducible rfl)
      (try simp only [Act.put, List.setIfInBounds_toArray, List.set_cons_zero, List.set_cons_succ])
      refine wpAnyH_done (by kernel_rfl) ?_ _
      skip
      go_upto_region 9 with fail
      clear kb kbP kbR kbN HC HP HR HN HRN HB2 HBd Hcells eE eY eW hC
      have hBd := HB4.out.fr0 (Fr.refl [] wM).drew
      have HBd := Lib.hid hBd
      clear hBd HB4 HB3
      obtain ⟨n', hn'⟩ : ∃ n', n' = e'.n := ⟨_, rfl⟩
      obtain ⟨bs, hbs⟩ : ∃ bs, bs = bytesOf e'.n e'.v := ⟨_, rfl⟩
      have HBy : Hid (∀ W, Both4 X w W p D' e' q u' e' → Calls Try.prog 17 #[pt p] W fun r W' => ∃ v, r = .returned v ∧ Src W' v (bs.map B8) ∧ Both4 X w W' p D' e' q u' e' ∧ Fr [] W W') := Lib.hid fun W hW => by
        refine (bytes_live W p D' e' hW.a (by omega)).mono ?_
        rintro r W' ⟨A, c, rfl, hS, hL, hF⟩
        exact ⟨_, rfl, by rw [hbs]; exact hS, hW.fr0 hF, hF⟩
      have HRy : Hid (∀ W, Both4 X w W p D' e' q u' e' → Calls Try.prog 18 #[pt q] W fun r W' => ∃ v, r = .returned v ∧ Src W' v (bs.map B8) ∧ Both4 X w W' p D' e' q u' e' ∧ Fr [] W W') := Lib.hid fun W hW => by
        refine (rbytes_any q u' e' W hW.b (by omega)).mono ?_
        rintro r W' ⟨v, rfl, hM⟩
        rw [← hbs] at hM
        exact ⟨_, rfl, hM.src, hW.fr0 hM.fr, hM.fr⟩
      clear hbs hn'
      by_cases h20 : i % 20 = 0
      · have e20 : ((i : Int).tmod 20 == 0) = true := by
          rw [Int.tmod_eq_emod_of_nonneg (by omega)]
          simp
          omega
        clear h20
        refine wp_region_held_drew (S := fun _ => True) (by kernel_rfl) ?_ (fun hHeld => ?_)
        · trivial
        refine wpAnyH_pick 0 (v := ?_) rfl (by kernel_rfl) (by kernel_rfl) (by kernel_rfl) (fun _ _ _ h => h) (by assumption) (by rfl) ?_ ?_
        rotate_left
        · (intro w hSw; (try dsimp only at hSw); go_simp) <;> (with_reducible rfl)
        (try simp only [Act.put, List.setIfInBounds_toArray, List.set_cons_zero, List.set_cons_succ])
        refine wpAnyH_pick 1 (v := ?_) rfl (by kernel_rfl) (by kernel_rfl) (by kernel_rfl) (fun _ _ _ h => h) (by assumption) (by rfl) ?_ ?_
        rotate_left
        · (intro w hSw; (try dsimp only at hSw); go_simp) <;> (with_reducible rfl)
        (try simp only [Act.put, List.setIfInBounds_toArray, List.set_cons_zero, List.set_cons_succ])
        refine wpAnyH_pick 2 (v := ?_) rfl (by kernel_rfl) (by kernel_rfl) (by kernel_rfl) (fun _ _ _ h => h) (by assumption) (by rfl) ?_ ?_
        rotate_left
        · (intro w hSw; (try dsimp only at hSw); go_simp) <;> (with_reducible rfl)
        (try simp only [Act.put, List.setIfInBounds_toArray, List.set_cons_zero, List.set_cons_succ])
        refine wpAnyH_pick 3 (v := ?_) rfl (by kernel_rfl) (by kernel_rfl) (by kernel_rfl) (fun _ _ _ h => h) (by assumption) (by rfl) ?_ ?_
        rotate_left
        · (intro w hSw; (try dsimp only at hSw); go_simp) <;> (with_reducible rfl)
        (try simp only [Act.put, List.setIfInBounds_toArray, List.set_cons_zero, List.set_cons_succ])
        refine wpAnyH_skip 4 rfl (by kernel_rfl) (by kernel_rfl) (by kernel_rfl) (fun _ _ _ h => h) (by assumption) (by rfl) ?_
        (try simp only [Act.put, List.setIfInBounds_toArray, List.set_cons_zero, List.set_cons_succ])
        refine wpAnyH_skip 5 rfl (by kernel_rfl) (by kernel_rfl) (by kernel_rfl) (fun _ _ _ h => h) (by assumption) (by rfl) ?_
        (try simp only [Act.put, List.setIfInBounds_toArray, List.set_cons_zero, List.set_cons_succ])
        refine wpAnyH_skip 6 rfl (by kernel_rfl) (by kernel_rfl) (by kernel_rfl) (fun _ _ _ h => h) (by assumption) (by rfl) ?_
        (try simp only [Act.put, List.setIfInBounds_toArray, List.set_cons_zero, List.set_cons_succ])
        refine wpAnyH_skip 7 rfl (by kernel_rfl) (by kernel_rfl) (by kernel_rfl) (fun _ _ _ h => h) (by assumption) (by rfl) ?_
        (try simp only [Act.put, List.setIfInBounds_toArray, List.set_cons_zero, List.set_cons_succ])
        refine wpAnyH_skip 8 rfl (by kernel_rfl) (by kernel_rfl) (by kernel_rfl) (fun _ _ _ h => h) (by assumption) (by rfl) ?_
        (try simp only [Act.put, List.setIfInBounds_toArray, List.set_cons_zero, List.set_cons_succ])
        refine wpAnyH_pick 9 (v := ?_) rfl (by kernel_rfl) (by kernel_rfl) (by kernel_rfl) (fun _ _ _ h => h) (by assumption) (by rfl) ?_ ?_
        rotate_left
        · (intro w hSw; (try dsimp only at hSw); go_simp) <;> (with_reducible rfl)
        (try simp only [Act.put, List.setIfInBounds_toArray, List.set_cons_zero, List.set_cons_succ])
        refine wpAnyH_pick 10 (v := ?_) rfl (by kernel_rfl) (by kernel_rfl) (by kernel_rfl) (fun _ _ _ h => h) (by assumption) (by rfl) ?_ ?_
        rotate_left
        · (intro w hSw; (try dsimp only at hSw); go_simp) <;> (with_reducible rfl)
        (try simp only [Act.put, List.setIfInBounds_toArray, List.set_cons_zero, List.set_cons_succ])
        refine wpAnyH_pick 11 (v := ?_) rfl (by kernel_rfl) (by kernel_rfl) (by kernel_rfl) (fun _ _ _ h => h) (by assumption) (by rfl) ?_ ?_
        rotate_left
        · (intro w hSw; (try dsimp only at hSw); go_simp) <;> (with_reducible rfl)
        (try simp only [Act.put, List.setIfInBounds_toArray, List.set_cons_zero, List.set_cons_succ])
        refine wpAnyH_pick 14 (v := ?_) rfl (by kernel_rfl) (by kernel_rfl) (by kernel_rfl) (fun _ _ _ h => h) (by assumption) (by rfl) ?_ ?_
        rotate_left
        · (intro w hSw; (try dsimp only at hSw); go_simp) <;> (with_reducible rfl)
        (try simp only [Act.put, List.setIfInBounds_toArray, List.set_cons_zero, List.set_cons_succ])
        refine wpAnyH_ready (rs := [12]) (by kernel_rfl) (by simp) ?_
        refine AllReadyH_pick rfl (fun K hK => ?_) (AllReadyH.nil)
        go_simp
        refine (HBy.out _ HBd.out).mono ?_
        rintro r1 wB ⟨vB, rfl, hSB, hBB, hFB⟩
        have HBB := Lib.hid hBB; clear hBB
        have sB := run_cv hSB
        go_wp2_with fail
        refine hK.out _ _ ?_ (fun hHeld => ?_)
        · trivial
        clear hK K
        (try simp only [Act.put, List.setIfInBounds_toArray, List.set_cons_zero, List.set_cons_succ])
        refine wpAnyH_add (fun W => (cv vB).run Try.prog W = .ok (.string (strOf bs)) W) _ _ _ _ ?_
        have hHeld2 := And.intro hHeld sB
        refine wpAnyH_pick 13 (v := ?_) rfl (by kernel_rfl) (by kernel_rfl) (by kernel_rfl) (fun _ _ _ h => h) (by assumption) (by rfl) ?_ ?_
        rotate_left
        · (intro w hSw; (try dsimp only at hSw); go_simp) <;> (with_reducible rfl)
        (try simp only [Act.put, List.setIfInBounds_toArray, List.set_cons_zero, List.set_cons_succ])
        refine wpAnyH_ready (rs := [15]) (by kernel_rfl) (by simp) ?_
        refine AllReadyH_pick rfl (fun K hK => ?_) (AllReadyH.nil)
        go_simp
        refine (HRy.out _ HBB.out).mono ?_
        rintro r1 wR ⟨vR, rfl, hSR, hBR, hFR⟩
        have HBR := Lib.hid hBR; clear hBR
        have sB2 := run_cv (hSB.fr0 hFR)
        have sR := run_cv hSR
        go_wp2_with fail
        refine hK.out _ _ ?_ (fun hHeld => ?_)
        · trivial
        clear hK K
        (try simp only [Act.put, List.setIfInBounds_toArray, List.set_cons_zero, List.set_cons_succ])
        refine wpAnyH_add (fun W => (cv vR).run Try.prog W = .ok (.string (strOf bs)) W) _ _ _ _ ?_
        have hHeld2 := And.intro hHeld sR
        refine wpAnyH_pick 16 (v := ?_) rfl (by kernel_rfl) (by kernel_rfl) (by kernel_rfl) (fun _ _ _ h => h) (by assumption) (by rfl) ?_ ?_
        rotate_left
        · (intro w hSw; (try dsimp only at hSw); go_simp) <;> (with_reducible rfl)
        (try simp only [Act.put, List.setIfInBounds_toArray, List.set_cons_zero, List.set_cons_succ])
        refine wpAnyH_pick 17 (v := ?_) rfl (by kernel_rfl) (by kernel_rfl) (by kernel_rfl) (fun _ _ _ h => h) (by assumption) (by rfl) ?_ ?_
        rotate_left
        · (intro w hSw; (try dsimp only at hSw); go_simp) <;> (with_reducible rfl)
        (try simp only [Act.put, List.setIfInBounds_toArray, List.set_cons_zero, List.set_cons_succ])
        refine wpAnyH_pick 18 (v := ?_) rfl (by kernel_rfl) (by kernel_rfl) (by kernel_rfl) (fun _ _ _ h => h) (by assumption) (by rfl) ?_ ?_
        rotate_left
        · (intro w hSw; (try dsimp only at hSw); go_simp) <;> (with_reducible rfl)
        (try simp only [Act.put, List.setIfInBounds_toArray, List.set_cons_zero, List.set_cons_succ])
        refine wpAnyH_done (by kernel_rfl) ?_ _
        skip
        go_wp2_with fail
        exact ⟨⟨i + 1, D', e', u', by omega, by omega, hen2, by simp, HBR.out⟩, by simp [intOf]; omega⟩
      · have e20 : ((i : Int).tmod 20 == 0) = false := by
          rw [Int.tmod_eq_emod_of_nonneg (by omega)]
          simp
          omega
        have eS : IntKind.i64.wrap ((len : Int) - 1) = (len : Int) - 1 := IntWalk.i64_in _ (by omega)
        by_cases hlast : i = len - 1
        · have e8 : ((i : Int) == (len : Int) - 1) = true := by simp; omega
          clear hlast h20
          refine wp_region_held_drew (S := fun _ => True) (by kernel_rfl) ?_ (fun hHeld => ?_)
          · trivial
          refine wpAnyH_pick 0 (v := ?_) rfl (by kernel_rfl) (by kernel_rfl) (by kernel_rfl) (fun _ _ _ h => h) (by assumption) (by rfl) ?_ ?_
          rotate_left
          · (intro w hSw; (try dsimp only at hSw); go_simp) <;> (with_reducible rfl)
          (try simp only [Act.put, List.setIfInBounds_toArray, List.set_cons_zero, List.set_cons_succ])
          refine wpAnyH_pick 1 (v := ?_) rfl (by kernel_rfl) (by kernel_rfl) (by kernel_rfl) (fun _ _ _ h => h) (by assumption) (by rfl) ?_ ?_
          rotate_left
          · (intro w hSw; (try dsimp only at hSw); go_simp) <;> (with_reducible rfl)
          (try simp only [Act.put, List.setIfInBounds_toArray, List.set_cons_zero, List.set_cons_succ])
          refine wpAnyH_pick 2 (v := ?_) rfl (by kernel_rfl) (by kernel_rfl) (by kernel_rfl) (fun _ _ _ h => h) (by assumption) (by rfl) ?_ ?_
          rotate_left
          · (intro w hSw; (try dsimp only at hSw); go_simp) <;> (with_reducible rfl)
          (try simp only [Act.put, List.setIfInBounds_toArray, List.set_cons_zero, List.set_cons_succ])
          refine wpAnyH_pick 3 (v := ?_) rfl (by kernel_rfl) (by kernel_rfl) (by kernel_rfl) (fun _ _ _ h => h) (by assumption) (by rfl) ?_ ?_
          rotate_left
          · (intro w hSw; (try dsimp only at hSw); go_simp) <;> (with_reducible rfl)
          (try simp only [Act.put, List.setIfInBounds_toArray, List.set_cons_zero, List.set_cons_succ])
          refine wpAnyH_pick 4 (v := ?_) rfl (by kernel_rfl) (by kernel_rfl) (by kernel_rfl) (fun _ _ _ h => h) (by assumption) (by rfl) ?_ ?_
          rotate_left
          · (intro w hSw; (try dsimp only at hSw); go_simp) <;> (with_reducible rfl)
          (try simp only [Act.put, List.setIfInBounds_toArray, List.set_cons_zero, List.set_cons_succ])
          refine wpAnyH_pick 5 (v := ?_) rfl (by kernel_rfl) (by kernel_rfl) (by kernel_rfl) (fun _ _ _ h => h) (by assumption) (by rfl) ?_ ?_
          rotate_left
          · (intro w hSw; (try dsimp only at hSw); go_simp) <;> (with_reducible rfl)
          (try simp only [Act.put, List.setIfInBounds_toArray, List.set_cons_zero, List.set_cons_succ])
          refine wpAnyH_pick 6 (v := ?_) rfl (by kernel_rfl) (by kernel_rfl) (by kernel_rfl) (fun _ _ _ h => h) (by assumption) (by rfl) ?_ ?_
          rotate_left
          · (intro w hSw; (try dsimp only at hSw); go_simp) <;> (with_reducible rfl)
          (try simp only [Act.put, List.setIfInBounds_toArray, List.set_cons_zero, List.set_cons_succ])
          refine wpAnyH_pick 7 (v := ?_) rfl (by kernel_rfl) (by kernel_rfl) (by kernel_rfl) (fun _ _ _ h => h) (by assumption) (by rfl) ?_ ?_
          rotate_left
          · (intro w hSw; (try dsimp only at hSw); go_simp) <;> (with_reducible rfl)
          (try simp only [Act.put, List.setIfInBounds_toArray, List.set_cons_zero, List.set_cons_succ])
          refine wpAnyH_pick 8 (v := ?_) rfl (by kernel_rfl) (by kernel_rfl) (by kernel_rfl) (fun _ _ _ h => h) (by assumption) (by rfl) ?_ ?_
          rotate_left
          · (intro w hSw; (try dsimp only at hSw); go_simp) <;> (with_reducible rfl)
          (try simp only [Act.put, List.setIfInBounds_toArray, List.set_cons_zero, List.set_cons_succ])
          refine wpAnyH_pick 9 (v := ?_) rfl (by kernel_rfl) (by kernel_rfl) (by kernel_rfl) (fun _ _ _ h => h) (by assumption) (by rfl) ?_ ?_
          rotate_left
          · (intro w hSw; (try dsimp only at hSw); go_simp) <;> (with_reducible rfl)
          (try simp only [Act.put, List.setIfInBounds_toArray, List.set_cons_zero, List.set_cons_succ])
          refine wpAnyH_pick 10 (v := ?_) rfl (by kernel_rfl) (by kernel_rfl) (by kernel_rfl) (fun _ _ _ h => h) (by assumption) (by rfl) ?_ ?_
          rotate_left
          · (intro w hSw; (try dsimp only at hSw); go_simp) <;> (with_reducible rfl)
          (try simp only [Act.put, List.setIfInBounds_toArray, List.set_cons_zero, List.set_cons_succ])
          refine wpAnyH_pick 11 (v := ?_) rfl (by kernel_rfl) (by kernel_rfl) (by kernel_rfl) (fun _ _ _ h => h) (by assumption) (by rfl) ?_ ?_
          rotate_left
          · (intro w hSw; (try dsimp only at hSw); go_simp) <;> (with_reducible rfl)
          (try simp only [Act.put, List.setIfInBounds_toArray, List.set_cons_zero, List.set_cons_succ])
          refine wpAnyH_pick 14 (v := ?_) rfl (by kernel_rfl) (by kernel_rfl) (by kernel_rfl) (fun _ _ _ h => h) (by assumption) (by rfl) ?_ ?_
          rotate_left
          · (intro w hSw; (try dsimp only at hSw); go_simp) <;> (with_reducible rfl)
          (try simp only [Act.put, List.setIfInBounds_toArray, List.set_cons_zero, List.set_cons_succ])
          refine wpAnyH_ready (rs := [12]) (by kernel_rfl) (by simp) ?_
          refine AllReadyH_pick rfl (fun K hK => ?_) (AllReadyH.nil)
          go_simp
          refine (HBy.out _ HBd.out).mono ?_
          rintro r1 wB ⟨vB, rfl, hSB, hBB, hFB⟩
          have HBB := Lib.hid hBB; clear hBB
          have sB := run_cv hSB
          go_wp2_with fail
          refine hK.out _ _ ?_ (fun hHeld => ?_)
          · trivial
          clear hK K
          (try simp only [Act.put, List.setIfInBounds_toArray, List.set_cons_zero, List.set_cons_succ])
          refine wpAnyH_add (fun W => (cv vB).run Try.prog W = .ok (.string (strOf bs)) W) _ _ _ _ ?_
          have hHeld2 := And.intro hHeld sB
          refine wpAnyH_pick 13 (v := ?_) rfl (by kernel_rfl) (by kernel_rfl) (by kernel_rfl) (fun _ _ _ h => h) (by assumption) (by rfl) ?_ ?_
          rotate_left
          · (intro w hSw; (try dsimp only at hSw); go_simp) <;> (with_reducible rfl)
          (try simp only [Act.put, List.setIfInBounds_toArray, List.set_cons_zero, List.set_cons_succ])
          refine wpAnyH_ready (rs := [15]) (by kernel_rfl) (by simp) ?_
          refine AllReadyH_pick rfl (fun K hK => ?_) (AllReadyH.nil)
          go_simp
          refine (HRy.out _ HBB.out).mono ?_
          rintro r1 wR ⟨vR, rfl, hSR, hBR, hFR⟩
          have HBR := Lib.hid hBR; clear hBR
          have sB2 := run_cv (hSB.fr0 hFR)
          have sR := run_cv hSR
          go_wp2_with fail
          refine hK.out _ _ ?_ (fun hHeld => ?_)
          · trivial
          clear hK K
          (try simp only [Act.put, List.setIfInBounds_toArray, List.set_cons_zero, List.set_cons_succ])
          refine wpAnyH_add (fun W => (cv vR).run Try.prog W = .ok (.string (strOf bs)) W) _ _ _ _ ?_
          have hHeld2 := And.intro hHeld sR
          refine wpAnyH_pick 16 (v := ?_) rfl (by kernel_rfl) (by kernel_rfl) (by kernel_rfl) (fun _ _ _ h => h) (by assumption) (by rfl) ?_ ?_
          rotate_left
          · (intro w hSw; (try dsimp only at hSw); go_simp) <;> (with_reducible rfl)
          (try simp only [Act.put, List.setIfInBounds_toArray, List.set_cons_zero, List.set_cons_succ])
          refine wpAnyH_pick 17 (v := ?_) rfl (by kernel_rfl) (by kernel_rfl) (by kernel_rfl) (fun _ _ _ h => h) (by assumption) (by rfl) ?_ ?_
          rotate_left
          · (intro w hSw; (try dsimp only at hSw); go_simp) <;> (with_reducible rfl)
          (try simp only [Act.put, List.setIfInBounds_toArray, List.set_cons_zero, List.set_cons_succ])
          refine wpAnyH_pick 18 (v := ?_) rfl (by kernel_rfl) (by kernel_rfl) (by kernel_rfl) (fun _ _ _ h => h) (by assumption) (by rfl) ?_ ?_
          rotate_left
          · (intro w hSw; (try dsimp only at hSw); go_simp) <;> (with_reducible rfl)
          (try simp only [Act.put, List.setIfInBounds_toArray, List.set_cons_zero, List.set_cons_succ])
          refine wpAnyH_done (by kernel_rfl) ?_ _
          skip
          go_wp2_with fail
          exact ⟨⟨i + 1, D', e', u', by omega, by omega, hen2, by simp, HBR.out⟩, by simp [intOf]; omega⟩
        · have e8 : ((i : Int) == (len : Int) - 1) = false := by simp; omega
          clear hlast h20
          refine wp_region_held_drew (S := fun _ => True) (by kernel_rfl) ?_ (fun hHeld => ?_)
          · trivial
          refine wpAnyH_pick 0 (v := ?_) rfl (by kernel_rfl) (by kernel_rfl) (by kernel_rfl) (fun _ _ _ h => h) (by assumption) (by rfl) ?_ ?_
          rotate_left
          · (intro w hSw; (try dsimp only at hSw); go_simp) <;> (with_reducible rfl)
          (try simp only [Act.put, List.setIfInBounds_toArray, List.set_cons_zero, List.set_cons_succ])
          refine wpAnyH_pick 1 (v := ?_) rfl (by kernel_rfl) (by kernel_rfl) (by kernel_rfl) (fun _ _ _ h => h) (by assumption) (by rfl) ?_ ?_
          rotate_left
          · (intro w hSw; (try dsimp only at hSw); go_simp) <;> (with_reducible rfl)
          (try simp only [Act.put, List.setIfInBounds_toArray, List.set_cons_zero, List.set_cons_succ])
          refine wpAnyH_pick 2 (v := ?_) rfl (by kernel_rfl) (by kernel_rfl) (by kernel_rfl) (fun _ _ _ h => h) (by assumption) (by rfl) ?_ ?_
          rotate_left
          · (intro w hSw; (try dsimp only at hSw); go_simp) <;> (with_reducible rfl)
          (try simp only [Act.put, List.setIfInBounds_toArray, List.set_cons_zero, List.set_cons_succ])
          refine wpAnyH_pick 3 (v := ?_) rfl (by kernel_rfl) (by kernel_rfl) (by kernel_rfl) (fun _ _ _ h => h) (by assumption) (by rfl) ?_ ?_
          rotate_left
          · (intro w hSw; (try dsimp only at hSw); go_simp) <;> (with_reducible rfl)
          (try simp only [Act.put, List.setIfInBounds_toArray, List.set_cons_zero, List.set_cons_succ])
          refine wpAnyH_pick 4 (v := ?_) rfl (by kernel_rfl) (by kernel_rfl) (by kernel_rfl) (fun _ _ _ h => h) (by assumption) (by rfl) ?_ ?_
          rotate_left
          · (intro w hSw; (try dsimp only at hSw); go_simp) <;> (with_reducible rfl)
          (try simp only [Act.put, List.setIfInBounds_toArray, List.set_cons_zero, List.set_cons_succ])
          refine wpAnyH_pick 5 (v := ?_) rfl (by kernel_rfl) (by kernel_rfl) (by kernel_rfl) (fun _ _ _ h => h) (by assumption) (by rfl) ?_ ?_
          rotate_left
          · (intro w hSw; (try dsimp only at hSw); go_simp) <;> (with_reducible rfl)
          (try simp only [Act.put, List.setIfInBounds_toArray, List.set_cons_zero, List.set_cons_succ])
          refine wpAnyH_pick 6 (v := ?_) rfl (by kernel_rfl) (by kernel_rfl) (by kernel_rfl) (fun _ _ _ h => h) (by assumption) (by rfl) ?_ ?_
          rotate_left
          · (intro w hSw; (try dsimp only at hSw); go_simp) <;> (with_reducible rfl)
          (try simp only [Act.put, List.setIfInBounds_toArray, List.set_cons_zero, List.set_cons_succ])
          refine wpAnyH_pick 7 (v := ?_) rfl (by kernel_rfl) (by kernel_rfl) (by kernel_rfl) (fun _ _ _ h => h) (by assumption) (by rfl) ?_ ?_
          rotate_left
          · (intro w hSw; (try dsimp only at hSw); go_simp) <;> (with_reducible rfl)
          (try simp only [Act.put, List.setIfInBounds_toArray, List.set_cons_zero, List.set_cons_succ])
          refine wpAnyH_pick 8 (v := ?_) rfl (by kernel_rfl) (by kernel_rfl) (by kernel_rfl) (fun _ _ _ h => h) (by assumption) (by rfl) ?_ ?_
          rotate_left
          · (intro w hSw; (try dsimp only at hSw); go_simp) <;> (with_reducible rfl)
          (try simp only [Act.put, List.setIfInBounds_toArray, List.set_cons_zero, List.set_cons_succ])
          refine wpAnyH_pick 9 (v := ?_) rfl (by kernel_rfl) (by kernel_rfl) (by kernel_rfl) (fun _ _ _ h => h) (by assumption) (by rfl) ?_ ?_
          rotate_left
          · (intro w hSw; (try dsimp only at hSw); go_simp) <;> (with_reducible rfl)
          (try simp only [Act.put, List.setIfInBounds_toArray, List.set_cons_zero, List.set_cons_succ])
          refine wpAnyH_pick 10 (v := ?_) rfl (by kernel_rfl) (by kernel_rfl) (by kernel_rfl) (fun _ _ _ h => h) (by assumption) (by rfl) ?_ ?_
          rotate_left
          · (intro w hSw; (try dsimp only at hSw); go_simp) <;> (with_reducible rfl)
          (try simp only [Act.put, List.setIfInBounds_toArray, List.set_cons_zero, List.set_cons_succ])
          refine wpAnyH_skip 11 rfl (by kernel_rfl) (by kernel_rfl) (by kernel_rfl) (fun _ _ _ h => h) (by assumption) (by rfl) ?_
          (try simp only [Act.put, List.setIfInBounds_toArray, List.set_cons_zero, List.set_cons_succ])
          refine wpAnyH_skip 12 rfl (by kernel_rfl) (by kernel_rfl) (by kernel_rfl) (fun _ _ _ h => h) (by assumption) (by rfl) ?_
          (try simp only [Act.put, List.setIfInBounds_toArray, List.set_cons_zero, List.set_cons_succ])
          refine wpAnyH_skip 13 rfl (by kernel_rfl) (by kernel_rfl) (by kernel_rfl) (fun _ _ _ h => h) (by assumption) (by rfl) ?_
          (try simp only [Act.put, List.setIfInBounds_toArray, List.set_cons_zero, List.set_cons_succ])
          refine wpAnyH_skip 14 rfl (by kernel_rfl) (by kernel_rfl) (by kernel_rfl) (fun _ _ _ h => h) (by assumption) (by rfl) ?_
          (try simp only [Act.put, List.setIfInBounds_toArray, List.set_cons_zero, List.set_cons_succ])
          refine wpAnyH_skip 15 rfl (by kernel_rfl) (by kernel_rfl) (by kernel_rfl) (fun _ _ _ h => h) (by assumption) (by rfl) ?_
          (try simp only [Act.put, List.setIfInBounds_toArray, List.set_cons_zero, List.set_cons_succ])
          refine wpAnyH_skip 16 rfl (by kernel_rfl) (by kernel_rfl) (by kernel_rfl) (fun _ _ _ h => h) (by assumption) (by rfl) ?_
          (try simp only [Act.put, List.setIfInBounds_toArray, List.set_cons_zero, List.set_cons_succ])
          refine wpAnyH_skip 17 rfl (by kernel_rfl) (by kernel_rfl) (by kernel_rfl) (fun _ _ _ h => h) (by assumption) (by rfl) ?_
          (try simp only [Act.put, List.setIfInBounds_toArray, List.set_cons_zero, List.set_cons_succ])
          refine wpAnyH_pick 18 (v := ?_) rfl (by kernel_rfl) (by kernel_rfl) (by kernel_rfl) (fun _ _ _ h => h) (by assumption) (by rfl) ?_ ?_
          rotate_left
          · (intro w hSw; (try dsimp only at hSw); go_simp) <;> (with_reducible rfl)
          (try simp only [Act.put, List.setIfInBounds_toArray, List.set_cons_zero, List.set_cons_succ])
          refine wpAnyH_done (by kernel_rfl) ?_ _
          skip
          go_wp2_with fail
          exact ⟨⟨i + 1, D', e', u', by omega, by omega, hen2, by simp, HBd.out⟩, by simp [intOf]; omega⟩
    · have hex : (decide (i < len) = false) ∨ (decide (i < len) = true ∧ decide ((i : Int) < 400) = false) := by
        by_cases h1 : i < len
        · exact .inr ⟨by simpa using h1, by simp; omega⟩
        · exact .inl (by simpa using h1)
      have hBd := HBr.out.fr0 (Fr.refl [] wr).drew
      have HBd := Lib.hid hBd
      obtain ⟨bs, hbs⟩ : ∃ bs, bs = bytesOf e.n e.v := ⟨_, rfl⟩
      have HBy : Hid (∀ W, Both4 X w W p D e q u e → Calls Try.prog 17 #[pt p] W fun r W' => ∃ v, r = .returned v ∧ Src W' v (bs.map B8) ∧ Both4 X w W' p D e q u e ∧ Fr [] W W') := Lib.hid fun W hW => by
        refine (bytes_live W p D e hW.a (by omega)).mono ?_
        rintro r W' ⟨A, c, rfl, hS, hL, hF⟩
        exact ⟨_, rfl, by rw [hbs]; exact hS, hW.fr0 hF, hF⟩
      have HRy : Hid (∀ W, Both4 X w W p D e q u e → Calls Try.prog 18 #[pt q] W fun r W' => ∃ v, r = .returned v ∧ Src W' v (bs.map B8) ∧ Both4 X w W' p D e q u e ∧ Fr [] W W') := Lib.hid fun W hW => by
        refine (rbytes_any q u e W hW.b (by omega)).mono ?_
        rintro r W' ⟨v, rfl, hM⟩
        rw [← hbs] at hM
        exact ⟨_, rfl, hM.src, hW.fr0 hM.fr, hM.fr⟩
      clear hbs hBd HBr hlt2 hi1 hi2
      rcases hex with eg1 | ⟨eg1, eg2⟩
      all_goals
        go_upto_region 11 with fail
        refine wp_region_held_drew (S := fun _ => True) (by kernel_rfl) ?_ (fun hHeld => ?_)
        · trivial
        refine wpAnyH_ready (rs := [0]) (by kernel_rfl) (by simp) ?_
        refine AllReadyH_pick rfl (fun K hK => ?_) (AllReadyH.nil)
        go_simp
        refine (alive4_any X Y N _).mono ?_
        rintro r1 wL ⟨rfl, hFL⟩
        have HBL := Lib.hid (HBd.out.fr0 hFL)
        clear hFL
        go_wp2_with fail
        refine hK.out _ _ ?_ (fun hHeld => ?_)
        · trivial
        clear hK K
        (try simp only [Act.put, List.setIfInBounds_toArray, List.set_cons_zero, List.set_cons_succ])
        refine wpAnyH_pick 1 (v := ?_) rfl (by kernel_rfl) (by kernel_rfl) (by kernel_rfl) (fun _ _ _ h => h) (by assumption) (by rfl) ?_ ?_
        rotate_left
        · (intro w hSw; (try dsimp only at hSw); go_simp) <;> (with_reducible rfl)
        (try simp only [Act.put, List.setIfInBounds_toArray, List.set_cons_zero, List.set_cons_succ])
        refine wpAnyH_pick 2 (v := ?_) rfl (by kernel_rfl) (by kernel_rfl) (by kernel_rfl) (fun _ _ _ h => h) (by assumption) (by rfl) ?_ ?_
        rotate_left
        · (intro w hSw; (try dsimp only at hSw); go_simp) <;> (with_reducible rfl)
        (try simp only [Act.put, List.setIfInBounds_toArray, List.set_cons_zero, List.set_cons_succ])
        refine wpAnyH_pick 5 (v := ?_) rfl (by kernel_rfl) (by kernel_rfl) (by kernel_rfl) (fun _ _ _ h => h) (by assumption) (by rfl) ?_ ?_
        rotate_left
        · (intro w hSw; (try dsimp only at hSw); go_simp) <;> (with_reducible rfl)
        (try simp only [Act.put, List.setIfInBounds_toArray, List.set_cons_zero, List.set_cons_succ])
        refine wpAnyH_ready (rs := [3]) (by kernel_rfl) (by simp) ?_
        refine AllReadyH_pick rfl (fun K hK => ?_) (AllReadyH.nil)
        go_simp
        refine (HBy.out _ HBL.out).mono ?_
        rintro r1 wB ⟨vB, rfl, hSB, hBB, hFB⟩
        have HBB := Lib.hid hBB; clear hBB
        have sB := run_cv hSB
        go_wp2_with fail
        refine hK.out _ _ ?_ (fun hHeld => ?_)
        · trivial
        clear hK K
        (try simp only [Act.put, List.setIfInBounds_toArray, List.set_cons_zero, List.set_cons_succ])
        refine wpAnyH_add (fun W => (cv vB).run Try.prog W = .ok (.string (strOf bs)) W) _ _ _ _ ?_
        have hHeld2 := And.intro hHeld sB
        refine wpAnyH_pick 4 (v := ?_) rfl (by kernel_rfl) (by kernel_rfl) (by kernel_rfl) (fun _ _ _ h => h) (by assumption) (by rfl) ?_ ?_
        rotate_left
        · (intro w hSw; (try dsimp only at hSw); go_simp) <;> (with_reducible rfl)
        (try simp only [Act.put, List.setIfInBounds_toArray, List.set_cons_zero, List.set_cons_succ])
        refine wpAnyH_ready (rs := [6]) (by kernel_rfl) (by simp) ?_
        refine AllReadyH_pick rfl (fun K hK => ?_) (AllReadyH.nil)
        go_simp
        refine (HRy.out _ HBB.out).mono ?_
        rintro r1 wR ⟨vR, rfl, hSR, hBR, hFR⟩
        have HBR := Lib.hid hBR; clear hBR
        have sB2 := run_cv (hSB.fr0 hFR)
        have sR := run_cv hSR
        go_wp2_with fail
        refine hK.out _ _ ?_ (fun hHeld => ?_)
        · trivial
        clear hK K
        (try simp only [Act.put, List.setIfInBounds_toArray, List.set_cons_zero, List.set_cons_succ])
        refine wpAnyH_add (fun W => (cv vR).run Try.prog W = .ok (.string (strOf bs)) W) _ _ _ _ ?_
        have hHeld2 := And.intro hHeld sR
        refine wpAnyH_pick 7 (v := ?_) rfl (by kernel_rfl) (by kernel_rfl) (by kernel_rfl) (fun _ _ _ h => h) (by assumption) (by rfl) ?_ ?_
        rotate_left
        · (intro w hSw; (try dsimp only at hSw); go_simp) <;> (with_reducible rfl)
        (try simp only [Act.put, List.setIfInBounds_toArray, List.set_cons_zero, List.set_cons_succ])
        refine wpAnyH_pick 8 (v := ?_) rfl (by kernel_rfl) (by kernel_rfl) (by kernel_rfl) (fun _ _ _ h => h) (by assumption) (by rfl) ?_ ?_
        rotate_left
        · (intro w hSw; (try dsimp only at hSw); go_simp) <;> (with_reducible rfl)
        (try simp only [Act.put, List.setIfInBounds_toArray, List.set_cons_zero, List.set_cons_succ])
        refine wpAnyH_pick 9 (v := ?_) rfl (by kernel_rfl) (by kernel_rfl) (by kernel_rfl) (fun _ _ _ h => h) (by assumption) (by rfl) ?_ ?_
        rotate_left
        · (intro w hSw; (try dsimp only at hSw); go_simp) <;> (with_reducible rfl)
        (try simp only [Act.put, List.setIfInBounds_toArray, List.set_cons_zero, List.set_cons_succ])
        refine wpAnyH_pick 10 (v := ?_) rfl (by kernel_rfl) (by kernel_rfl) (by kernel_rfl) (fun _ _ _ h => h) (by assumption) (by rfl) ?_ ?_
        rotate_left
        · (intro w hSw; (try dsimp only at hSw); go_simp) <;> (with_reducible rfl)
        (try simp only [Act.put, List.setIfInBounds_toArray, List.set_cons_zero, List.set_cons_succ])
        refine wpAnyH_done (by kernel_rfl) ?_ _
        skip
        go_wp2_with fail
        go_ret
        exact ⟨rfl, HBR.out.a.fr⟩
end Go.Proofs.Ytfnmplipbgdniaa
