/-
  The law CoderShort answers true whatever its input, out of the coder's contracts; no condition.
-/
import Derived.Test.YtfnmplipbgdniaaDLive
namespace Go.Proofs.Ytfnmplipbgdniaa
open Go.RowKit

/-- Zeros put with the chance that follows them. -/
def zst : Nat → Nat × Enc
  | 0 => (1024, encNew)
  | k + 1 => (nextC (zst k).1 false, encPut (zst k).2 (zst k).1 false)
theorem zst_right : ∀ k, rightC (zst k).1
  | 0 => by decide
  | k + 1 => by show rightC (nextC (zst k).1 false); exact nextC_right _ _
theorem zst_ok : ∀ k, (zst k).2.Ok
  | 0 => encNew_ok
  | k + 1 => encPut_ok (zst_ok k) (zst_right k) false
theorem zfine_spec : ∀ (k j i : Nat), zerosFine k (j + i) (zst (j + i)).1 (zst (j + i)).2.r (zst (j + i)).2.n = true → ∀ m, m < k → (zst (j + i + m)).2.n ≤ 13 + (j + i + m) / 300
  | 0, _, _, _, m, hm => by omega
  | k + 1, j, i, h, m, hm => by
    simp only [zerosFine, Bool.and_eq_true, decide_eq_true_eq] at h
    obtain ⟨h1, h2⟩ := h
    cases m with
    | zero => exact h1
    | succ m =>
      have e1 : (zst (j + i + 1)).1 = nextC (zst (j + i)).1 false := rfl
      have e2 : (zst (j + i + 1)).2 = encPut (zst (j + i)).2 (zst (j + i)).1 false := rfl
      have h3 : zerosFine k (j + (i + 1)) (zst (j + (i + 1))).1 (zst (j + (i + 1))).2.r (zst (j + (i + 1))).2.n = true := by
        rw [show j + (i + 1) = j + i + 1 by omega, e1, e2]
        unfold encPut encScale encBit
        simp only [Bool.false_eq_true, if_false]
        by_cases hb : bnd (zst (j + i)).2.r (zst (j + i)).1 < 16777216
        · rw [if_pos hb] at h2 ⊢; exact h2
        · rw [if_neg hb] at h2 ⊢; exact h2
      have h4 := zfine_spec k j (i + 1) h3 m (by omega)
      rw [show j + (i + 1) + m = j + i + (m + 1) by omega] at h4
      exact h4
theorem zst_short (n : Nat) (h : n ≤ 4000) : (zst n).2.n ≤ 13 + n / 300 := by
  have := zfine_spec 4001 0 0 zeros_fine n (by omega)
  simpa using this

theorem short_out (X : EncSpec) (Y : DecSpec) (N : NextSpec) (n : Int) (A : Option Addr) (len cap : Nat) (w : World) (h : n < 0 ∨ 4000 < n) :
    Calls Try.prog 8 #[.int .i64 n, .slice A len cap] w fun e w' => e = .returned (.bool true) ∧ Fr [] w w' := by
  by_cases h1 : n < 0
  · have e1 : decide (n < 0) = true := by simp [h1]
    go_enter Try.func8, Try.ntmps8
    go_wp2_with fail
    refine (alive4_any X Y N _).mono ?_
    rintro e w3 ⟨rfl, hF3⟩
    go_wp2_with fail
    go_ret
    exact ⟨rfl, hF3⟩
  · have e1 : decide (n < 0) = false := by simp; omega
    have e2 : decide (4000 < n) = true := by simp; omega
    go_enter Try.func8, Try.ntmps8
    go_wp2_with fail
    refine (alive4_any X Y N _).mono ?_
    rintro e w3 ⟨rfl, hF3⟩
    go_wp2_with fail
    go_ret
    exact ⟨rfl, hF3⟩

set_option maxRecDepth 20000 in
set_option maxHeartbeats 4000000 in
theorem short_law (X : EncSpec) (Y : DecSpec) (N : NextSpec) (n : Nat) (A : Option Addr) (len cap : Nat) (acts : List (Int × Int)) (w : World) (hn : n ≤ 4000) (hA : Acts2 w A len acts) (hm : len ≤ 9223372036854775807) :
    Calls Try.prog 8 #[.int .i64 (n : Int), .slice A len cap] w fun e w' => e = .returned (.bool true) ∧ Fr [] w w' := by
  have HA := Lib.hid hA; clear hA
  have e1 : decide ((n : Int) < 0) = false := by simp
  have e2 : decide ((4000 : Int) < (n : Int)) = false := by simp; omega
  go_enter Try.func8, Try.ntmps8
  go_wp2_with fail
  refine (new_live (X := X) w (Fr.refl [] w)).mono ?_
  rintro e w1 ⟨p, D, rfl, hL, -, -⟩
  have HL := Lib.hid hL; clear hL
  go_wp2_with fail
  go_loopw [6, 7] (fun s6 s7 wr => ∃ (i : Nat) (D : List Nat), i ≤ n ∧ s7 = .int .i64 (i : Int) ∧ s6 = .int .u16 ((zst i).1 : Int) ∧ Live X w wr p D (zst i).2) (fun _ s7 _ => n - (intOf s7).toNat)
  case atStart => exact ⟨0, D, by omega, rfl, rfl, HL.out⟩
  case round =>
    obtain ⟨i, D, hi, rfl, rfl, hL⟩ := hrel
    have HL2 := Lib.hid hL; clear hL
    by_cases hlt : i < n
    · have eg : decide (i < n) = true := by simp [hlt]
      have hc := zst_right i
      have hs := zst_short i (by omega)
      obtain ⟨c, hcc⟩ : ∃ c, c = (zst i).1 := ⟨_, rfl⟩
      have HP : Hid (∀ W, Live X w W p D (zst i).2 → Calls Try.prog 12 #[pt p, .int .u16 (c : Int), .int .i64 0] W fun r W' => r = .returned (.int .i64 0) ∧ ∃ D', Live X w W' p D' (zst (i + 1)).2) := Lib.hid fun W hW => by
        have := X.put W p D (zst i).2 c false hW.en hW.ok (by rw [hcc]; exact hc) (by omega)
        refine this.mono fun r W' ⟨hr, D', hE, hF, hD⟩ => ⟨hr, D', ?_⟩
        rw [hcc] at hE
        exact hW.put hE hF hD (zst_ok (i + 1))
      have HN : Hid (∀ W, Calls Try.prog 15 #[.int .u16 (c : Int), .int .i64 0] W fun r w' => r = .returned (.int .u16 ((zst (i + 1)).1 : Int)) ∧ Fr [] W w') := Lib.hid fun W => by
        have := N W c 0 (by have := hc.2; omega) (by decide) (by decide)
        rw [hcc] at this ⊢
        exact this
      rw [← hcc]
      clear hcc hc hs
      go_wp2_with fail
      refine (HP.out _ HL2.out).mono ?_
      rintro e w2 ⟨rfl, D2, hL2⟩
      have HL3 := Lib.hid hL2; clear hL2
      go_wp2_with fail
      refine (HN.out _).mono ?_
      rintro e w3 ⟨rfl, hF3⟩
      have HL4 := Lib.hid (HL3.out.fr0 hF3); clear hF3
      go_wp2_with fail
      exact ⟨⟨i + 1, D2, by omega, by simp, rfl, HL4.out⟩, by simp [intOf]; omega⟩
    · obtain rfl : i = n := by omega
      have eg : decide (i < i) = false := by simp
      have hs := zst_short i hn
      obtain ⟨L, hLn⟩ : ∃ L, L = (zst i).2.n := ⟨_, rfl⟩
      have hby := bytes_live _ p D (zst i).2 HL2.out (by omega)
      rw [← hLn] at hby hs
      have HBy := Lib.hid hby; clear hby hLn
      have es : decide ((L : Int) ≤ 13 + (i : Int) / 300) = true := by simp; omega
      go_wp2_with fail
      refine HBy.out.mono ?_
      rintro e w2 ⟨A2, c2, rfl, -, hL2, -⟩
      have HF2 := Lib.hid hL2.fr; clear hL2 HBy
      go_wp2_with fail
      refine (new_live (X := X) w2 HF2.out).mono ?_
      rintro e w3 ⟨q, K, rfl, hY, -, -⟩
      have HY := Lib.hid hY; clear hY HL HL2 HF2
      go_wp2_with fail
      go_loopw [10, 11] (fun s10 s11 wr => ∃ (j k : Nat) (K : List Nat) (f : Enc), j ≤ len ∧ j ≤ 400 ∧ k ≤ j ∧ s11 = .int .i64 (j : Int) ∧ s10 = .int .i64 (k : Int) ∧ f.n ≤ 4 + k ∧ Live X w wr q K f) (fun _ s11 _ => 400 - (intOf s11).toNat)
      case atStart => exact ⟨0, 0, K, encNew, by omega, by omega, by omega, rfl, rfl, by decide, HY.out⟩
      case round =>
        obtain ⟨j, k, K, f, hj1, hj2, hkj, rfl, rfl, hfn, hY⟩ := hrel
        have HY2 := Lib.hid hY; clear hY
        by_cases hlt2 : j < len ∧ j < 400
        · obtain ⟨hl1, hl2⟩ := hlt2
          have eg1 : decide (j < len) = true := by simpa using hl1
          have eg2 : decide ((j : Int) < 400) = true := by simp; omega
          obtain ⟨⟨c, b⟩, hcb⟩ : ∃ x, acts[j]? = some x := ⟨_, List.getElem?_eq_getElem (by have := HA.out.1; omega)⟩
          have hcell : ∀ W, Fr [] w W → -9223372036854775808 ≤ b ∧ b ≤ 9223372036854775807 ∧ ∃ g o, A = some ⟨g, o, none⟩ ∧ W.cell? ⟨g, o + j * 2, none⟩ = some (.int .i64 c) ∧ W.cell? ⟨g, o + j * 2 + 1, none⟩ = some (.int .i64 b) := fun W hF => (HA.out.fr hF).2 j c b hcb
          obtain ⟨lb1, lb2, g, o, rfl, -, -⟩ := hcell wr HY2.out.fr
          have hcells : ∀ W, Fr [] w W → W.cell? ⟨g, o + j * 2, none⟩ = some (.int .i64 c) ∧ W.cell? ⟨g, o + j * 2 + 1, none⟩ = some (.int .i64 b) := by
            intro W hF
            obtain ⟨-, -, g', o', r1, h1, h2⟩ := hcell W hF
            have r2 := Option.some.inj r1
            injection r2 with r3 r4
            subst r3 r4
            exact ⟨h1, h2⟩
          have Hcells := Lib.hid hcells
          obtain ⟨ka, kb⟩ := hcells _ HY2.out.fr.drew
          have hfn2 : f.n ≤ 100000 := by omega
          have HP : Hid (∀ W, Live X w W q K f → Calls Try.prog 12 #[pt q, .int .u16 (rawC c : Int), .int .i64 b] W fun r W' => r = .returned (.int .i64 (encAct f (rawC c) b).1) ∧ ∃ D', Live X w W' q D' (encAct f (rawC c) b).2) := Lib.hid fun W hW =>
            (put_total W q K f (rawC c) b hW (rawC_lt c) lb1 lb2 hfn2).mono fun r W' ⟨hr, D', hL, _⟩ => ⟨hr, D', hL⟩
          have hen := encAct_n f (rawC c) b
          have herr := encAct_err f (rawC c) b
          obtain ⟨E, hE⟩ : ∃ E, E = (encAct f (rawC c) b).1 := ⟨_, rfl⟩
          obtain ⟨f', hf'⟩ : ∃ f', f' = (encAct f (rawC c) b).2 := ⟨_, rfl⟩
          rw [← hE, ← hf'] at HP
          rw [← hf'] at hen
          have hcase : (E = 0 ∧ f'.n ≤ f.n + 1) ∨ (E = 1 ∧ f' = f) := by
            rcases herr with ⟨h1, -⟩ | ⟨h1, h2⟩
            · exact .inl ⟨by rw [hE, h1], hen⟩
            · exact .inr ⟨by rw [hE, h1], by rw [hf', h2]⟩
          have HYd := Lib.hid (HY2.out.fr0 (Fr.refl [] wr).drew)
          have HC := Lib.hid (fun W => chance_any c W)
          generalize rawC c = rc at HP HC
          have Hcase := Lib.hid hcase
          clear hcase hE hf' hen herr hcell hcells hcb
          go_upto_region 16 with fail
          refine wp_region_held_drew (S := fun W => W.cell? ⟨g, o + j * 2, none⟩ = some (.int .i64 c) ∧ W.cell? ⟨g, o + j * 2 + 1, none⟩ = some (.int .i64 b)) (by kernel_rfl) ?_ (fun hHeld => ?_)
          · (repeat' (first | trivial | assumption | refine ⟨?_, ?_⟩))
          refine wpAnyH_pick 0 (v := ?_) rfl (by kernel_rfl) (by kernel_rfl) (by kernel_rfl) (fun _ _ _ h => h) (by assumption) (by rfl) ?_ ?_
          rotate_left
          · (intro w hSw; (try dsimp only at hSw); go_simp) <;> (with_reducible rfl)
          (try simp only [Act.put, List.setIfInBounds_toArray, List.set_cons_zero, List.set_cons_succ])
          refine wpAnyH_pick 1 (v := ?_) rfl (by kernel_rfl) (by kernel_rfl) (by kernel_rfl) (fun _ _ _ h => h) (by assumption) (by rfl) ?_ ?_
          rotate_left
          · (intro w hSw; (try dsimp only at hSw); go_simp) <;> (with_reducible rfl)
          (try simp only [Act.put, List.setIfInBounds_toArray, List.set_cons_zero, List.set_cons_succ])
          refine wpAnyH_pick 2 (v := ?_) rfl (by kernel_rfl) (by kernel_rfl) (by kernel_rfl) (fun _ _ _ h => h) (by assumption) (by rfl) ?_ ?_
          rotate_left
          · (intro w hSw; (try dsimp only at hSw); go_simp) <;> (with_reducible rfl)
          (try simp only [Act.put, List.setIfInBounds_toArray, List.set_cons_zero, List.set_cons_succ])
          refine wpAnyH_pick 3 (v := ?_) rfl (by kernel_rfl) (by kernel_rfl) (by kernel_rfl) (fun _ _ _ h => h) (by assumption) (by rfl) ?_ ?_
          rotate_left
          · (intro w hSw; (try dsimp only at hSw); go_simp) <;> (with_reducible rfl)
          (try simp only [Act.put, List.setIfInBounds_toArray, List.set_cons_zero, List.set_cons_succ])
          refine wpAnyH_pick 4 (v := ?_) rfl (by kernel_rfl) (by kernel_rfl) (by kernel_rfl) (fun _ _ _ h => h) (by assumption) (by rfl) ?_ ?_
          rotate_left
          · (intro w hSw; (try dsimp only at hSw); go_simp) <;> (with_reducible rfl)
          (try simp only [Act.put, List.setIfInBounds_toArray, List.set_cons_zero, List.set_cons_succ])
          refine wpAnyH_pick 5 (v := ?_) rfl (by kernel_rfl) (by kernel_rfl) (by kernel_rfl) (fun _ _ _ h => h) (by assumption) (by rfl) ?_ ?_
          rotate_left
          · (intro w hSw; (try dsimp only at hSw); go_simp) <;> (with_reducible rfl)
          (try simp only [Act.put, List.setIfInBounds_toArray, List.set_cons_zero, List.set_cons_succ])
          refine wpAnyH_pick 7 (v := ?_) rfl (by kernel_rfl) (by kernel_rfl) (by kernel_rfl) (fun _ _ _ h => h) (by assumption) (by rfl) ?_ ?_
          rotate_left
          · (intro w hSw; (try dsimp only at hSw); go_simp) <;> (with_reducible rfl)
          (try simp only [Act.put, List.setIfInBounds_toArray, List.set_cons_zero, List.set_cons_succ])
          refine wpAnyH_pick 8 (v := ?_) rfl (by kernel_rfl) (by kernel_rfl) (by kernel_rfl) (fun _ _ _ h => h) (by assumption) (by rfl) ?_ ?_
          rotate_left
          · (intro w hSw; (try dsimp only at hSw); go_simp) <;> (with_reducible rfl)
          (try simp only [Act.put, List.setIfInBounds_toArray, List.set_cons_zero, List.set_cons_succ])
          refine wpAnyH_pick 9 (v := ?_) rfl (by kernel_rfl) (by kernel_rfl) (by kernel_rfl) (fun _ _ _ h => h) (by assumption) (by rfl) ?_ ?_
          rotate_left
          · (intro w hSw; (try dsimp only at hSw); go_simp) <;> (with_reducible rfl)
          (try simp only [Act.put, List.setIfInBounds_toArray, List.set_cons_zero, List.set_cons_succ])
          refine wpAnyH_pick 10 (v := ?_) rfl (by kernel_rfl) (by kernel_rfl) (by kernel_rfl) (fun _ _ _ h => h) (by assumption) (by rfl) ?_ ?_
          rotate_left
          · (intro w hSw; (try dsimp only at hSw); go_simp) <;> (with_reducible rfl)
          (try simp only [Act.put, List.setIfInBounds_toArray, List.set_cons_zero, List.set_cons_succ])
          refine wpAnyH_pick 11 (v := ?_) rfl (by kernel_rfl) (by kernel_rfl) (by kernel_rfl) (fun _ _ _ h => h) (by assumption) (by rfl) ?_ ?_
          rotate_left
          · (intro w hSw; (try dsimp only at hSw); go_simp) <;> (with_reducible rfl)
          (try simp only [Act.put, List.setIfInBounds_toArray, List.set_cons_zero, List.set_cons_succ])
          refine wpAnyH_ready (rs := [6]) (by kernel_rfl) (by simp) ?_
          refine AllReadyH_pick rfl (fun K hK => ?_) (AllReadyH.nil)
          go_simp
          refine (HC.out _).mono ?_
          rintro e wC ⟨rfl, rfl⟩
          go_wp2_with fail
          refine hK.out _ _ ?_ (fun hHeld => ?_)
          · (repeat' (first | trivial | assumption | refine ⟨?_, ?_⟩))
          clear hK K
          (try simp only [Act.put, List.setIfInBounds_toArray, List.set_cons_zero, List.set_cons_succ])
          refine wpAnyH_ready (rs := [12]) (by kernel_rfl) (by simp) ?_
          refine AllReadyH_pick rfl (fun K hK => ?_) (AllReadyH.nil)
          go_simp
          refine (HP.out _ HYd.out).mono ?_
          rintro e wP ⟨rfl, K', hYP⟩
          obtain ⟨kaP, kbP⟩ := Hcells.out _ hYP.fr
          have HYP := Lib.hid hYP; clear hYP
          go_wp2_with fail
          refine hK.out _ _ ?_ (fun hHeld => ?_)
          · (repeat' (first | trivial | assumption | refine ⟨?_, ?_⟩))
          clear hK K
          (try simp only [Act.put, List.setIfInBounds_toArray, List.set_cons_zero, List.set_cons_succ])
          refine wpAnyH_pick 13 (v := ?_) rfl (by kernel_rfl) (by kernel_rfl) (by kernel_rfl) (fun _ _ _ h => h) (by assumption) (by rfl) ?_ ?_
          rotate_left
          · (intro w hSw; (try dsimp only at hSw); go_simp) <;> (with_reducible rfl)
          (try simp only [Act.put, List.setIfInBounds_toArray, List.set_cons_zero, List.set_cons_succ])
          refine wpAnyH_done (by kernel_rfl) ?_ _
          rcases Hcase.out with ⟨rfl, hf1⟩ | ⟨rfl, rfl⟩
          · go_wp2_with fail
            exact ⟨⟨j + 1, k + 1, K', f', by omega, by omega, by omega, by simp, by simp, by omega, HYP.out⟩, by simp [intOf]; omega⟩
          · go_wp2_with fail
            exact ⟨⟨j + 1, k, K', f', by omega, by omega, by omega, by simp, rfl, by omega, HYP.out⟩, by simp [intOf]; omega⟩
        · have hex : (decide (j < len) = false) ∨ (decide (j < len) = true ∧ decide ((j : Int) < 400) = false) := by
            by_cases h1 : j < len
            · exact .inr ⟨by simpa using h1, by simp; omega⟩
            · exact .inl (by simpa using h1)
          obtain ⟨M, hM⟩ : ∃ M, M = f.n := ⟨_, rfl⟩
          have hby2 : ∀ W, Live X w W q K f → Calls Try.prog 17 #[pt q] W fun r W' => ∃ A c, r = .returned (.slice A M c) ∧ Fr [] w W' := fun W hW =>
            (bytes_live W q K f hW (by omega)).mono fun r W' ⟨A, c, hr, _, hL, _⟩ => ⟨A, c, by rw [hr, hM], hL.fr⟩
          have HBy := Lib.hid hby2
          have es2 : decide ((M : Int) ≤ 4 + (k : Int)) = true := by simp; omega
          clear hby2 hM hfn hlt2
          rcases hex with eg1 | ⟨eg1, eg2⟩
          all_goals
            go_wp2_with fail
            refine (alive4_any X Y N _).mono ?_
            rintro e w5 ⟨rfl, hF5⟩
            have HY5 := Lib.hid (HY2.out.fr0 hF5); clear hF5
            go_wp2_with fail
            refine (HBy.out _ HY5.out).mono ?_
            rintro e w6 ⟨A6, c6, rfl, hF6⟩
            have HF6 := Lib.hid hF6; clear hF6
            go_wp2_with fail
            go_ret
            exact ⟨rfl, HF6.out⟩
end Go.Proofs.Ytfnmplipbgdniaa
