/-
  The law CoderOne answers true whatever its input, out of the coder's contracts; no condition.
-/
import Derived.Test.YtfnmplipbgdniaaDLive
import Derived.Test.YtfnmplipbgdniaaStr
import Derived.Deep.QuietTactic
namespace Go.Proofs.Ytfnmplipbgdniaa
open Go.RowKit

theorem one_long (X : EncSpec) (Y : DecSpec) (N : NextSpec) (Ab : Option Addr) (n cb : Nat) (A : Option Addr) (len cap : Nat) (w : World) (h : 300 < n) (hn : n ≤ 9223372036854775807) :
    Calls Try.prog 6 #[.slice Ab n cb, .slice A len cap] w fun e w' => e = .returned (.bool true) ∧ Fr [] w w' := by
  have e1 : decide ((300 : Int) < (n : Int)) = true := by simp; omega
  go_enter Try.func6, Try.ntmps6
  go_wp2_with fail
  refine (alive4_any X Y N _).mono ?_
  rintro e w3 ⟨rfl, hF3⟩
  go_wp2_with fail
  go_ret
  exact ⟨rfl, hF3⟩

theorem one_short (X : EncSpec) (Y : DecSpec) (N : NextSpec) (Ab : Option Addr) (n cb : Nat) (A : Option Addr) (len cap : Nat) (w : World) (h : n < 4) :
    Calls Try.prog 6 #[.slice Ab n cb, .slice A len cap] w fun e w' => e = .returned (.bool true) ∧ Fr [] w w' := by
  have e1 : decide ((300 : Int) < (n : Int)) = false := by simp; omega
  have e2 : decide ((n : Int) < 4) = true := by simp; omega
  go_enter Try.func6, Try.ntmps6
  go_wp2_with fail
  refine (Y.short w Ab n cb h).mono ?_
  rintro e w2 ⟨rfl, hF2⟩
  go_wp2_with fail
  refine (alive4_any X Y N _).mono ?_
  rintro e w3 ⟨rfl, hF3⟩
  go_wp2_with fail
  go_ret
  exact ⟨rfl, hF2.trans hF3 (by simp)⟩

theorem decOpen_rest (bs : List UInt8) : (decOpen bs).rest < 4294967296 := by
  have h1 := valueOf_lt (bs.take 4)
  have h2 : (bs.take 4).length ≤ 4 := by simp; omega
  have h3 : 256 ^ (bs.take 4).length ≤ 256 ^ 4 := Nat.pow_le_pow_right (by omega) h2
  show valueOf (bs.take 4) < _
  omega

/-- The decoder of bs and the encoder of what was got, at the same place, apart. -/
structure St (X : EncSpec) (Y : DecSpec) (w0 w : World) (y : Nat) (K : List Nat) (p : Nat) (D : List Nat) (bs : List UInt8) (d : Dec) (f : Enc) : Prop where
  de : Y.De w y K bs d
  en : Live X w0 w p D f
  at_ : At bs d f
  rest : d.rest < 4294967296
  apart : ∀ k ∈ y :: K, k ∉ p :: D
theorem St.fr0 {X : EncSpec} {Y : DecSpec} {w0 w w' : World} {y : Nat} {K : List Nat} {p : Nat} {D : List Nat} {bs : List UInt8} {d : Dec} {f : Enc} (h : St X Y w0 w y K p D bs d f) (hf : Fr [] w w') : St X Y w0 w' y K p D bs d f :=
  ⟨Y.fr h.de hf (by simp), h.en.fr0 hf, h.at_, h.rest, h.apart⟩

attribute [local go_sem ↓] cv_rule

set_option maxRecDepth 100000 in
set_option maxHeartbeats 8000000 in
theorem one_law (X : EncSpec) (Y : DecSpec) (N : NextSpec) (Ab : Option Addr) (n cb : Nat) (bs : List UInt8) (A : Option Addr) (len cap : Nat) (acts : List (Int × Int)) (w : World)
    (hb : Src w (.slice Ab n cb) (bs.map B8)) (hn : bs.length = n) (h4 : 4 ≤ n) (h300 : n ≤ 300) (hA : Acts2 w A len acts) (hm : len ≤ 9223372036854775807) :
    Calls Try.prog 6 #[.slice Ab n cb, .slice A len cap] w fun e w' => e = .returned (.bool true) ∧ Fr [] w w' := by
  have HA := Lib.hid hA
  have HS := Lib.hid hb
  have Hn := Lib.hid hn
  have e1 : decide ((300 : Int) < (n : Int)) = false := by simp; omega
  have hO := Y.opens w Ab cb bs (by rw [hn]; exact hb) (by omega) (by omega)
  rw [hn] at hO
  have HO := Lib.hid hO
  have hAb : ∀ ad, Ab = some ad → ad.block < w.heap.size := by
    intro ad had
    obtain ⟨a1, r1, c1⟩ := hb.cellAt (k := 0) (List.getElem?_eq_getElem (show 0 < bs.length by omega))
    rw [had] at r1
    injection r1 with r1
    subst r1
    have := World.block_lt_of_cell? w _ c1
    rwa [addr_block] at this
  have HAb := Lib.hid hAb
  clear hA hb hn hO hAb
  go_enter Try.func6, Try.ntmps6
  go_wp2_with fail
  refine HO.out.mono ?_
  rintro e w1 ⟨y, K, rfl, hY, hF1, hy, hyK, hK⟩
  have HY := Lib.hid hY
  have HF1 := Lib.hid hF1
  have Hy := Lib.hid hy
  clear hY hF1 hy hyK hK HO
  go_wp2_with fail
  refine (new_live (X := X) w1 HF1.out).mono ?_
  rintro e w2 ⟨p, D, rfl, hL, hF2, hnew⟩
  have hap : ∀ k ∈ y :: K, k ∉ p :: D := by
    intro k hk hk2
    have h1 := Y.lt HY.out k hk
    have h2 := hnew k hk2
    omega
  have hY2 := Y.fr HY.out hF2 (by simp)
  have HY2 := Lib.hid hY2
  have HL := Lib.hid hL
  have Hap := Lib.hid hap
  clear hL hF2 hap hY2 hnew HY HF1
  go_wp2_with fail
  go_loopw [8] (fun s8 wr => ∃ (i : Nat) (d : Dec) (f : Enc) (D : List Nat), i ≤ len ∧ i ≤ 400 ∧ s8 = .int .i64 (i : Int) ∧ Y.De wr y K bs d ∧ Live X w wr p D f ∧ At bs d f ∧ d.rest < 4294967296 ∧ ∀ k ∈ y :: K, k ∉ p :: D) (fun s8 _ => 400 - (intOf s8).toNat)
  case atStart => exact ⟨0, decOpen bs, encNew, D, by omega, by omega, rfl, HY2.out, HL.out, at_open bs (by have := Hn.out; omega), decOpen_rest bs, Hap.out⟩
  case round =>
    obtain ⟨i, d, f, D, hi1, hi2, rfl, hY, hL, hAt, hrest, hap⟩ := hrel
    have HYr := Lib.hid hY
    have HLr := Lib.hid hL
    have HAt := Lib.hid hAt
    have Hrest := Lib.hid hrest
    have Hapr := Lib.hid hap
    clear hY hL hAt hrest hap
    by_cases hlt2 : i < len ∧ i < 400
    · obtain ⟨hl1, hl2⟩ := hlt2
      have eg1 : decide (i < len) = true := by simpa using hl1
      have eg2 : decide ((i : Int) < 400) = true := by simp; omega
      obtain ⟨⟨c, b⟩, hcb⟩ : ∃ x, acts[i]? = some x := ⟨_, List.getElem?_eq_getElem (by have := HA.out.1; omega)⟩
      have hcell : ∀ W, Fr [] w W → ∃ g o, A = some ⟨g, o, none⟩ ∧ W.cell? ⟨g, o + i * 2, none⟩ = some (.int .i64 c) := fun W hF => by
        obtain ⟨-, -, g, o, r1, h1, -⟩ := (HA.out.fr hF).2 i c b hcb
        exact ⟨g, o, r1, h1⟩
      obtain ⟨g, o, rfl, ka⟩ := hcell wr HLr.out.fr
      have hcells : ∀ W, Fr [] w W → W.cell? ⟨g, o + i * 2, none⟩ = some (.int .i64 c) := by
        intro W hF
        obtain ⟨g', o', r1, h1⟩ := hcell W hF
        have r2 := Option.some.inj r1
        injection r2 with r3 r4
        subst r3 r4
        exact h1
      have Hcells := Lib.hid hcells
      have HC := Lib.hid (fun W => chance_any c W)
      have hrc := rawC_lt c
      generalize rawC c = rc at HC hrc
      clear hcell hcells hcb
      by_cases hr : rightC rc
      · have hget := Y.get wr y K bs d rc HYr.out hr Hrest.out (by rw [HAt.out.r]; exact HLr.out.ok.lo) (by rw [HAt.out.r]; exact HLr.out.ok.hi) (by rw [HAt.out.i]; exact HAt.out.len) (by have := Hn.out; omega)
        have HGet := Lib.hid hget
        clear hget
        go_wp2_with fail
        refine (HC.out _).mono ?_
        rintro e wC ⟨rfl, rfl⟩
        go_wp2_with fail
        refine HGet.out.mono ?_
        rintro e w3 (⟨bit, d', hg, rfl, hY3, hF3⟩ | ⟨hg, rfl, hF3⟩)
        · have hyn : ∀ k ∈ p :: D, k ∉ [y] := by
            intro k hk hm
            simp at hm
            subst hm
            exact Hapr.out k (List.mem_cons_self ..) hk
          have hL3 : Live X w w3 p D f := ⟨X.fr HLr.out.en hF3 hyn, HLr.out.fr.trans hF3 (fun x hx => .inr (by simp at hx; subst hx; exact Hy.out)), HLr.out.new, HLr.out.ok⟩
          have hput := X.put w3 p D f rc bit hL3.en hL3.ok hr (by have := HAt.out.len; have := Hn.out; omega)
          have HPut := Lib.hid hput
          have HL3 := Lib.hid hL3
          have HY3 := Lib.hid hY3
          have k3 := Hcells.out _ hL3.fr
          have HAt3 := Lib.hid (at_got HAt.out hg)
          have Hr3 := Lib.hid (got_rest hg)
          clear hL3 hput hY3 hF3 hg hyn HGet
          go_wp2_with fail
          refine (HC.out _).mono ?_
          rintro e wC ⟨rfl, rfl⟩
          go_wp2_with fail
          refine HPut.out.mono ?_
          rintro e w4 ⟨rfl, D4, hE4, hF4, hD4⟩
          have hz : St X Y w w4 y K p D4 bs d' (encPut f rc bit) := by
            refine ⟨Y.fr HY3.out hF4 Hapr.out, HL3.out.put hE4 hF4 hD4 (encPut_ok HL3.out.ok hr bit), HAt3.out, ?_, ?_⟩
            · have h1 := Hr3.out
              have h2 := HAt3.out.r
              have h3 := (encPut_ok HL3.out.ok hr bit).hi
              omega
            · intro k hk hk2
              rcases List.mem_cons.1 hk2 with rfl | hk2
              · exact Hapr.out _ hk (List.mem_cons_self ..)
              · rcases hD4 k hk2 with h1 | h1
                · exact Hapr.out k hk (List.mem_cons_of_mem _ h1)
                · have := Y.lt HY3.out k hk
                  omega
          obtain ⟨dz, fz, Dz, HZ⟩ : ∃ d f D, Hid (St X Y w w4 y K p D bs d f) := ⟨_, _, _, Lib.hid hz⟩
          clear hz hE4 hF4 hD4 HPut HL3 HY3 HAt3 Hr3 k3 HYr HLr HAt Hrest Hapr ka
          go_upto_region 13 with fail
          have hend := fun W (hW : St X Y w W y K p Dz bs dz fz) => Y.ends W y K bs dz hW.de
          by_cases hq : dz.i = bs.length ∧ dz.rest = 0
          · simp only [if_pos hq] at hend
            have hbe : bytesOf fz.n fz.v = bs := at_end HZ.out.at_ hq.1 hq.2
            have HEnd := Lib.hid hend
            have Hbe := Lib.hid hbe
            have HZd := Lib.hid (HZ.out.fr0 (Fr.refl [] w4).drew)
            have sbd := run_cv (HS.out.fr0 HZd.out.en.fr)
            have hbn : fz.n ≤ 100000 := by have := HZ.out.at_.len; have := Hn.out; omega
            clear hend hbe hq
            refine wp_region_held_drew (S := fun W => (cv (.slice Ab n cb)).run Try.prog W = .ok (.string (strOf bs)) W) (by kernel_rfl) ?_ (fun hHeld => ?_)
            · (repeat' (first | trivial | assumption | refine ⟨?_, ?_⟩))
            refine wpAnyH_pick 0 (v := ?_) rfl (by kernel_rfl) (by kernel_rfl) (by kernel_rfl) (fun _ _ _ h => h) (by assumption) (by rfl) ?_ ?_
            rotate_left
            · (intro w hSw; (try dsimp only at hSw); go_simp) <;> (with_reducible rfl)
            (try simp only [Act.put, List.setIfInBounds_toArray, List.set_cons_zero, List.set_cons_succ])
            refine wpAnyH_ready (rs := [1]) (by kernel_rfl) (by simp) ?_
            refine AllReadyH_pick rfl (fun K hK => ?_) (AllReadyH.nil)
            go_simp
            refine (HEnd.out _ HZd.out).mono ?_
            rintro e wE ⟨rfl, mE, hmE⟩
            have hFE : Fr [] w4.drew wE := by rw [hmE]; exact (Fr.refl _ _).drewN mE
            have HZE := Lib.hid (HZd.out.fr0 hFE)
            have sbE := run_cv (HS.out.fr0 HZE.out.en.fr)
            clear hmE hFE
            go_wp2_with fail
            refine hK.out _ _ ?_ (fun hHeld => ?_)
            · (repeat' (first | trivial | assumption | refine ⟨?_, ?_⟩))
            clear hK K
            (try simp only [Act.put, List.setIfInBounds_toArray, List.set_cons_zero, List.set_cons_succ])
            refine wpAnyH_pick 2 (v := ?_) rfl (by kernel_rfl) (by kernel_rfl) (by kernel_rfl) (fun _ _ _ h => h) (by assumption) (by rfl) ?_ ?_
            rotate_left
            · (intro w hSw; (try dsimp only at hSw); go_simp) <;> (with_reducible rfl)
            (try simp only [Act.put, List.setIfInBounds_toArray, List.set_cons_zero, List.set_cons_succ])
            refine wpAnyH_pick 3 (v := ?_) rfl (by kernel_rfl) (by kernel_rfl) (by kernel_rfl) (fun _ _ _ h => h) (by assumption) (by rfl) ?_ ?_
            rotate_left
            · (intro w hSw; (try dsimp only at hSw); go_simp) <;> (with_reducible rfl)
            (try simp only [Act.put, List.setIfInBounds_toArray, List.set_cons_zero, List.set_cons_succ])
            refine wpAnyH_pick 4 (v := ?_) rfl (by kernel_rfl) (by kernel_rfl) (by kernel_rfl) (fun _ _ _ h => h) (by assumption) (by rfl) ?_ ?_
            rotate_left
            · (intro w hSw; (try dsimp only at hSw); go_simp) <;> (with_reducible rfl)
            (try simp only [Act.put, List.setIfInBounds_toArray, List.set_cons_zero, List.set_cons_succ])
            refine wpAnyH_pick 7 (v := ?_) rfl (by kernel_rfl) (by kernel_rfl) (by kernel_rfl) (fun _ _ _ h => h) (by assumption) (by rfl) ?_ ?_
            rotate_left
            · (intro w hSw; (try dsimp only at hSw); go_simp) <;> (with_reducible rfl)
            (try simp only [Act.put, List.setIfInBounds_toArray, List.set_cons_zero, List.set_cons_succ])
            refine wpAnyH_pick 8 (v := ?_) rfl (by kernel_rfl) (by kernel_rfl) (by kernel_rfl) (fun _ _ _ h => h) (by assumption) (by rfl) ?_ ?_
            rotate_left
            · (intro w hSw; (try dsimp only at hSw); go_simp) <;> (with_reducible rfl)
            (try simp only [Act.put, List.setIfInBounds_toArray, List.set_cons_zero, List.set_cons_succ])
            refine wpAnyH_ready (rs := [5]) (by kernel_rfl) (by simp) ?_
            refine AllReadyH_pick rfl (fun K hK => ?_) (AllReadyH.nil)
            go_simp
            refine (bytes_live _ p Dz fz HZE.out.en hbn).mono ?_
            rintro e wB ⟨A6, c6, rfl, hS6, -, hF6⟩
            rw [Hbe.out] at hS6
            have sB := run_cv hS6
            have HZB := Lib.hid (HZE.out.fr0 hF6)
            have sbB := run_cv (HS.out.fr0 HZB.out.en.fr)
            clear hF6 hS6
            go_wp2_with fail
            refine hK.out _ _ ?_ (fun hHeld => ?_)
            · (repeat' (first | trivial | assumption | refine ⟨?_, ?_⟩))
            clear hK K
            (try simp only [Act.put, List.setIfInBounds_toArray, List.set_cons_zero, List.set_cons_succ])
            refine wpAnyH_add (fun W => (cv (.slice A6 fz.n c6)).run Try.prog W = .ok (.string (strOf bs)) W) _ _ _ _ ?_
            have hHeld2 := And.intro hHeld sB
            refine wpAnyH_pick 6 (v := ?_) rfl (by kernel_rfl) (by kernel_rfl) (by kernel_rfl) (fun _ _ _ h => h) (by assumption) (by rfl) ?_ ?_
            rotate_left
            · (intro w hSw; (try dsimp only at hSw); go_simp) <;> (with_reducible rfl)
            (try simp only [Act.put, List.setIfInBounds_toArray, List.set_cons_zero, List.set_cons_succ])
            refine wpAnyH_pick 9 (v := ?_) rfl (by kernel_rfl) (by kernel_rfl) (by kernel_rfl) (fun _ _ _ h => h) (by assumption) (by rfl) ?_ ?_
            rotate_left
            · (intro w hSw; (try dsimp only at hSw); go_simp) <;> (with_reducible rfl)
            (try simp only [Act.put, List.setIfInBounds_toArray, List.set_cons_zero, List.set_cons_succ])
            refine wpAnyH_pick 10 (v := ?_) rfl (by kernel_rfl) (by kernel_rfl) (by kernel_rfl) (fun _ _ _ h => h) (by assumption) (by rfl) ?_ ?_
            rotate_left
            · (intro w hSw; (try dsimp only at hSw); go_simp) <;> (with_reducible rfl)
            (try simp only [Act.put, List.setIfInBounds_toArray, List.set_cons_zero, List.set_cons_succ])
            refine wpAnyH_done (by kernel_rfl) ?_ _
            skip
            have HZF : Hid (St X Y w wB y K p Dz bs dz fz) := HZB
            go_wp2_with fail
            exact ⟨⟨i + 1, dz, fz, Dz, by omega, by omega, by simp, HZF.out.de, HZF.out.en, HZF.out.at_, HZF.out.rest, HZF.out.apart⟩, by simp [intOf]; omega⟩
          · simp only [if_neg hq] at hend
            have HEnd := Lib.hid hend
            have HZn := fun m => Lib.hid (HZ.out.fr0 ((Fr.refl [] w4).drewN m))
            clear hend hq
            go_quiet (exact Calls.quiet_of (HEnd.out _ (HZn _).out))
            go_wp2_with fail
            exact ⟨⟨i + 1, dz, fz, Dz, by omega, by omega, by simp, (HZn _).out.de, (HZn _).out.en, HZ.out.at_, HZ.out.rest, HZ.out.apart⟩, by simp [intOf]; omega⟩
        · have hz : St X Y w w3 y K p D bs d f := ⟨Y.fr HYr.out hF3 (by simp), HLr.out.fr0 hF3, HAt.out, Hrest.out, Hapr.out⟩
          obtain ⟨dz, fz, Dz, HZ⟩ : ∃ d f D, Hid (St X Y w w3 y K p D bs d f) := ⟨_, _, _, Lib.hid hz⟩
          clear hz hF3 hg HYr HLr HAt Hrest Hapr ka HGet
          generalize w3 = w4 at HZ ⊢
          go_upto_region 13 with fail
          have hend := fun W (hW : St X Y w W y K p Dz bs dz fz) => Y.ends W y K bs dz hW.de
          by_cases hq : dz.i = bs.length ∧ dz.rest = 0
          · simp only [if_pos hq] at hend
            have hbe : bytesOf fz.n fz.v = bs := at_end HZ.out.at_ hq.1 hq.2
            have HEnd := Lib.hid hend
            have Hbe := Lib.hid hbe
            have HZd := Lib.hid (HZ.out.fr0 (Fr.refl [] w4).drew)
            have sbd := run_cv (HS.out.fr0 HZd.out.en.fr)
            have hbn : fz.n ≤ 100000 := by have := HZ.out.at_.len; have := Hn.out; omega
            clear hend hbe hq
            refine wp_region_held_drew (S := fun W => (cv (.slice Ab n cb)).run Try.prog W = .ok (.string (strOf bs)) W) (by kernel_rfl) ?_ (fun hHeld => ?_)
            · (repeat' (first | trivial | assumption | refine ⟨?_, ?_⟩))
            refine wpAnyH_pick 0 (v := ?_) rfl (by kernel_rfl) (by kernel_rfl) (by kernel_rfl) (fun _ _ _ h => h) (by assumption) (by rfl) ?_ ?_
            rotate_left
            · (intro w hSw; (try dsimp only at hSw); go_simp) <;> (with_reducible rfl)
            (try simp only [Act.put, List.setIfInBounds_toArray, List.set_cons_zero, List.set_cons_succ])
            refine wpAnyH_ready (rs := [1]) (by kernel_rfl) (by simp) ?_
            refine AllReadyH_pick rfl (fun K hK => ?_) (AllReadyH.nil)
            go_simp
            refine (HEnd.out _ HZd.out).mono ?_
            rintro e wE ⟨rfl, mE, hmE⟩
            have hFE : Fr [] w4.drew wE := by rw [hmE]; exact (Fr.refl _ _).drewN mE
            have HZE := Lib.hid (HZd.out.fr0 hFE)
            have sbE := run_cv (HS.out.fr0 HZE.out.en.fr)
            clear hmE hFE
            go_wp2_with fail
            refine hK.out _ _ ?_ (fun hHeld => ?_)
            · (repeat' (first | trivial | assumption | refine ⟨?_, ?_⟩))
            clear hK K
            (try simp only [Act.put, List.setIfInBounds_toArray, List.set_cons_zero, List.set_cons_succ])
            refine wpAnyH_pick 2 (v := ?_) rfl (by kernel_rfl) (by kernel_rfl) (by kernel_rfl) (fun _ _ _ h => h) (by assumption) (by rfl) ?_ ?_
            rotate_left
            · (intro w hSw; (try dsimp only at hSw); go_simp) <;> (with_reducible rfl)
            (try simp only [Act.put, List.setIfInBounds_toArray, List.set_cons_zero, List.set_cons_succ])
            refine wpAnyH_pick 3 (v := ?_) rfl (by kernel_rfl) (by kernel_rfl) (by kernel_rfl) (fun _ _ _ h => h) (by assumption) (by rfl) ?_ ?_
            rotate_left
            · (intro w hSw; (try dsimp only at hSw); go_simp) <;> (with_reducible rfl)
            (try simp only [Act.put, List.setIfInBounds_toArray, List.set_cons_zero, List.set_cons_succ])
            refine wpAnyH_pick 4 (v := ?_) rfl (by kernel_rfl) (by kernel_rfl) (by kernel_rfl) (fun _ _ _ h => h) (by assumption) (by rfl) ?_ ?_
            rotate_left
            · (intro w hSw; (try dsimp only at hSw); go_simp) <;> (with_reducible rfl)
            (try simp only [Act.put, List.setIfInBounds_toArray, List.set_cons_zero, List.set_cons_succ])
            refine wpAnyH_pick 7 (v := ?_) rfl (by kernel_rfl) (by kernel_rfl) (by kernel_rfl) (fun _ _ _ h => h) (by assumption) (by rfl) ?_ ?_
            rotate_left
            · (intro w hSw; (try dsimp only at hSw); go_simp) <;> (with_reducible rfl)
            (try simp only [Act.put, List.setIfInBounds_toArray, List.set_cons_zero, List.set_cons_succ])
            refine wpAnyH_pick 8 (v := ?_) rfl (by kernel_rfl) (by kernel_rfl) (by kernel_rfl) (fun _ _ _ h => h) (by assumption) (by rfl) ?_ ?_
            rotate_left
            · (intro w hSw; (try dsimp only at hSw); go_simp) <;> (with_reducible rfl)
            (try simp only [Act.put, List.setIfInBounds_toArray, List.set_cons_zero, List.set_cons_succ])
            refine wpAnyH_ready (rs := [5]) (by kernel_rfl) (by simp) ?_
            refine AllReadyH_pick rfl (fun K hK => ?_) (AllReadyH.nil)
            go_simp
            refine (bytes_live _ p Dz fz HZE.out.en hbn).mono ?_
            rintro e wB ⟨A6, c6, rfl, hS6, -, hF6⟩
            rw [Hbe.out] at hS6
            have sB := run_cv hS6
            have HZB := Lib.hid (HZE.out.fr0 hF6)
            have sbB := run_cv (HS.out.fr0 HZB.out.en.fr)
            clear hF6 hS6
            go_wp2_with fail
            refine hK.out _ _ ?_ (fun hHeld => ?_)
            · (repeat' (first | trivial | assumption | refine ⟨?_, ?_⟩))
            clear hK K
            (try simp only [Act.put, List.setIfInBounds_toArray, List.set_cons_zero, List.set_cons_succ])
            refine wpAnyH_add (fun W => (cv (.slice A6 fz.n c6)).run Try.prog W = .ok (.string (strOf bs)) W) _ _ _ _ ?_
            have hHeld2 := And.intro hHeld sB
            refine wpAnyH_pick 6 (v := ?_) rfl (by kernel_rfl) (by kernel_rfl) (by kernel_rfl) (fun _ _ _ h => h) (by assumption) (by rfl) ?_ ?_
            rotate_left
            · (intro w hSw; (try dsimp only at hSw); go_simp) <;> (with_reducible rfl)
            (try simp only [Act.put, List.setIfInBounds_toArray, List.set_cons_zero, List.set_cons_succ])
            refine wpAnyH_pick 9 (v := ?_) rfl (by kernel_rfl) (by kernel_rfl) (by kernel_rfl) (fun _ _ _ h => h) (by assumption) (by rfl) ?_ ?_
            rotate_left
            · (intro w hSw; (try dsimp only at hSw); go_simp) <;> (with_reducible rfl)
            (try simp only [Act.put, List.setIfInBounds_toArray, List.set_cons_zero, List.set_cons_succ])
            refine wpAnyH_pick 10 (v := ?_) rfl (by kernel_rfl) (by kernel_rfl) (by kernel_rfl) (fun _ _ _ h => h) (by assumption) (by rfl) ?_ ?_
            rotate_left
            · (intro w hSw; (try dsimp only at hSw); go_simp) <;> (with_reducible rfl)
            (try simp only [Act.put, List.setIfInBounds_toArray, List.set_cons_zero, List.set_cons_succ])
            refine wpAnyH_done (by kernel_rfl) ?_ _
            skip
            have HZF : Hid (St X Y w wB y K p Dz bs dz fz) := HZB
            go_wp2_with fail
            exact ⟨⟨i + 1, dz, fz, Dz, by omega, by omega, by simp, HZF.out.de, HZF.out.en, HZF.out.at_, HZF.out.rest, HZF.out.apart⟩, by simp [intOf]; omega⟩
          · simp only [if_neg hq] at hend
            have HEnd := Lib.hid hend
            have HZn := fun m => Lib.hid (HZ.out.fr0 ((Fr.refl [] w4).drewN m))
            clear hend hq
            go_quiet (exact Calls.quiet_of (HEnd.out _ (HZn _).out))
            go_wp2_with fail
            exact ⟨⟨i + 1, dz, fz, Dz, by omega, by omega, by simp, (HZn _).out.de, (HZn _).out.en, HZ.out.at_, HZ.out.rest, HZ.out.apart⟩, by simp [intOf]; omega⟩
      · have harg := Y.arg wr y K bs d rc HYr.out hrc hr
        have HArg := Lib.hid harg
        clear harg
        go_wp2_with fail
        refine (HC.out _).mono ?_
        rintro e wC ⟨rfl, rfl⟩
        go_wp2_with fail
        refine HArg.out.mono ?_
        rintro e w3 ⟨rfl, hF3⟩
        have hz : St X Y w w3 y K p D bs d f := ⟨Y.fr HYr.out hF3 (by simp), HLr.out.fr0 hF3, HAt.out, Hrest.out, Hapr.out⟩
        obtain ⟨dz, fz, Dz, HZ⟩ : ∃ d f D, Hid (St X Y w w3 y K p D bs d f) := ⟨_, _, _, Lib.hid hz⟩
        clear hz hF3 HYr HLr HAt Hrest Hapr ka HArg
        generalize w3 = w4 at HZ ⊢
        go_upto_region 13 with fail
        have hend := fun W (hW : St X Y w W y K p Dz bs dz fz) => Y.ends W y K bs dz hW.de
        by_cases hq : dz.i = bs.length ∧ dz.rest = 0
        · simp only [if_pos hq] at hend
          have hbe : bytesOf fz.n fz.v = bs := at_end HZ.out.at_ hq.1 hq.2
          have HEnd := Lib.hid hend
          have Hbe := Lib.hid hbe
          have HZd := Lib.hid (HZ.out.fr0 (Fr.refl [] w4).drew)
          have sbd := run_cv (HS.out.fr0 HZd.out.en.fr)
          have hbn : fz.n ≤ 100000 := by have := HZ.out.at_.len; have := Hn.out; omega
          clear hend hbe hq
          refine wp_region_held_drew (S := fun W => (cv (.slice Ab n cb)).run Try.prog W = .ok (.string (strOf bs)) W) (by kernel_rfl) ?_ (fun hHeld => ?_)
          · (repeat' (first | trivial | assumption | refine ⟨?_, ?_⟩))
          refine wpAnyH_pick 0 (v := ?_) rfl (by kernel_rfl) (by kernel_rfl) (by kernel_rfl) (fun _ _ _ h => h) (by assumption) (by rfl) ?_ ?_
          rotate_left
          · (intro w hSw; (try dsimp only at hSw); go_simp) <;> (with_reducible rfl)
          (try simp only [Act.put, List.setIfInBounds_toArray, List.set_cons_zero, List.set_cons_succ])
          refine wpAnyH_ready (rs := [1]) (by kernel_rfl) (by simp) ?_
          refine AllReadyH_pick rfl (fun K hK => ?_) (AllReadyH.nil)
          go_simp
          refine (HEnd.out _ HZd.out).mono ?_
          rintro e wE ⟨rfl, mE, hmE⟩
          have hFE : Fr [] w4.drew wE := by rw [hmE]; exact (Fr.refl _ _).drewN mE
          have HZE := Lib.hid (HZd.out.fr0 hFE)
          have sbE := run_cv (HS.out.fr0 HZE.out.en.fr)
          clear hmE hFE
          go_wp2_with fail
          refine hK.out _ _ ?_ (fun hHeld => ?_)
          · (repeat' (first | trivial | assumption | refine ⟨?_, ?_⟩))
          clear hK K
          (try simp only [Act.put, List.setIfInBounds_toArray, List.set_cons_zero, List.set_cons_succ])
          refine wpAnyH_pick 2 (v := ?_) rfl (by kernel_rfl) (by kernel_rfl) (by kernel_rfl) (fun _ _ _ h => h) (by assumption) (by rfl) ?_ ?_
          rotate_left
          · (intro w hSw; (try dsimp only at hSw); go_simp) <;> (with_reducible rfl)
          (try simp only [Act.put, List.setIfInBounds_toArray, List.set_cons_zero, List.set_cons_succ])
          refine wpAnyH_pick 3 (v := ?_) rfl (by kernel_rfl) (by kernel_rfl) (by kernel_rfl) (fun _ _ _ h => h) (by assumption) (by rfl) ?_ ?_
          rotate_left
          · (intro w hSw; (try dsimp only at hSw); go_simp) <;> (with_reducible rfl)
          (try simp only [Act.put, List.setIfInBounds_toArray, List.set_cons_zero, List.set_cons_succ])
          refine wpAnyH_pick 4 (v := ?_) rfl (by kernel_rfl) (by kernel_rfl) (by kernel_rfl) (fun _ _ _ h => h) (by assumption) (by rfl) ?_ ?_
          rotate_left
          · (intro w hSw; (try dsimp only at hSw); go_simp) <;> (with_reducible rfl)
          (try simp only [Act.put, List.setIfInBounds_toArray, List.set_cons_zero, List.set_cons_succ])
          refine wpAnyH_pick 7 (v := ?_) rfl (by kernel_rfl) (by kernel_rfl) (by kernel_rfl) (fun _ _ _ h => h) (by assumption) (by rfl) ?_ ?_
          rotate_left
          · (intro w hSw; (try dsimp only at hSw); go_simp) <;> (with_reducible rfl)
          (try simp only [Act.put, List.setIfInBounds_toArray, List.set_cons_zero, List.set_cons_succ])
          refine wpAnyH_pick 8 (v := ?_) rfl (by kernel_rfl) (by kernel_rfl) (by kernel_rfl) (fun _ _ _ h => h) (by assumption) (by rfl) ?_ ?_
          rotate_left
          · (intro w hSw; (try dsimp only at hSw); go_simp) <;> (with_reducible rfl)
          (try simp only [Act.put, List.setIfInBounds_toArray, List.set_cons_zero, List.set_cons_succ])
          refine wpAnyH_ready (rs := [5]) (by kernel_rfl) (by simp) ?_
          refine AllReadyH_pick rfl (fun K hK => ?_) (AllReadyH.nil)
          go_simp
          refine (bytes_live _ p Dz fz HZE.out.en hbn).mono ?_
          rintro e wB ⟨A6, c6, rfl, hS6, -, hF6⟩
          rw [Hbe.out] at hS6
          have sB := run_cv hS6
          have HZB := Lib.hid (HZE.out.fr0 hF6)
          have sbB := run_cv (HS.out.fr0 HZB.out.en.fr)
          clear hF6 hS6
          go_wp2_with fail
          refine hK.out _ _ ?_ (fun hHeld => ?_)
          · (repeat' (first | trivial | assumption | refine ⟨?_, ?_⟩))
          clear hK K
          (try simp only [Act.put, List.setIfInBounds_toArray, List.set_cons_zero, List.set_cons_succ])
          refine wpAnyH_add (fun W => (cv (.slice A6 fz.n c6)).run Try.prog W = .ok (.string (strOf bs)) W) _ _ _ _ ?_
          have hHeld2 := And.intro hHeld sB
          refine wpAnyH_pick 6 (v := ?_) rfl (by kernel_rfl) (by kernel_rfl) (by kernel_rfl) (fun _ _ _ h => h) (by assumption) (by rfl) ?_ ?_
          rotate_left
          · (intro w hSw; (try dsimp only at hSw); go_simp) <;> (with_reducible rfl)
          (try simp only [Act.put, List.setIfInBounds_toArray, List.set_cons_zero, List.set_cons_succ])
          refine wpAnyH_pick 9 (v := ?_) rfl (by kernel_rfl) (by kernel_rfl) (by kernel_rfl) (fun _ _ _ h => h) (by assumption) (by rfl) ?_ ?_
          rotate_left
          · (intro w hSw; (try dsimp only at hSw); go_simp) <;> (with_reducible rfl)
          (try simp only [Act.put, List.setIfInBounds_toArray, List.set_cons_zero, List.set_cons_succ])
          refine wpAnyH_pick 10 (v := ?_) rfl (by kernel_rfl) (by kernel_rfl) (by kernel_rfl) (fun _ _ _ h => h) (by assumption) (by rfl) ?_ ?_
          rotate_left
          · (intro w hSw; (try dsimp only at hSw); go_simp) <;> (with_reducible rfl)
          (try simp only [Act.put, List.setIfInBounds_toArray, List.set_cons_zero, List.set_cons_succ])
          refine wpAnyH_done (by kernel_rfl) ?_ _
          skip
          have HZF : Hid (St X Y w wB y K p Dz bs dz fz) := HZB
          go_wp2_with fail
          exact ⟨⟨i + 1, dz, fz, Dz, by omega, by omega, by simp, HZF.out.de, HZF.out.en, HZF.out.at_, HZF.out.rest, HZF.out.apart⟩, by simp [intOf]; omega⟩
        · simp only [if_neg hq] at hend
          have HEnd := Lib.hid hend
          have HZn := fun m => Lib.hid (HZ.out.fr0 ((Fr.refl [] w4).drewN m))
          clear hend hq
          go_quiet (exact Calls.quiet_of (HEnd.out _ (HZn _).out))
          go_wp2_with fail
          exact ⟨⟨i + 1, dz, fz, Dz, by omega, by omega, by simp, (HZn _).out.de, (HZn _).out.en, HZ.out.at_, HZ.out.rest, HZ.out.apart⟩, by simp [intOf]; omega⟩
    · have hex : (decide (i < len) = false) ∨ (decide (i < len) = true ∧ decide ((i : Int) < 400) = false) := by
        by_cases h1 : i < len
        · exact .inr ⟨by simpa using h1, by simp; omega⟩
        · exact .inl (by simpa using h1)
      clear hlt2
      rcases hex with eg1 | ⟨eg1, eg2⟩
      all_goals
        go_wp2_with fail
        refine (alive4_any X Y N _).mono ?_
        rintro e w5 ⟨rfl, hF5⟩
        go_wp2_with fail
        go_ret
        exact ⟨rfl, HLr.out.fr.trans hF5 (by simp)⟩
end Go.Proofs.Ytfnmplipbgdniaa
