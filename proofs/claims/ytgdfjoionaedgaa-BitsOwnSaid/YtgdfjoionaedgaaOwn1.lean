/-
  The law BitsOwn answers true whatever its input, and leaves its arguments as they were; no condition.
-/
import Derived.Test.YtgdfjoionaedgaaBits8
import Derived.Test.YtgdfjoionaedgaaStr
import Derived.Test.YtgdfjoionaedgaaLaw
import Derived.Deep.DeepCutAuto
import Derived.Test.YtgdfjoionaedgaaRegion
namespace Go.Proofs.Ytgdfjoionaedgaa
open Go.RowKit

theorem own_long (Ab : Option Addr) (n cb : Nat) (y : Int) (w : World) (hn : 300 < n) (hnm : n ≤ 9223372036854775807) :
    Calls Try.prog 7 #[.slice Ab n cb, .int .u64 y] w fun e w' => e = .returned (.bool true) ∧ Fr [] w w' := by
  go_enter Try.func7, Try.ntmps7
  go_wp2_with fail
  refine (alive_any w).mono ?_
  rintro e w3 ⟨rfl, hF3⟩
  go_wp2_with fail
  go_ret
  exact ⟨rfl, hF3⟩

theorem xor_u8 (y : Nat) (hy : y < 256) : ∃ z : UInt8, bits BinOp.xor IntKind.u8 (y : Int) 255 = (z.toNat : Int) := by
  have h := u8_xor_nat y 255 hy (by omega)
  have h1 : y ^^^ 255 < 2 ^ 8 := Nat.xor_lt_two_pow (by omega) (by omega)
  refine ⟨UInt8.ofNat (y ^^^ 255), ?_⟩
  simp only [UInt8.toNat_ofNat', Nat.mod_eq_of_lt h1]
  exact h

/-- Bytes that a slice of the call's own holds, whatever they are. -/
def Some8 (w : World) (vo : Value) (n : Nat) : Prop := ∃ ys : List UInt8, ys.length = n ∧ Own w 5 vo (ys.map B8)

theorem Some8.slice {w : World} {vo : Value} {n : Nat} (h : Some8 w vo n) : ∃ A c, vo = .slice A n c := by
  obtain ⟨ys, hl, hO⟩ := h
  obtain ⟨A, c, rfl⟩ := hO.src.slice
  exact ⟨A, c, by rw [hl]⟩

theorem Some8.at_ {w : World} {A : Option Addr} {n c j : Nat} (h : Some8 w (.slice A n c) n) (hj : j < n) :
    ∃ g y, A = some ⟨g, 0, none⟩ ∧ y < 256 ∧ w.cell? ⟨g, j, none⟩ = some (.int .u8 ((y : Nat) : Int)) ∧ w.frozen? ⟨g, j, none⟩ = false ∧ g < w.heap.size ∧
      ∀ z : UInt8, Some8 (w.setCell ⟨g, j, none⟩ (.int .u8 (z.toNat : Int))) (.slice A n c) n := by
  obtain ⟨ys, hl, hO⟩ := h
  obtain ⟨g, rfl, e1, e2, -, -⟩ := hO.cell (j := j) (by simpa [hl] using hj)
  refine ⟨g, (ys.getD j 0).toNat, rfl, UInt8.toNat_lt _, ?_, e2, hO.lt g rfl, fun z => ⟨ys.set j z, by simp [hl], ?_⟩⟩
  · rw [e1, List.getElem?_map, List.getElem?_eq_getElem (by omega), List.getD_eq_getElem?_getD, List.getElem?_eq_getElem (by omega)]; rfl
  · have h2 := hO.set j (Value.int .u8 (z.toNat : Int))
    rw [List.map_set]
    exact h2

attribute [local go_sem ↓] cv_rule

set_option maxRecDepth 100000 in
set_option maxHeartbeats 4000000 in
theorem own_any (Ab : Option Addr) (n cb y : Nat) (bs : List UInt8) (w : World) (hb : Src w (.slice Ab n cb) (bs.map B8)) (hn : bs.length = n) (h300 : n ≤ 300) (hy : y < 18446744073709551616) :
    Calls Try.prog 7 #[.slice Ab n cb, .int .u64 (y : Int)] w fun e w' => e = .returned (.bool true) ∧ Fr [] w w' := by
  have Hn := Lib.hid hn; clear hn
  have HS := Lib.hid hb; clear hb
  go_enter Try.func7, Try.ntmps7
  go_wp2_with (at_builtin; refine wp_append_u8 (.tmp 17) (.tmp 18) (.slice (some ⟨w.heap.size, 0, none⟩) 0 0) [] (.slice Ab n cb) bs rfl rfl rfl rfl (Own.lit w 5 #[] 0 rfl (by simp [maxLen])) (HS.out.fr0 ((Fr.refl _ _).alloc _)) (by simp; have := Hn.out; omega) ?_)
  intro vo w1 hO1 hG1
  have hF1 : Fr [] w w1 := ((Fr.refl [] w).alloc (Obj.cells #[] 5)).trans hG1.1 (by intro x hx; simp [Value.ownBlock] at hx; subst hx; exact .inr (Nat.le_refl _))
  have hv1 : ∀ k, vo.ownBlock = some k → w.heap.size ≤ k := by
    intro k hk
    rcases hG1.2 with e | ⟨g, e, hg⟩
    · rw [e] at hk; simp [Value.ownBlock] at hk; omega
    · rw [e] at hk; injection hk with hk; subst hk; simp at hg; omega
  obtain ⟨Ao, co, rfl⟩ := hO1.src.slice
  rw [Hn.out] at hO1 hv1
  have HO1 := Lib.hid hO1; clear hO1 hG1
  have Hv1 := Lib.hid hv1; clear hv1
  rw [Hn.out]
  go_wp2_with fail
  refine (open_any _ bs w1 HO1.out.src (by rw [Hn.out]; omega)).mono ?_
  rintro e w2 ⟨p, v, rfl, hR2, hF2, hp2, hv2⟩
  have hO2 : Some8 w2 (.slice Ao n co) n := ⟨bs, Hn.out, HO1.out.fr hF2 (by simp)⟩
  have HR2 := Lib.hid hR2; clear hR2
  have HO2 := Lib.hid hO2; clear hO2
  have Hv2 := Lib.hid hv2; clear hv2
  have hFw2 : Fr [] w w2 := hF1.trans hF2 (by simp)
  have hso : ∀ k, (Value.slice Ao n co).ownBlock = some k → k < w1.heap.size := HO1.out.lt
  have Hso := Lib.hid hso; clear hso
  go_wp2_with fail
  refine (new_any w2).mono ?_
  rintro e w3 ⟨rfl, hw3⟩
  have hF3 : Fr [] w2 w3 := by rw [hw3]; exact (Fr.refl _ _).alloc _
  have hW3 : Wr w3 w2.heap.size (.slice none 0 0) [] := by rw [hw3]; exact Wr.new w2
  have hN3 : NewSince w2 w2.heap.size (.slice none 0 0) := ⟨Nat.le_refl _, by simp [Value.ownBlock]⟩
  clear hw3
  obtain ⟨q, hq⟩ : ∃ q, q = w2.heap.size := ⟨_, rfl⟩
  rw [← hq] at hW3 hN3 ⊢
  clear hq
  have HW3 := Lib.hid hW3; clear hW3
  go_wp2_with fail
  refine (put_ok q _ [] y 64 w3 HW3.out (by omega) (by omega) (by simp)).mono ?_
  rintro e w4 ⟨rfl, vw, hW4, hG4⟩
  obtain ⟨hF4, hN4⟩ := hG4.since hF3 hN3
  have HW4 := Lib.hid hW4; clear hW4 hG4 hF3 hN3
  go_wp2_with fail
  refine (bytes_any w4 q vw _ HW4.out (by simp)).mono ?_
  rintro e w5 ⟨bt, hbt, ct, rfl, hO5, hF5⟩
  have hbt8 : bt.length = 8 := by rw [hbt.1]; simp
  rw [hbt8] at hO5 ⊢
  have hT5 : Some8 w5 (.slice (some ⟨w4.heap.size, 0, none⟩) 8 ct) 8 := ⟨bt, hbt8, hO5⟩
  have HT5 := Lib.hid hT5; clear hT5 hO5
  clear hbt8
  obtain ⟨gt, hgt⟩ : ∃ gt, gt = w4.heap.size := ⟨_, rfl⟩
  rw [← hgt] at HT5 ⊢
  have q1 : q < gt := by rw [hgt]; exact HW4.out.lt
  have q2 : w2.heap.size ≤ q := hN4.1
  have q3 := Lib.hid (fun k (hk : vw.ownBlock = some k) => And.intro (hN4.2 k hk) (hgt ▸ HW4.out.lt2 k hk : k < gt))
  have q4 : p < w2.heap.size := HR2.out.lt
  have q5 := Lib.hid HR2.out.lt2
  have q6 : w2.heap.size ≤ gt := by rw [hgt]; exact hF4.size
  have q7 : w.heap.size ≤ gt := by have := hFw2.size; omega
  clear hgt hN4
  have hF25 : Fr [] w2 w5 := hF4.trans hF5 (by simp)
  have HR5 := Lib.hid (HR2.out.fr hF25 (by simp) (by simp))
  have HW5 := Lib.hid (HW4.out.fr hF5 (by simp) (by simp))
  have HO5 : Hid (Some8 w5 (.slice Ao n co) n) := by
    obtain ⟨ys, h1, h2⟩ := HO2.out
    exact Lib.hid ⟨ys, h1, h2.fr hF25 (by simp)⟩
  have hFw5 : Fr [] w w5 := hFw2.trans hF25 (by simp)
  have hs12 := hF2.size
  have hs24 := hF4.size
  clear HW3 HW4 HR2 HO2 HO1 hF4 hF5 hF25 hFw2 hF1 hF2
  have e300 : decide ((300 : Int) < (n : Int)) = false := by simp; omega
  go_wp2_with fail
  go_loopw [9] (fun s9 wr => ∃ k : Nat, k ≤ n ∧ s9 = .int .i64 (k : Int) ∧ Some8 wr (.slice Ao n co) n ∧ Fr (Value.slice Ao n co).ownBlock.toList w5 wr) (fun s9 _ => n - (intOf s9).toNat)
  case atStart => exact ⟨0, Nat.zero_le _, rfl, HO5.out, Fr.refl _ _⟩
  case round =>
    obtain ⟨k, hk, rfl, hS, hF⟩ := hrel
    by_cases hlt : k < n
    · obtain ⟨g, z, rfl, hz, c0, c1, c2, hset⟩ := hS.at_ hlt
      obtain ⟨z2, hz2⟩ := xor_u8 z hz
      have Hset := Lib.hid hset; clear hset hS
      go_wp2_with fail
      go_roundw
      case rel => exact ⟨k + 1, by omega, by go_num, Hset.out z2, hF.setCell (p := ⟨g, k, none⟩) (.inl (by simp [Value.ownBlock])) _⟩
      case measure => simp [intOf]; omega
    · obtain rfl : n = k := by omega
      have hFw6 : Fr [] w wr := hFw5.trans hF (by intro x hx; exact .inr (Hv1.out x (by simpa using hx)))
      have HR6 := Lib.hid (HR5.out.fr hF (by intro hm; have := Hso.out p (by simpa using hm); omega) (by intro k hk hm; have := Hso.out k (by simpa using hm); have := Hv2.out k hk; omega))
      have HW6 := Lib.hid (HW5.out.fr hF (by intro hm; have := Hso.out q (by simpa using hm); omega) (by intro k hk hm; have := Hso.out k (by simpa using hm); have := (q3.out k hk).1; omega))
      have HT6 : Hid (Some8 wr (.slice (some ⟨gt, 0, none⟩) 8 ct) 8) := by
        obtain ⟨ys, h1, h2⟩ := HT5.out
        exact Lib.hid ⟨ys, h1, h2.fr hF (by intro k hk hm; simp [Value.ownBlock] at hk; subst hk; have := Hso.out gt (by simpa using hm); omega)⟩
      obtain ⟨w6, hw6⟩ : ∃ w6, w6 = wr := ⟨_, rfl⟩
      rw [← hw6] at hFw6 HR6 HW6 HT6 ⊢
      clear hw6 hF hS HR5 HW5 HT5 HO5 hFw5
      go_wp2_with fail
      go_loopw [10] (fun s10 wr => ∃ k : Nat, k ≤ 8 ∧ s10 = .int .i64 (k : Int) ∧ Some8 wr (.slice (some ⟨gt, 0, none⟩) 8 ct) 8 ∧ Fr [gt] w6 wr) (fun s10 _ => 8 - (intOf s10).toNat)
      case atStart => exact ⟨0, Nat.zero_le _, rfl, HT6.out, Fr.refl _ _⟩
      case round =>
        obtain ⟨k, hk, rfl, hS, hF⟩ := hrel
        by_cases hlt : k < 8
        · obtain ⟨g, z, hg, hz, c0, c1, c2, hset⟩ := hS.at_ hlt
          injection hg with hg
          injection hg with hg
          subst hg
          have h0 := hset 0
          have Hset := Lib.hid h0; clear hset hS h0
          go_wp2_with fail
          go_roundw
          case rel => exact ⟨k + 1, by omega, by go_num, by simpa using Hset.out, hF.setCell (p := ⟨gt, k, none⟩) (.inl (by simp)) _⟩
          case measure => simp [intOf]; omega
        · obtain rfl : k = 8 := by omega
          have hFw7 : Fr [] w wr := hFw6.trans hF (by intro x hx; simp at hx; subst hx; exact .inr q7)
          have HR7 := Lib.hid (HR6.out.fr hF (by simp; omega) (by intro k hk hm; simp at hm; subst hm; have := q5.out _ hk; omega))
          have HW7 := Lib.hid (HW6.out.fr hF (by simp; omega) (by intro k hk hm; simp at hm; subst hm; have := (q3.out _ hk).2; omega))
          clear HR6 HW6 HT6 hFw6 hF hS
          go_wp2_with fail
          refine (bytes_any wr q vw _ HW7.out (by simp)).mono ?_
          rintro e w8 ⟨b2, hb2, c2, rfl, hO8, hF8⟩
          have hrow : rowOf b2 = digits y 64 := by
            have := hb2.whole (by simp)
            simpa using this
          have hb28 : b2.length = 8 := by rw [hb2.1]; simp
          have HO8 := Lib.hid hO8; clear hO8
          have Hrow := Lib.hid hrow; clear hrow
          have Hb8 := Lib.hid hb28; clear hb28
          clear hb2 hbt
          have hFw8 : Fr [] w w8 := hFw7.trans hF8 (by simp)
          have HR8 := Lib.hid (HR7.out.fr hF8 (by simp) (by simp))
          clear HR7 HW7 hFw7 hF8
          go_wp2_with fail
          refine (open_any _ b2 w8 HO8.out.src (by rw [Hb8.out]; omega)).mono ?_
          rintro e w9 ⟨r2, v2, rfl, hR9, hF9, hr2, hv2⟩
          have hFw9 : Fr [] w w9 := hFw8.trans hF9 (by simp)
          have HR9 := Lib.hid (HR8.out.fr hF9 (by simp) (by simp))
          have r3 : p ∉ [r2] := by have := HR8.out.lt; simp; omega
          have r4 := Lib.hid (fun k (hk : v.ownBlock = some k) => (by have := HR8.out.lt2 k hk; simp; omega : k ∉ [r2]))
          have r5 : w.heap.size ≤ r2 := by have := hFw8.size; omega
          have HRR := Lib.hid hR9; clear hR9
          clear HR8 hFw8 hF9 hr2 hv2 HO8
          go_wp2_with fail
          refine (get_ok r2 v2 b2 0 64 w9 HRR.out (by rw [Hb8.out]; omega) (by omega) (by rw [Hb8.out]; omega)).mono ?_
          have ey : number (((rowOf b2).drop 0).take 64) = y := by
            rw [Hrow.out, List.drop_zero, List.take_of_length_le (by simp)]
            exact number_digits_lt hy
          rw [ey]
          clear ey
          rintro e w10 ⟨rfl, -, hF10⟩
          have hFw10 : Fr [] w w10 := hFw9.trans hF10 (by intro x hx; simp at hx; subst hx; exact .inr r5)
          have HR10 := Lib.hid (HR9.out.fr hF10 r3 r4.out)
          have HS10 := Lib.hid (HS.out.fr0 hFw10)
          clear HR9 hFw9 hF10 HRR
          go_wp2_with fail
          have hbl : bs.length ≤ 1000 := by rw [Hn.out]; omega
          have ey1 : ((y : Int) == (y : Int)) = true := by simp
          refine wp_region_held_drew (S := fun _ => True) (by kernel_rfl) ?_ (fun hHeld => ?_)
          · (repeat' (first | trivial | assumption | refine ⟨?_, ?_⟩))
          refine wpAnyH_ready (rs := [0]) (by kernel_rfl) (by simp) ?_
          refine AllReadyH_pick rfl (fun K hK => ?_) (AllReadyH.nil)
          · go_simp
            refine (alive_any _).mono ?_
            rintro e wL ⟨rfl, fL⟩
            have hF0 := (Fr.refl [] w10).drew.trans fL (by simp)
            have HE := Lib.hid (HR10.out.fr hF0 (by simp) (by simp))
            have sb := run_cv (HS10.out.fr0 hF0)
            have fin := hFw10.trans hF0 (by simp)
            go_wp2_with fail
            refine hK.out _ _ ?_ (fun hHeld => ?_)
            · (repeat' (first | trivial | assumption | refine ⟨?_, ?_⟩))
            clear hK K
            (try simp only [Act.put, List.setIfInBounds_toArray, List.set_cons_zero, List.set_cons_succ])
            refine wpAnyH_add (fun W => (cv (.slice Ab n cb)).run Try.prog W = .ok (.string (strOf bs)) W) _ _ _ _ ?_
            have hHeld2 := And.intro hHeld sb
            refine wpAnyH_pick 1 (v := ?v1) rfl (by kernel_rfl) (by kernel_rfl) (by kernel_rfl) (fun _ _ _ h => h) (by assumption) (by rfl) ?hy1 ?rest1
            case hy1 => (intro w hSw; (try dsimp only at hSw); go_simp) <;> (with_reducible rfl)
            (try simp only [Act.put, List.setIfInBounds_toArray, List.set_cons_zero, List.set_cons_succ])
            refine wpAnyH_pick 2 (v := ?v2) rfl (by kernel_rfl) (by kernel_rfl) (by kernel_rfl) (fun _ _ _ h => h) (by assumption) (by rfl) ?hy2 ?rest2
            case hy2 => (intro w hSw; (try dsimp only at hSw); go_simp) <;> (with_reducible rfl)
            (try simp only [Act.put, List.setIfInBounds_toArray, List.set_cons_zero, List.set_cons_succ])
            refine wpAnyH_pick 5 (v := ?v3) rfl (by kernel_rfl) (by kernel_rfl) (by kernel_rfl) (fun _ _ _ h => h) (by assumption) (by rfl) ?hy3 ?rest3
            case hy3 => (intro w hSw; (try dsimp only at hSw); go_simp) <;> (with_reducible rfl)
            (try simp only [Act.put, List.setIfInBounds_toArray, List.set_cons_zero, List.set_cons_succ])
            refine wpAnyH_pick 6 (v := ?v4) rfl (by kernel_rfl) (by kernel_rfl) (by kernel_rfl) (fun _ _ _ h => h) (by assumption) (by rfl) ?hy4 ?rest4
            case hy4 => (intro w hSw; (try dsimp only at hSw); go_simp) <;> (with_reducible rfl)
            (try simp only [Act.put, List.setIfInBounds_toArray, List.set_cons_zero, List.set_cons_succ])
            refine wpAnyH_ready (rs := [3]) (by kernel_rfl) (by simp) ?_
            refine AllReadyH_pick rfl (fun K hK => ?_) (AllReadyH.nil)
            · go_simp
              refine (rest_row0 _ p v bs HE.out (by omega)).mono ?_
              rintro e wB ⟨vB, rfl, hOB, hFB, -⟩
              have sB := run_cv hOB.src
              have sb2 := run_cv (HS10.out.fr0 (hF0.trans hFB (by simp)))
              have fin2 := fin.trans hFB (by simp)
              go_wp2_with fail
              refine hK.out _ _ ?_ (fun hHeld => ?_)
              · (repeat' (first | trivial | assumption | refine ⟨?_, ?_⟩))
              clear hK K
              (try simp only [Act.put, List.setIfInBounds_toArray, List.set_cons_zero, List.set_cons_succ])
              refine wpAnyH_add (fun W => (cv vB).run Try.prog W = .ok (.string (strOf bs)) W) _ _ _ _ ?_
              have hHeld2 := And.intro hHeld sB
              refine wpAnyH_pick 4 (v := ?v5) rfl (by kernel_rfl) (by kernel_rfl) (by kernel_rfl) (fun _ _ _ h => h) (by assumption) (by rfl) ?hy5 ?rest5
              case hy5 => (intro w hSw; (try dsimp only at hSw); go_simp) <;> (with_reducible rfl)
              (try simp only [Act.put, List.setIfInBounds_toArray, List.set_cons_zero, List.set_cons_succ])
              refine wpAnyH_pick 7 (v := ?v6) rfl (by kernel_rfl) (by kernel_rfl) (by kernel_rfl) (fun _ _ _ h => h) (by assumption) (by rfl) ?hy6 ?rest6
              case hy6 => (intro w hSw; (try dsimp only at hSw); go_simp) <;> (with_reducible rfl)
              (try simp only [Act.put, List.setIfInBounds_toArray, List.set_cons_zero, List.set_cons_succ])
              refine wpAnyH_pick 8 (v := ?v7) rfl (by kernel_rfl) (by kernel_rfl) (by kernel_rfl) (fun _ _ _ h => h) (by assumption) (by rfl) ?hy7 ?rest7
              case hy7 => (intro w hSw; (try dsimp only at hSw); go_simp) <;> (with_reducible rfl)
              (try simp only [Act.put, List.setIfInBounds_toArray, List.set_cons_zero, List.set_cons_succ])
              refine wpAnyH_pick 9 (v := ?v8) rfl (by kernel_rfl) (by kernel_rfl) (by kernel_rfl) (fun _ _ _ h => h) (by assumption) (by rfl) ?hy8 ?rest8
              case hy8 => (intro w hSw; (try dsimp only at hSw); go_simp) <;> (with_reducible rfl)
              (try simp only [Act.put, List.setIfInBounds_toArray, List.set_cons_zero, List.set_cons_succ])
              refine wpAnyH_pick 10 (v := ?v9) rfl (by kernel_rfl) (by kernel_rfl) (by kernel_rfl) (fun _ _ _ h => h) (by assumption) (by rfl) ?hy9 ?rest9
              case hy9 => (intro w hSw; (try dsimp only at hSw); go_simp) <;> (with_reducible rfl)
              (try simp only [Act.put, List.setIfInBounds_toArray, List.set_cons_zero, List.set_cons_succ])
              refine wpAnyH_pick 11 (v := ?v10) rfl (by kernel_rfl) (by kernel_rfl) (by kernel_rfl) (fun _ _ _ h => h) (by assumption) (by rfl) ?hy10 ?rest10
              case hy10 => (intro w hSw; (try dsimp only at hSw); go_simp) <;> (with_reducible rfl)
              (try simp only [Act.put, List.setIfInBounds_toArray, List.set_cons_zero, List.set_cons_succ])
              refine wpAnyH_pick 12 (v := ?v11) rfl (by kernel_rfl) (by kernel_rfl) (by kernel_rfl) (fun _ _ _ h => h) (by assumption) (by rfl) ?hy11 ?rest11
              case hy11 => (intro w hSw; (try dsimp only at hSw); go_simp) <;> (with_reducible rfl)
              (try simp only [Act.put, List.setIfInBounds_toArray, List.set_cons_zero, List.set_cons_succ])
              refine wpAnyH_pick 13 (v := ?v12) rfl (by kernel_rfl) (by kernel_rfl) (by kernel_rfl) (fun _ _ _ h => h) (by assumption) (by rfl) ?hy12 ?rest12
              case hy12 => (intro w hSw; (try dsimp only at hSw); go_simp) <;> (with_reducible rfl)
              (try simp only [Act.put, List.setIfInBounds_toArray, List.set_cons_zero, List.set_cons_succ])
              refine wpAnyH_pick 14 (v := ?v13) rfl (by kernel_rfl) (by kernel_rfl) (by kernel_rfl) (fun _ _ _ h => h) (by assumption) (by rfl) ?hy13 ?rest13
              case hy13 => (intro w hSw; (try dsimp only at hSw); go_simp) <;> (with_reducible rfl)
              (try simp only [Act.put, List.setIfInBounds_toArray, List.set_cons_zero, List.set_cons_succ])
              refine wpAnyH_pick 15 (v := ?v14) rfl (by kernel_rfl) (by kernel_rfl) (by kernel_rfl) (fun _ _ _ h => h) (by assumption) (by rfl) ?hy14 ?rest14
              case hy14 => (intro w hSw; (try dsimp only at hSw); go_simp) <;> (with_reducible rfl)
              (try simp only [Act.put, List.setIfInBounds_toArray, List.set_cons_zero, List.set_cons_succ])
              refine wpAnyH_pick 16 (v := ?v15) rfl (by kernel_rfl) (by kernel_rfl) (by kernel_rfl) (fun _ _ _ h => h) (by assumption) (by rfl) ?hy15 ?rest15
              case hy15 => (intro w hSw; (try dsimp only at hSw); go_simp) <;> (with_reducible rfl)
              (try simp only [Act.put, List.setIfInBounds_toArray, List.set_cons_zero, List.set_cons_succ])
              refine wpAnyH_pick 17 (v := ?v16) rfl (by kernel_rfl) (by kernel_rfl) (by kernel_rfl) (fun _ _ _ h => h) (by assumption) (by rfl) ?hy16 ?rest16
              case hy16 => (intro w hSw; (try dsimp only at hSw); go_simp) <;> (with_reducible rfl)
              (try simp only [Act.put, List.setIfInBounds_toArray, List.set_cons_zero, List.set_cons_succ])
              refine wpAnyH_pick 18 (v := ?v17) rfl (by kernel_rfl) (by kernel_rfl) (by kernel_rfl) (fun _ _ _ h => h) (by assumption) (by rfl) ?hy17 ?rest17
              case hy17 => (intro w hSw; (try dsimp only at hSw); go_simp) <;> (with_reducible rfl)
              (try simp only [Act.put, List.setIfInBounds_toArray, List.set_cons_zero, List.set_cons_succ])
              refine wpAnyH_done (by kernel_rfl) ?_ _
              go_wp2_with fail
              go_ret
              exact ⟨rfl, fin2⟩
end Go.Proofs.Ytgdfjoionaedgaa
