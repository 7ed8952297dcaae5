/-
  Contract of the document's Divide of layer 3; condition: the factors are at most as many as named.
-/
import Derived.Test.YtdpkhhmmoiianaaRef3b
namespace Go.Proofs.Ytdpkhhmmoiianaa
open Go.RowKit

theorem dvs_take (r : W32) (l : List Bool) (i : Nat) (d : Bool) (h : l[i]? = some d) : dvs r (l.take (i + 1)) = dv (dvs r (l.take i)) d := by
  rw [List.take_add_one, h, dvs_append]; rfl

theorem pwCells_at (k : Nat) (h : k < 14) : pwCells[k]? = some (.int .i64 ((pw.getD k 0 : Nat) : Int)) := by
  unfold pwCells
  rw [List.getElem?_toArray, List.getElem?_map, pw_at k h]; rfl

set_option maxRecDepth 20000 in
set_option maxHeartbeats 4000000 in
theorem divide_any (src : Value) (l : List Bool) (w : World) (hs : Src w src ((bitsU l).map B8)) (hl : l.length ≤ 1000000000) :
    Calls Try.prog 20 #[src] w fun e w' => e = .returned (.agg (arrB fun j => (dvs 0#32 l).getLsbD j)) ∧ Fr [] w w' := by
  obtain ⟨A, c, rfl⟩ := hs.slice
  have HS := Lib.hid hs; clear hs
  rw [bitsU_length] at HS ⊢
  obtain ⟨n, hnl⟩ : ∃ n, n = l.length := ⟨_, rfl⟩
  rw [← hnl] at HS hl ⊢
  have Hn := Lib.hid hnl; clear hnl
  have z := (zero_of_info zeroB).1
  go_enter Try.func20, Try.ntmps20
  go_wp2_with fail
  have hF : Fr [] w ((w.alloc (Obj.cells (Array.replicate 32 (Value.int IntKind.u8 0)) 42)).alloc (Obj.cells (Array.replicate 32 (Value.int IntKind.u8 0)) 42)) := ((Fr.refl _ _).alloc _).alloc _
  have hA := (Blk.new w 42 (Array.replicate 32 (Value.int IntKind.u8 0))).alloc (Obj.cells (Array.replicate 32 (Value.int IntKind.u8 0)) 42)
  have hB := Blk.new (w.alloc (Obj.cells (Array.replicate 32 (Value.int IntKind.u8 0)) 42)) 42 (Array.replicate 32 (Value.int IntKind.u8 0))
  rw [World.size_alloc] at hB
  generalize hw2 : ((w.alloc (Obj.cells (Array.replicate 32 (Value.int IntKind.u8 0)) 42)).alloc (Obj.cells (Array.replicate 32 (Value.int IntKind.u8 0)) 42)) = w2 at hF hA hB ⊢
  rw [arrB_zero] at hB
  obtain ⟨q, p, hq1, hp1⟩ : ∃ q p, q = w.heap.size ∧ p = w.heap.size + 1 := ⟨_, _, rfl, rfl⟩
  rw [← hp1] at hB ⊢
  rw [← hq1] at hA ⊢
  have hd : q < p ∧ w.heap.size ≤ q := by omega
  have HD := Lib.hid hd
  clear hw2 hq1 hp1 hd z
  have HF := Lib.hid hF; clear hF
  have HA := Lib.hid hA; clear hA
  have HB := Lib.hid hB; clear hB
  go_loopw [4] (fun s4 wr => ∃ (i : Nat) (r : W32) (cs : Array Value), i ≤ n ∧ s4 = .int .i64 (i : Int) ∧ r = dvs 0#32 (l.take i) ∧ Fr [] w wr ∧ Blk wr q 42 cs ∧ cs.size = 32 ∧ Blk wr p 42 (arrB fun j => r.getLsbD j)) (fun s4 _ => n - (intOf s4).toNat)
  case atStart => exact ⟨0, 0#32, _, Nat.zero_le _, rfl, rfl, HF.out, HA.out, by simp, HB.out⟩
  case round =>
    obtain ⟨i, r, cs, hi, rfl, hr, hF, hA, hcs, hB⟩ := hrel
    have Hr := Lib.hid hr; clear hr
    have Hcs := Lib.hid hcs; clear hcs
    by_cases hlt : i < n
    · have eg : decide (i < n) = true := by simp [hlt]
      have c0 := hB.cell 0
      rw [arrB_get _ (show 0 < 32 by omega)] at c0
      obtain ⟨b0, hb0⟩ : ∃ b, b = r.getLsbD 0 := ⟨_, rfl⟩
      rw [← hb0] at c0
      have Hb0 := Lib.hid hb0; clear hb0
      rw [shf_start] at hB
      have HF2 := Lib.hid hF; clear hF
      have HA2 := Lib.hid hA; clear hA
      have HB2 := Lib.hid hB; clear hB
      go_wp2_with fail
      go_loopw [6] (fun s6 wx => ∃ k : Nat, k ≤ 31 ∧ s6 = .int .i64 (k : Int) ∧ Fr [] w wx ∧ Blk wx q 42 cs ∧ Blk wx p 42 (arrB (shf r k))) (fun s6 _ => 31 - (intOf s6).toNat)
      case atStart => exact ⟨0, by omega, rfl, HF2.out, HA2.out, HB2.out⟩
      case round =>
        obtain ⟨k, hk, rfl, hF, hA, hB⟩ := hrel
        by_cases hlt2 : k < 31
        · have eg2 : decide ((k : Int) < 31) = true := by simp; omega
          have c1 := hB.cell (k + 1)
          have c2 := hB.cell k
          have c3 := hB.frozen k
          rw [arrB_get _ (show k + 1 < 32 by omega)] at c1
          rw [arrB_get _ (show k < 32 by omega)] at c2
          have h3 := hB.set_ k (.int .u8 ((shf r k (k + 1)).toNat : Int))
          rw [arrB_set, shf_step] at h3
          have HF3 := Lib.hid hF; clear hF
          have HA3 := Lib.hid hA; clear hA
          have H3 := Lib.hid h3; clear h3 hB
          generalize shf r k (k + 1) = b1 at c1 H3
          go_wp2_with fail
          exact ⟨⟨k + 1, by omega, by simp, HF3.out.setCell (.inr (by have := HD.out; simp; omega)) _, HA3.out.far (by have := HD.out; simp; omega) _, H3.out⟩, by simp [intOf]; omega⟩
        · obtain rfl : k = 31 := by omega
          have eg2 : decide ((31 : Int) < 31) = false := by decide
          obtain ⟨d, hd⟩ : ∃ x, l[i]? = some x := ⟨_, List.getElem?_eq_getElem (by have := Hn.out; omega)⟩
          have hd2 : (bitsU l)[i]? = some (u8b d) := by simp [bitsU, hd]
          have hgt := HS.out.fr0 hF
          obtain ⟨ad, rfl, c1⟩ := hgt.cellAt hd2
          rw [B8_u8b] at c1
          have Hd := Lib.hid hd; clear hd hd2 hgt
          have c2 := hB.cell 31
          have c3 := hB.frozen 31
          rw [arrB_get _ (show 31 < 32 by omega)] at c2
          have h3 := hB.set_ 31 (.int .u8 (d.toNat : Int))
          rw [arrB_set, shf_end] at h3
          have h4 := hF.setCell (p := ⟨p, 31, none⟩) (.inr (by have := HD.out; simp; omega)) (.int .u8 (d.toNat : Int))
          have h5 := hA.far (p := ⟨p, 31, none⟩) (by have := HD.out; simp; omega) (.int .u8 (d.toNat : Int))
          generalize hW : wr.setCell ⟨p, 31, none⟩ (.int .u8 (d.toNat : Int)) = w5 at h3 h4 h5
          have HW := Lib.hid hW; clear hW
          have H3 := Lib.hid h3; clear h3 hB
          have H4 := Lib.hid h4; clear h4 hF
          have H5 := Lib.hid h5; clear h5 hA
          clear HF2 HA2 HB2 c0
          go_upto_region 11 with fail
          rw [HW.out]
          clear c1 c2 c3
          cases b0
          · have h6 := H3.out
            rw [flp_none r d Hb0.out.symm] at h6
            have H6 := Lib.hid h6; clear h6
            go_wp2_with fail
            refine ⟨⟨i + 1, dv r d, cs, by omega, by simp, ?_, H4.out, H5.out, Hcs.out, H6.out⟩, by simp [intOf]; omega⟩
            rw [dvs_take _ _ _ _ Hd.out, Hr.out]
          · go_wp2_with fail
            refine (powers_any _).mono ?_
            rintro e w6 ⟨rfl, hw6⟩
            have hG : Blk w6 w5.heap.size 3 pwCells := by rw [hw6]; exact Blk.new _ _ _
            have hP : Blk w6 p 42 (arrB (flp r d 0)) := by
              have := H3.out.alloc (.cells pwCells 3)
              rw [flp_zero, ← hw6] at this
              exact this
            have hF6 : Fr [] w w6 := by rw [hw6]; exact H4.out.alloc _
            have hQ : Blk w6 q 42 cs := by rw [hw6]; exact H5.out.alloc _
            have hgl : p < w5.heap.size := H3.out.lt
            obtain ⟨g, hg⟩ : ∃ g, g = w5.heap.size := ⟨_, rfl⟩
            rw [← hg] at hG hgl ⊢
            have Hgl := Lib.hid hgl; clear hgl hg hw6
            have HG := Lib.hid hG; clear hG
            have HP := Lib.hid hP; clear hP
            have HF6 := Lib.hid hF6; clear hF6
            have HQ := Lib.hid hQ; clear hQ
            go_wp2_with fail
            go_loopw [8] (fun s8 wx => ∃ k : Nat, k ≤ 14 ∧ s8 = .int .i64 (k : Int) ∧ Fr [] w wx ∧ Blk wx q 42 cs ∧ Blk wx p 42 (arrB (flp r d k)) ∧ Blk wx g 3 pwCells) (fun s8 _ => 14 - (intOf s8).toNat)
            case atStart => exact ⟨0, by omega, rfl, HF6.out, HQ.out, HP.out, HG.out⟩
            case round =>
              obtain ⟨k, hk, rfl, hF, hA, hB, hG⟩ := hrel
              by_cases hlt3 : k < 14
              · have eg3 : decide ((k : Int) < 14) = true := by simp; omega
                have hlI : (k : Int) < 14 := by omega
                obtain ⟨m, hm⟩ : ∃ m, m = pw.getD k 0 := ⟨_, rfl⟩
                have hml := pw_le k hlt3
                rw [← hm] at hml
                have cG := hG.drew.cell k
                have eG : pwCells[k]? = some (.int .i64 (m : Int)) := by
                  rw [hm]; exact pwCells_at k hlt3
                rw [eG] at cG
                obtain ⟨M, hM⟩ : ∃ M, M = 31 - m := ⟨_, rfl⟩
                have hMl : M < 32 := by omega
                have cB := hB.drew.cell M
                have cF := hB.drew.frozen M
                rw [arrB_get _ hMl] at cB
                obtain ⟨b, hb⟩ : ∃ b, b = flp r d k M := ⟨_, rfl⟩
                rw [← hb] at cB
                have e31 : (31 : Int) - (m : Int) = (M : Int) := by omega
                have ewM : IntKind.i64.wrap (M : Int) = (M : Int) := IntWalk.i64_in _ (by omega)
                have e1 : (1 : Int) - (b.toNat : Int) = ((!b).toNat : Int) := by cases b <;> rfl
                obtain ⟨b', hb'⟩ : ∃ b', b' = !b := ⟨_, rfl⟩
                rw [← hb'] at e1
                have hbl : b'.toNat ≤ 1 := by cases b' <;> simp
                have ewb : IntKind.u8.wrap (b'.toNat : Int) = (b'.toNat : Int) := IntWalk.u8_in _ (by omega)
                have h7 := hB.drew.set_ M (.int .u8 (b'.toNat : Int))
                rw [arrB_set, hb', hb, hM, hm, flp_step r d k hlt3, ← hm, ← hM, ← hb, ← hb'] at h7
                have h8 := hF.drew.setCell (p := ⟨p, M, none⟩) (.inr (by have := HD.out; simp; omega)) (.int .u8 (b'.toNat : Int))
                have h9 := hA.drew.far (p := ⟨p, M, none⟩) (by have := HD.out; simp; omega) (.int .u8 (b'.toNat : Int))
                have h10 := hG.drew.far (p := ⟨p, M, none⟩) (by have := Hgl.out; simp; omega) (.int .u8 (b'.toNat : Int))
                have cG2 := h10.cell k
                rw [eG] at cG2
                have H7 := Lib.hid h7; clear h7 hB
                have H8 := Lib.hid h8; clear h8 hF
                have H9 := Lib.hid h9; clear h9 hA
                have H10 := Lib.hid h10; clear h10 hG
                have Hm := Lib.hid hm; clear hm eG
                have HM := Lib.hid hM; clear hM
                have Hb := Lib.hid hb; clear hb
                have Hb' := Lib.hid hb'; clear hb'
                have hm32 : (M : Int) < 32 := by omega
                go_upto_region 16 with fail
                refine wp_region_held_drew (S := fun W => W.cell? ⟨g, k, none⟩ = some (.int .i64 (m : Int))) (by kernel_rfl) ?_ (fun hHeld => ?_)
                · (repeat' (first | trivial | assumption | refine ⟨?_, ?_⟩))
                refine wpAnyH_pick 0 (v := ?_) rfl (by kernel_rfl) (by kernel_rfl) (by kernel_rfl) (fun _ _ _ h => h) (by assumption) (by rfl) ?_ ?_
                rotate_left
                · (intro w hSw; (try dsimp only at hSw); go_simp) <;> (with_reducible rfl)
                (try simp only [Act.put, List.setIfInBounds_toArray, List.set_cons_zero, List.set_cons_succ])
                refine wpAnyH_pick 1 (v := ?_) rfl (by kernel_rfl) (by kernel_rfl) (by kernel_rfl) (fun _ _ _ h => h) (by assumption) (by rfl) ?_ ?_
                rotate_left
                · (intro w hSw; (try dsimp only at hSw); go_simp) <;> (with_reducible rfl)
                (try simp only [Act.put, List.setIfInBounds_toArray, List.set_cons_zero, List.set_cons_succ])
                refine wpAnyH_pick 2 (v := ?_) rfl (by kernel_rfl) (by kernel_rfl) (by kernel_rfl) (fun _ _ _ h => h) (by assumption) (by rfl) ?_ ?_
                rotate_left
                · (intro w hSw; (try dsimp only at hSw); go_simp) <;> (with_reducible rfl)
                (try simp only [Act.put, List.setIfInBounds_toArray, List.set_cons_zero, List.set_cons_succ])
                refine wpAnyH_pick 3 (v := ?_) rfl (by kernel_rfl) (by kernel_rfl) (by kernel_rfl) (fun _ _ _ h => h) (by assumption) (by rfl) ?_ ?_
                rotate_left
                · (intro w hSw; (try dsimp only at hSw); go_simp) <;> (with_reducible rfl)
                (try simp only [Act.put, List.setIfInBounds_toArray, List.set_cons_zero, List.set_cons_succ])
                refine wpAnyH_pick 4 (v := ?_) rfl (by kernel_rfl) (by kernel_rfl) (by kernel_rfl) (fun _ _ _ h => h) (by assumption) (by rfl) ?_ ?_
                rotate_left
                · (intro w hSw; (try dsimp only at hSw); go_simp) <;> (with_reducible rfl)
                (try simp only [Act.put, List.setIfInBounds_toArray, List.set_cons_zero, List.set_cons_succ])
                refine wpAnyH_pick 5 (v := ?_) rfl (by kernel_rfl) (by kernel_rfl) (by kernel_rfl) (fun _ _ _ h => h) (by assumption) (by rfl) ?_ ?_
                rotate_left
                · (intro w hSw; (try dsimp only at hSw); go_simp) <;> (with_reducible rfl)
                (try simp only [Act.put, List.setIfInBounds_toArray, List.set_cons_zero, List.set_cons_succ])
                refine wpAnyH_pick 6 (v := ?_) rfl (by kernel_rfl) (by kernel_rfl) (by kernel_rfl) (fun _ _ _ h => h) (by assumption) (by rfl) ?_ ?_
                rotate_left
                · (intro w hSw; (try dsimp only at hSw); go_simp) <;> (with_reducible rfl)
                (try simp only [Act.put, List.setIfInBounds_toArray, List.set_cons_zero, List.set_cons_succ])
                refine wpAnyH_pick 7 (v := ?_) rfl (by kernel_rfl) (by kernel_rfl) (by kernel_rfl) (fun _ _ _ h => h) (by assumption) (by rfl) ?_ ?_
                rotate_left
                · (intro w hSw; (try dsimp only at hSw); go_simp) <;> (with_reducible rfl)
                (try simp only [Act.put, List.setIfInBounds_toArray, List.set_cons_zero, List.set_cons_succ])
                refine wpAnyH_pick 8 (v := ?_) rfl (by kernel_rfl) (by kernel_rfl) (by kernel_rfl) (fun _ _ _ h => h) (by assumption) (by rfl) ?_ ?_
                rotate_left
                · (intro w hSw; (try dsimp only at hSw); go_simp) <;> (with_reducible rfl)
                (try simp only [Act.put, List.setIfInBounds_toArray, List.set_cons_zero, List.set_cons_succ])
                refine wpAnyH_pick 9 (v := ?_) rfl (by kernel_rfl) (by kernel_rfl) (by kernel_rfl) (fun _ _ _ h => h) (by assumption) (by rfl) ?_ ?_
                rotate_left
                · (intro w hSw; (try dsimp only at hSw); go_simp) <;> (with_reducible rfl)
                (try simp only [Act.put, List.setIfInBounds_toArray, List.set_cons_zero, List.set_cons_succ])
                refine wpAnyH_pick 10 (v := ?_) rfl (by kernel_rfl) (by kernel_rfl) (by kernel_rfl) (fun _ _ _ h => h) (by assumption) (by rfl) ?_ ?_
                rotate_left
                · (intro w hSw; (try dsimp only at hSw); go_simp) <;> (with_reducible rfl)
                (try simp only [Act.put, List.setIfInBounds_toArray, List.set_cons_zero, List.set_cons_succ])
                refine wpAnyH_ready (rs := [11]) (by kernel_rfl) (by simp) ?_
                refine AllReadyH_pick rfl (fun K hK => ?_) (AllReadyH.nil)
                skip
                go_simp
                refine hK.out _ _ ?_ (fun hHeld => ?_)
                · (repeat' (first | trivial | assumption | refine ⟨?_, ?_⟩))
                clear hK K
                (try simp only [Act.put, List.setIfInBounds_toArray, List.set_cons_zero, List.set_cons_succ])
                refine wpAnyH_pick 12 (v := ?_) rfl (by kernel_rfl) (by kernel_rfl) (by kernel_rfl) (fun _ _ _ h => h) (by assumption) (by rfl) ?_ ?_
                rotate_left
                · (intro w hSw; (try dsimp only at hSw); go_simp) <;> (with_reducible rfl)
                (try simp only [Act.put, List.setIfInBounds_toArray, List.set_cons_zero, List.set_cons_succ])
                refine wpAnyH_pick 13 (v := ?_) rfl (by kernel_rfl) (by kernel_rfl) (by kernel_rfl) (fun _ _ _ h => h) (by assumption) (by rfl) ?_ ?_
                rotate_left
                · (intro w hSw; (try dsimp only at hSw); go_simp) <;> (with_reducible rfl)
                (try simp only [Act.put, List.setIfInBounds_toArray, List.set_cons_zero, List.set_cons_succ])
                refine wpAnyH_ready (rs := [14]) (by kernel_rfl) (by simp) ?_
                refine AllReadyH_pick rfl (fun K hK => ?_) (AllReadyH.nil)
                skip
                go_simp
                refine hK.out _ _ ?_ (fun hHeld => ?_)
                · (repeat' (first | trivial | assumption | refine ⟨?_, ?_⟩))
                clear hK K
                (try simp only [Act.put, List.setIfInBounds_toArray, List.set_cons_zero, List.set_cons_succ])
                refine wpAnyH_done (by kernel_rfl) ?_ _
                skip
                have k8 : Fr [] w (wr.setCell ⟨p, M, none⟩ (.int .u8 (b'.toNat : Int))).drew := H8.out
                have k7 : Blk (wr.setCell ⟨p, M, none⟩ (.int .u8 (b'.toNat : Int))).drew p 42 (arrB (flp r d (k + 1))) := H7.out
                have k9 : Blk (wr.setCell ⟨p, M, none⟩ (.int .u8 (b'.toNat : Int))).drew q 42 cs := H9.out
                have k10 : Blk (wr.setCell ⟨p, M, none⟩ (.int .u8 (b'.toNat : Int))).drew g 3 pwCells := H10.out
                generalize (wr.setCell ⟨p, M, none⟩ (.int .u8 (b'.toNat : Int))).drew = w7 at k7 k8 k9 k10 ⊢
                clear hHeld cG cB cF cG2 H7 H8 H9 H10
                go_wp2_with fail
                exact ⟨⟨k + 1, by omega, by simp, k8, k9, k7, k10⟩, by simp [intOf]; omega⟩
              · obtain rfl : k = 14 := by omega
                have eg3 : decide ((14 : Int) < 14) = false := by decide
                rw [flp_all r d Hb0.out.symm] at hB
                have HF7 := Lib.hid hF; clear hF
                have HA7 := Lib.hid hA; clear hA
                have HB7 := Lib.hid hB; clear hB hG
                go_wp2_with fail
                refine ⟨⟨i + 1, dv r d, cs, by omega, by simp, ?_, HF7.out, HA7.out, Hcs.out, HB7.out⟩, by simp [intOf]; omega⟩
                rw [dvs_take _ _ _ _ Hd.out, Hr.out]
    · obtain rfl : i = n := by omega
      have eg : decide (i < i) = false := by simp
      have hz : (Try.prog.info? 42).map (·.size) = some (arrB fun j => r.getLsbD j).size := by rw [arrB_size]; exact (zero_of_info zeroB).2
      have HF2 := Lib.hid hF; clear hF
      have HA2 := Lib.hid hA; clear hA
      have HB2 := Lib.hid hB; clear hB
      go_upto_region 17 with fail
      go_wp2_with (first
        | refine wpList_load_row rfl 42 _ rfl p rfl 42 _ _ _ HB2.out.here undB rfl hz ?_
        | refine wpList_store_row rfl 42 _ _ rfl q _ rfl rfl 42 cs HA2.out.here hz (by rw [Hcs.out, arrB_size]) (arrB_one _) ?_)
      refine bodyPost_ret (v := .agg (arrB fun j => r.getLsbD j)) ?_ rfl ⟨?_, ?_⟩
      · exact results_cell_row Try.results20 _ _ q 42 _ _ _ rfl (setRow_heap wr q cs _ _ _ HA2.out.here) undB rfl hz
      · rw [Hr.out, Hn.out, List.take_length]
      · exact HF2.out.trans (S' := [q]) (Fr.setRow wr q _) (by intro x hx; simp at hx; subst hx; exact .inr HD.out.2)
end Go.Proofs.Ytdpkhhmmoiianaa
