/-
  Contracts of the document's book: PutSigned, PutOne.
-/
import Derived.Test.YtfjlepnodmeaaaaRef5c
namespace Go.Proofs.Ytfjlepnodmeaaaa
open Go.RowKit

theorem rPutSigned_bad (t v : Int) (a b : Value) (w : World) (h : ¬ (0 ≤ t ∧ t ≤ 15) ∨ v < -1048576 ∨ 1048576 < v) (hv1 : -9223372036854775808 ≤ v) (hv2 : v ≤ 9223372036854775807) :
    Calls Try.prog 29 #[a, b, .int .i64 t, .int .i64 v] w fun r w' => r = .returned (.int .i64 1) ∧ w' = w := by
  by_cases h1 : v < -1048576
  · have e1 : decide (v < -1048576) = true := by simpa using h1
    go_enter Try.func29, Try.ntmps29
    go_wp2_with fail
    go_ret
    exact ⟨rfl, rfl⟩
  · have e1 : decide (v < -1048576) = false := by simpa using h1
    by_cases h2 : 1048576 < v
    · have e2 : decide (1048576 < v) = true := by simpa using h2
      go_enter Try.func29, Try.ntmps29
      go_wp2_with fail
      go_ret
      exact ⟨rfl, rfl⟩
    · have e2 : decide (1048576 < v) = false := by simpa using h2
      by_cases h3 : 0 ≤ v
      · have q1 : -v ≤ v := by omega
        have HB := Lib.hid (rPut_bad t v a b w (by omega))
        go_enter Try.func29, Try.ntmps29
        go_wp2_with fail
        refine HB.out.mono ?_
        rintro r w1 ⟨rfl, rfl⟩
        go_wp2_with fail
        go_ret
        exact ⟨rfl, rfl⟩
      · have q1 : ¬ (-v ≤ v) := by omega
        have HB := Lib.hid (rPut_bad t (-v) a b w (by omega))
        go_enter Try.func29, Try.ntmps29
        go_wp2_with fail
        refine HB.out.mono ?_
        rintro r w1 ⟨rfl, rfl⟩
        go_wp2_with fail
        go_ret
        exact ⟨rfl, rfl⟩

theorem PenAt.len {w0 W : World} {q p t : Nat} {v0 : Value} {B : Chs} {e : Enc} {l m : List Ev} (h : PenAt w0 q p t v0 B e W l) (k : m = l) : PenAt w0 q p t v0 B e W m := k ▸ h

theorem rPutSigned_ok (w : World) (q p t : Nat) (x : Int) (v : Value) (B : Chs) (e : Enc) (h : Pen w q B p v e) (ht : t < 16) (h1 : -1048576 ≤ x) (h2 : x ≤ 1048576) (he : e.n ≤ 90000) :
    Calls Try.prog 29 #[pt q, pt p, .int .i64 (t : Int), .int .i64 x] w fun r w' => r = .returned (.int .i64 0) ∧ PenAt w q p t v B e w' (sgnEvs x) := by
  have e1 : decide (x < -1048576) = false := by simp; omega
  have e2 : decide (1048576 < x) = false := by simp; omega
  have hlen := numEvs_length (v := x.natAbs) (by omega)
  have HP := rPut_ok w q p t x.natAbs v B e h ht (by omega) he
  by_cases h3 : 0 ≤ x
  · have q1 : -x ≤ x := by omega
    rw [show ((x.natAbs : Nat) : Int) = x by omega] at HP
    have HP := Lib.hid HP
    by_cases h4 : 0 < x
    · have e3 : decide (0 < x) = true := by simpa using h4
      have e4 : decide (x < 0) = false := by simp; omega
      have hs : sgnEvs x = numEvs x.natAbs ++ [(some 36, false)] := by
        unfold sgnEvs signEvs
        rw [if_neg (by omega), e4]
      have Hs := Lib.hid hs
      clear hs h
      go_enter Try.func29, Try.ntmps29
      go_wp2_with fail
      refine HP.out.mono ?_
      rintro r w1 ⟨rfl, hA⟩
      have HPut := Lib.hid (hA.put (some 36) false ht (fun j hj => by injection hj with hj; omega) (by omega))
      have hpl : plI (some 36) = 36 := rfl
      rw [hpl, show ((false.toNat : Nat) : Int) = 0 from rfl, ← Hs.out] at HPut
      clear hpl hA HP
      go_wp2_with fail
      refine HPut.out.mono ?_
      rintro r1 w2 ⟨rfl, hA2⟩
      have HA2 := Lib.hid hA2
      clear hA2 HPut
      go_wp2_with fail
      go_ret
      exact ⟨rfl, HA2.out⟩
    · have e3 : decide (0 < x) = false := by simpa using h4
      have e4 : decide (x < 0) = false := by simp; omega
      have hs : sgnEvs x = numEvs x.natAbs := by
        unfold sgnEvs signEvs
        rw [if_pos (by omega), List.append_nil]
      have Hs := Lib.hid hs
      clear hs h
      go_enter Try.func29, Try.ntmps29
      go_wp2_with fail
      refine HP.out.mono ?_
      rintro r w1 ⟨rfl, hA⟩
      have HA := Lib.hid (hA.len Hs.out)
      clear hA HP
      go_wp2_with fail
      go_ret
      exact ⟨rfl, HA.out⟩
  · have q1 : ¬ (-x ≤ x) := by omega
    rw [show ((x.natAbs : Nat) : Int) = -x by omega] at HP
    have HP := Lib.hid HP
    have e3 : decide (0 < x) = false := by simp; omega
    have e4 : decide (x < 0) = true := by simp; omega
    have hs : sgnEvs x = numEvs x.natAbs ++ [(some 36, true)] := by
      unfold sgnEvs signEvs
      rw [if_neg (by omega), e4]
    have Hs := Lib.hid hs
    clear hs h
    go_enter Try.func29, Try.ntmps29
    go_wp2_with fail
    refine HP.out.mono ?_
    rintro r w1 ⟨rfl, hA⟩
    have HPut := Lib.hid (hA.put (some 36) true ht (fun j hj => by injection hj with hj; omega) (by omega))
    have hpl : plI (some 36) = 36 := rfl
    rw [hpl, show ((true.toNat : Nat) : Int) = 1 from rfl, ← Hs.out] at HPut
    clear hpl hA HP
    go_wp2_with fail
    refine HPut.out.mono ?_
    rintro r1 w2 ⟨rfl, hA2⟩
    have HA2 := Lib.hid hA2
    clear hA2 HPut
    go_wp2_with fail
    go_ret
    exact ⟨rfl, HA2.out⟩
theorem rPutOne_bad (t n v : Int) (a b : Value) (w : World) (h : ¬ (0 ≤ t ∧ t ≤ 15) ∨ n < 1 ∨ 16 < n ∨ v < 0 ∨ n ≤ v) :
    Calls Try.prog 30 #[a, b, .int .i64 t, .int .i64 n, .int .i64 v] w fun r w' => r = .returned (.int .i64 1) ∧ w' = w := by
  have HT := rtopic_any t w
  by_cases h1 : 0 ≤ t ∧ t ≤ 15
  · rw [decide_eq_true h1] at HT
    have HT := Lib.hid HT
    by_cases h2 : n < 1
    · have e1 : decide (n < 1) = true := by simpa using h2
      go_enter Try.func30, Try.ntmps30
      go_wp2_with fail
      refine HT.out.mono ?_
      rintro r w1 ⟨rfl, rfl⟩
      go_wp2_with fail
      go_ret
      exact ⟨rfl, rfl⟩
    · have e1 : decide (n < 1) = false := by simpa using h2
      by_cases h3 : 16 < n
      · have e2 : decide (16 < n) = true := by simpa using h3
        go_enter Try.func30, Try.ntmps30
        go_wp2_with fail
        refine HT.out.mono ?_
        rintro r w1 ⟨rfl, rfl⟩
        go_wp2_with fail
        go_ret
        exact ⟨rfl, rfl⟩
      · have e2 : decide (16 < n) = false := by simpa using h3
        by_cases h4 : v < 0
        · have e3 : decide (v < 0) = true := by simpa using h4
          go_enter Try.func30, Try.ntmps30
          go_wp2_with fail
          refine HT.out.mono ?_
          rintro r w1 ⟨rfl, rfl⟩
          go_wp2_with fail
          go_ret
          exact ⟨rfl, rfl⟩
        · have e3 : decide (v < 0) = false := by simpa using h4
          have e4 : decide (n ≤ v) = true := by simp; omega
          go_enter Try.func30, Try.ntmps30
          go_wp2_with fail
          refine HT.out.mono ?_
          rintro r w1 ⟨rfl, rfl⟩
          go_wp2_with fail
          go_ret
          exact ⟨rfl, rfl⟩
  · rw [decide_eq_false h1] at HT
    have HT := Lib.hid HT
    go_enter Try.func30, Try.ntmps30
    go_wp2_with fail
    refine HT.out.mono ?_
    rintro r w1 ⟨rfl, rfl⟩
    go_wp2_with fail
    go_ret
    exact ⟨rfl, rfl⟩

set_option maxRecDepth 20000 in
set_option maxHeartbeats 4000000 in
theorem rPutOne_ok (w : World) (q p t m n : Nat) (v : Value) (B : Chs) (e : Enc) (h : Pen w q B p v e) (ht : t < 16) (hm1 : 1 ≤ m) (hm2 : m ≤ 16) (hn : n < m) (he : e.n ≤ 90000) :
    Calls Try.prog 30 #[pt q, pt p, .int .i64 (t : Int), .int .i64 (m : Int), .int .i64 (n : Int)] w fun r w' => r = .returned (.int .i64 0) ∧ PenAt w q p t v B e w' (oneEvs m n) := by
  have HT := rtopic_any t w
  rw [decide_eq_true (by omega : 0 ≤ (t : Int) ∧ (t : Int) ≤ 15)] at HT
  have HT := Lib.hid HT
  have e1 : decide ((m : Int) < 1) = false := by simp; omega
  have e2 : decide (16 < (m : Int)) = false := by simp; omega
  have e4 : decide ((n : Int) < 0) = false := by simp
  have e5 : decide (m ≤ n) = false := by simp; omega
  obtain ⟨N, hN⟩ : ∃ N, N = bitLen (m - 1) := ⟨_, rfl⟩
  have hN20 : N ≤ 4 := by rw [hN]; exact bitLen_le hm2
  have HW := rwidth_any m w (by omega) (by omega)
  rw [← hN] at HW
  have HW := Lib.hid HW
  have hDg := digits_any' n N w (by omega) (by omega)
  have HDg := Lib.hid hDg
  have HN := Lib.hid hN
  have H := Lib.hid h
  have eU : IntKind.u64.wrap (n : Int) = (n : Int) := IntWalk.u64_in _ (by omega)
  clear h hN hDg
  go_enter Try.func30, Try.ntmps30
  go_wp2_with fail
  refine HT.out.mono ?_
  rintro r w1 ⟨rfl, rfl⟩
  clear HT
  go_wp2_with fail
  refine HW.out.mono ?_
  rintro r w2 ⟨rfl, rfl⟩
  clear HW
  go_wp2_with fail
  refine HDg.out.mono ?_
  rintro r1 w5 ⟨c5, rfl, hO5, hF5⟩
  have hlq := H.out.bk.lt
  have hlp := H.out.en.1.lt
  have hlv : v.ownBlock ≠ some w2.heap.size := fun hk => by
    rcases H.out.en.2.1.form with ⟨rfl, -⟩ | ⟨g, cap, cur, rfl, hb, -⟩
    · simp [Value.ownBlock] at hk
    · have : g = w2.heap.size := by simpa [Value.ownBlock] using hk
      have := hb.lt
      omega
  obtain ⟨g, hg⟩ : ∃ g, g = w2.heap.size := ⟨_, rfl⟩
  rw [← hg] at hO5 hlv ⊢
  obtain ⟨ds, hds⟩ : ∃ ds, ds = digits n N := ⟨_, rfl⟩
  have hdl : ds.length = N := by rw [hds]; simp
  rw [← hds] at hO5
  have hP5 := H.out.fr0 hF5
  have HQ := Lib.hid (hP5.at_ (t := t))
  have HF5 : Hid (PenFr q p v v w2 w5) := Lib.hid ((PenFr.refl q p v w2).fr0 hF5)
  have HO : Hid (∀ W l, PenAt w5 q p t v B e W l → Own W 5 (.slice (some ⟨g, 0, none⟩) N c5) ((bitsU ds).map B8)) := Lib.hid fun W l hW => hW.row hO5 (by omega) (by omega) hlv
  have Hds := Lib.hid hds; have Hdl := Lib.hid hdl
  clear hlq hlp hlv hg hds hdl hP5 hO5 hF5 HDg H
  go_wp2_with fail
  go_loopw [13] (fun s13 wx => ∃ j : Nat, j ≤ N ∧ s13 = .int .i64 (j : Int) ∧ PenAt w5 q p t v B e wx (bitEvs 0 0 (ds.take j))) (fun s13 _ => 20 - (intOf s13).toNat)
  case atStart => exact ⟨0, by omega, rfl, HQ.out⟩
  case round =>
    clear HQ
    obtain ⟨j, hj, rfl, hP⟩ := hrel
    have HP := Lib.hid hP; clear hP
    by_cases hjN : j < N
    · have e3 : decide (j < N) = true := by simpa using hjN
      have hOw := HO.out _ _ HP.out
      obtain ⟨bit, hbit⟩ : ∃ bit, bit = ds.getD j false := ⟨_, rfl⟩
      have hcell : wr.cell? ⟨g, j, none⟩ = some (.int .u8 (bit.toNat : Int)) := by
        have h1 := (hOw.at_ (j := j) (by simp; rw [Hdl.out]; exact hjN)).1
        rw [h1, List.getElem?_map, bitsU_getD ds j (by rw [Hdl.out]; exact hjN), ← hbit]
        exact congrArg some (B8_u8b bit)
      obtain ⟨a, ha⟩ : ∃ a, a = number (ds.take j) := ⟨_, rfl⟩
      have halt : a < 2 ^ j := by
        have := number_lt (ds.take j)
        rw [List.length_take, Nat.min_eq_left (by rw [Hdl.out]; omega)] at this
        omega
      have ha20 : a < 1048576 := Nat.lt_of_lt_of_le halt (Nat.pow_le_pow_right (n := 2) (i := j) (j := 20) (by omega) (by omega))
      have hNum := number_any (.slice (some ⟨g, 0, none⟩) j c5) (ds.take j) wr.drew (by rw [bitsU_take, List.map_take]; exact ((hOw.src).first (by omega)).drew) (by rw [List.length_take]; omega)
      rw [← ha] at hNum
      have hPl := rplace_any j a wr.drew (by omega) (by omega)
      obtain ⟨pl, hpl⟩ : ∃ pl, pl = place j a := ⟨_, rfl⟩
      have hPu := (HP.out.fr0 (Fr.refl [] wr).drew).put pl bit ht (by rw [hpl]; exact place_lt halt) (by rw [bitEvs_length, List.length_take]; omega)
      have hsn : bitEvs 0 0 (ds.take j) ++ [(pl, bit)] = bitEvs 0 0 (ds.take (j + 1)) := by rw [bitEvs_take (by rw [Hdl.out]; exact hjN), ← ha, ← hbit, hpl]
      rw [hsn] at hPu
      rw [← hpl] at hPl
      obtain ⟨z, hz⟩ : ∃ z, z = plI pl := ⟨_, rfl⟩
      rw [← hz] at hPl hPu
      have HNum := Lib.hid hNum; have HPl := Lib.hid hPl; have HPu := Lib.hid hPu
      have eA : IntKind.i64.wrap (a : Int) = (a : Int) := IntWalk.i64_in _ (by omega)
      have qc : j ≤ c5 := by
        rcases hOw.form with ⟨h1, -⟩ | ⟨g', cap, cur, h1, -, h2, -⟩
        · cases h1
        · injection h1 with h3 h4 h5
          rw [h5]
          omega
      have hcw : ∀ W l, PenAt w5 q p t v B e W l → W.cell? ⟨g, j, none⟩ = some (.int .u8 (bit.toNat : Int)) := fun W l hW => by
        have h1 := ((HO.out W l hW).at_ (j := j) (by simp; rw [Hdl.out]; exact hjN)).1
        rw [h1, List.getElem?_map, bitsU_getD ds j (by rw [Hdl.out]; exact hjN), ← hbit]
        exact congrArg some (B8_u8b bit)
      have Hcw := Lib.hid hcw
      clear hcw
      clear hNum hPl hPu hsn hz hpl ha halt hbit hOw HP
      go_upto_region 8 with fail
      have hcell2 : wr.drew.cell? ⟨g, j, none⟩ = some (.int .u8 (bit.toNat : Int)) := hcell
      have qj : (j : Int) < (N : Int) := by omega
      refine wp_region_held_drew (S := fun W => W.cell? ⟨g, j, none⟩ = some (.int .u8 (bit.toNat : Int))) (by kernel_rfl) ?_ (fun hHeld => ?_)
      · (repeat' (first | trivial | assumption | refine ⟨?_, ?_⟩))
      refine wpAnyH_pick 0 (v := ?_) rfl (by kernel_rfl) (by kernel_rfl) (by kernel_rfl) (fun _ _ _ h => h) (by assumption) (by rfl) ?_ ?_
      rotate_left
      · (intro w hSw; (try dsimp only at hSw); go_simp) <;> (with_reducible rfl)
      (try simp only [Act.put, List.setIfInBounds_toArray, List.set_cons_zero, List.set_cons_succ])
      refine wpAnyH_pick 1 (v := ?_) rfl (by kernel_rfl) (by kernel_rfl) (by kernel_rfl) (fun _ _ _ h => h) (by assumption) (by rfl) ?_ ?_
      rotate_left
      · (intro w hSw; (try dsimp only at hSw); go_simp) <;> (with_reducible rfl)
      (try simp only [Act.put, List.setIfInBounds_toArray, List.set_cons_zero, List.set_cons_succ])
      refine wpAnyH_pick 2 (v := ?_) rfl (by kernel_rfl) (by kernel_rfl) (by kernel_rfl) (fun _ _ _ h => h) (by assumption) (by rfl) ?_ ?_
      rotate_left
      · (intro w hSw; (try dsimp only at hSw); go_simp) <;> (with_reducible rfl)
      (try simp only [Act.put, List.setIfInBounds_toArray, List.set_cons_zero, List.set_cons_succ])
      refine wpAnyH_pick 3 (v := ?_) rfl (by kernel_rfl) (by kernel_rfl) (by kernel_rfl) (fun _ _ _ h => h) (by assumption) (by rfl) ?_ ?_
      rotate_left
      · (intro w hSw; (try dsimp only at hSw); go_simp) <;> (with_reducible rfl)
      (try simp only [Act.put, List.setIfInBounds_toArray, List.set_cons_zero, List.set_cons_succ])
      refine wpAnyH_pick 4 (v := ?_) rfl (by kernel_rfl) (by kernel_rfl) (by kernel_rfl) (fun _ _ _ h => h) (by assumption) (by rfl) ?_ ?_
      rotate_left
      · (intro w hSw; (try dsimp only at hSw); go_simp) <;> (with_reducible rfl)
      (try simp only [Act.put, List.setIfInBounds_toArray, List.set_cons_zero, List.set_cons_succ])
      refine wpAnyH_pick 5 (v := ?_) rfl (by kernel_rfl) (by kernel_rfl) (by kernel_rfl) (fun _ _ _ h => h) (by assumption) (by rfl) ?_ ?_
      rotate_left
      · (intro w hSw; (try dsimp only at hSw); go_simp) <;> (with_reducible rfl)
      (try simp only [Act.put, List.setIfInBounds_toArray, List.set_cons_zero, List.set_cons_succ])
      refine wpAnyH_pick 6 (v := ?_) rfl (by kernel_rfl) (by kernel_rfl) (by kernel_rfl) (fun _ _ _ h => h) (by assumption) (by rfl) ?_ ?_
      rotate_left
      · (intro w hSw; (try dsimp only at hSw); go_simp) <;> (with_reducible rfl)
      (try simp only [Act.put, List.setIfInBounds_toArray, List.set_cons_zero, List.set_cons_succ])
      refine wpAnyH_pick 10 (v := ?_) rfl (by kernel_rfl) (by kernel_rfl) (by kernel_rfl) (fun _ _ _ h => h) (by assumption) (by rfl) ?_ ?_
      rotate_left
      · (intro w hSw; (try dsimp only at hSw); go_simp) <;> (with_reducible rfl)
      (try simp only [Act.put, List.setIfInBounds_toArray, List.set_cons_zero, List.set_cons_succ])
      refine wpAnyH_pick 11 (v := ?_) rfl (by kernel_rfl) (by kernel_rfl) (by kernel_rfl) (fun _ _ _ h => h) (by assumption) (by rfl) ?_ ?_
      rotate_left
      · (intro w hSw; (try dsimp only at hSw); go_simp) <;> (with_reducible rfl)
      (try simp only [Act.put, List.setIfInBounds_toArray, List.set_cons_zero, List.set_cons_succ])
      refine wpAnyH_pick 12 (v := ?_) rfl (by kernel_rfl) (by kernel_rfl) (by kernel_rfl) (fun _ _ _ h => h) (by assumption) (by rfl) ?_ ?_
      rotate_left
      · (intro w hSw; (try dsimp only at hSw); go_simp) <;> (with_reducible rfl)
      (try simp only [Act.put, List.setIfInBounds_toArray, List.set_cons_zero, List.set_cons_succ])
      refine wpAnyH_pick 13 (v := ?_) rfl (by kernel_rfl) (by kernel_rfl) (by kernel_rfl) (fun _ _ _ h => h) (by assumption) (by rfl) ?_ ?_
      rotate_left
      · (intro w hSw; (try dsimp only at hSw); go_simp) <;> (with_reducible rfl)
      (try simp only [Act.put, List.setIfInBounds_toArray, List.set_cons_zero, List.set_cons_succ])
      refine wpAnyH_ready (rs := [7]) (by kernel_rfl) (by simp) ?_
      refine AllReadyH_pick rfl (fun K hK => ?_) (AllReadyH.nil)
      go_simp
      refine HNum.out.mono ?_
      rintro r1 wN ⟨rfl, rfl⟩
      go_wp2_with fail
      refine hK.out _ _ ?_ (fun hHeld => ?_)
      · (repeat' (first | trivial | assumption | refine ⟨?_, ?_⟩))
      clear hK K
      (try simp only [Act.put, List.setIfInBounds_toArray, List.set_cons_zero, List.set_cons_succ])
      refine wpAnyH_pick 8 (v := ?_) rfl (by kernel_rfl) (by kernel_rfl) (by kernel_rfl) (fun _ _ _ h => h) (by assumption) (by rfl) ?_ ?_
      rotate_left
      · (intro w hSw; (try dsimp only at hSw); go_simp) <;> (with_reducible rfl)
      (try simp only [Act.put, List.setIfInBounds_toArray, List.set_cons_zero, List.set_cons_succ])
      refine wpAnyH_ready (rs := [9]) (by kernel_rfl) (by simp) ?_
      refine AllReadyH_pick rfl (fun K hK => ?_) (AllReadyH.nil)
      go_simp
      refine HPl.out.mono ?_
      rintro r1 wP ⟨rfl, rfl⟩
      go_wp2_with fail
      refine hK.out _ _ ?_ (fun hHeld => ?_)
      · (repeat' (first | trivial | assumption | refine ⟨?_, ?_⟩))
      clear hK K
      (try simp only [Act.put, List.setIfInBounds_toArray, List.set_cons_zero, List.set_cons_succ])
      refine wpAnyH_ready (rs := [14]) (by kernel_rfl) (by simp) ?_
      refine AllReadyH_pick rfl (fun K hK => ?_) (AllReadyH.nil)
      go_simp
      refine HPu.out.mono ?_
      rintro r1 w6 ⟨rfl, hP6⟩
      have hc6 : w6.cell? ⟨g, j, none⟩ = some (.int .u8 (bit.toNat : Int)) := Hcw.out _ _ hP6
      have HP6 := Lib.hid hP6; clear hP6
      go_wp2_with fail
      refine hK.out _ _ ?_ (fun hHeld => ?_)
      · (repeat' (first | trivial | assumption | refine ⟨?_, ?_⟩))
      clear hK K
      (try simp only [Act.put, List.setIfInBounds_toArray, List.set_cons_zero, List.set_cons_succ])
      refine wpAnyH_done (by kernel_rfl) ?_ _
      skip
      go_wp2_with fail
      exact ⟨⟨j + 1, by omega, by simp, HP6.out⟩, by simp [intOf]; omega⟩
    · have e3 : decide (j < N) = false := by simpa using hjN
      have hjN2 : j = N := by omega
      have hfin := HP.out
      rw [hjN2, List.take_of_length_le (by rw [Hdl.out]; exact Nat.le_refl _), Hds.out, HN.out] at hfin
      have hall := PenAt.join (l := []) HF5.out hfin
      have HAll := Lib.hid hall
      clear hfin hall hjN2
      go_wp2_with fail
      go_ret
      exact ⟨rfl, HAll.out⟩
end Go.Proofs.Ytfjlepnodmeaaaa
