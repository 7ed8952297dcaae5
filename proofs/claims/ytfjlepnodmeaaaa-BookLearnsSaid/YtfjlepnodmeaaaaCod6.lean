/-
  The program's decoder: Get; conditions: the range and the place are bounded as named.
-/
import Derived.Test.YtfjlepnodmeaaaaCod5
namespace Go.Proofs.Ytfjlepnodmeaaaa
open Go.RowKit

/-- The rest is too great. -/
theorem pget_great (p : Nat) (v : Value) (bs : List UInt8) (d : Dec) (c : Nat) (w : World) (h : Pd w p v bs d) (hc : rightC c) (hr : d.r ≤ d.rest) :
    Calls Try.prog 61 #[pt p, .int .u16 (c : Int)] w fun e w' => e = .returned (.tuple #[.int .i64 0, .int .i64 41]) ∧ Fr [] w w' := by
  have e0 : decide (rightC c) = true := decide_eq_true hc
  have HC := Lib.hid (isOne_any c w)
  have c1 := h.1.cell 1
  have c2 := h.1.cell 2
  have hlt := h.1.lt
  simp at c1 c2
  obtain ⟨i, r, k⟩ := d
  simp only at *
  have e1 : decide (k ≤ r) = true := by simp [hr]
  clear h hc hr
  go_enter Try.func61, Try.ntmps61
  go_wp2_with fail
  refine HC.out.mono ?_
  rintro e w' ⟨rfl, rfl⟩
  rw [e0]
  go_upto_region 3 with fail
  go_quiet (fail)
  go_wp2_with fail
  go_ret2
  exact ⟨rfl, (Fr.refl _ _).drewN _⟩

/-- What Get answers. -/
def PGot (p : Nat) (v : Value) (bs : List UInt8) (d : Dec) (c : Nat) (w : World) (e : Ending) (w' : World) : Prop :=
  (∃ bit d', decGet bs d c = some (bit, d') ∧ e = .returned (.tuple #[.int .i64 (bit.toNat : Int), .int .i64 0]) ∧ (∃ v', Pd w' p v' bs d' ∧ v'.ownBlock = v.ownBlock) ∧ Fr [p] w w') ∨
  (decGet bs d c = none ∧ e = .returned (.tuple #[.int .i64 0, .int .i64 41]) ∧ Fr [] w w')

set_option maxRecDepth 20000 in
set_option maxHeartbeats 4000000 in
theorem pget_any (p : Nat) (v : Value) (bs : List UInt8) (d : Dec) (c : Nat) (w : World) (h : Pd w p v bs d) (hc : rightC c) (hr : d.rest < d.r) (hr1 : 16777216 ≤ d.r) (hr2 : d.r ≤ 4294967295) :
    Calls Try.prog 61 #[pt p, .int .u16 (c : Int)] w (PGot p v bs d c w) := by
  obtain ⟨g, cv, hv⟩ := h.2.1.slice
  obtain ⟨n, hnn⟩ : ∃ n, n = ((bs.drop d.i).map B8).length := ⟨_, rfl⟩
  rw [show (bs.drop d.i).length = n by rw [hnn]; simp] at hv
  subst hv
  have Hnn := Lib.hid hnn
  clear hnn
  have e0 : decide (rightC c) = true := decide_eq_true hc
  have HC := Lib.hid (isOne_any c w)
  obtain ⟨B, hB⟩ : ∃ B, B = bnd d.r c := ⟨_, rfl⟩
  have hb1 := bnd_lo hr1 hc
  have hb2 := bnd_hi hr1 hc
  rw [← hB] at hb1 hb2
  have HBd := fun w => bound_any c d.r w hc hr1 hr2
  rw [← hB] at HBd
  have HBd := Lib.hid HBd
  obtain ⟨D, hD⟩ : ∃ D, D = decBit d c := ⟨_, rfl⟩
  have hget : decGet bs d c = decScale bs D.1 D.2 := by unfold decGet; rw [if_pos hr, hD]
  have hD2 : D = if d.rest < B then (false, ⟨d.i, d.rest, B⟩) else (true, ⟨d.i, d.rest - B, d.r - B⟩) := by rw [hD, hB]; rfl
  have Hget := Lib.hid hget
  have HD := Lib.hid hD2
  have H := Lib.hid h
  have c1 := h.1.cell 1
  have c2 := h.1.cell 2
  have hlt := h.1.lt
  have hz : (Try.prog.info? 81).map (·.size) = some 3 := by kernel_rfl
  have Hz := Lib.hid hz
  simp at c1 c2
  obtain ⟨i, r, k⟩ := d
  simp only at *
  have e1 : decide (k ≤ r) = false := by simp; omega
  clear h hc hget hD2 hD hz hB
  go_enter Try.func61, Try.ntmps61
  go_wp2_with fail
  refine HC.out.mono ?_
  rintro e w' ⟨rfl, rfl⟩
  rw [e0]
  go_upto_region 3 with fail
  go_quiet (fail)
  have hF2 := ((Fr.refl [] w').drewN nq)
  have h2 : Pd (w'.drewN nq) p (.slice g n cv) bs ⟨i, r, k⟩ := ⟨H.out.1.fr hF2 (by simp), H.out.2.1.fr0 hF2, H.out.2.2⟩
  have H2 := Lib.hid h2
  have HFd := Lib.hid hF2
  clear h2 hF2
  generalize w'.drewN nq = w2 at H2 HFd ⊢
  go_upto_region 5 with fail
  have hz4 : (Try.prog.info? 81).map (·.size) = some (#[.slice g n cv, .int .u32 (r : Int), .int .u32 (k : Int)] : Array Value).size := Hz.out
  go_upto_region 6 with (first
    | refine wpList_load_row rfl 81 _ rfl p rfl 81 _ _ _ H2.out.1.here Try.underlying81 rfl hz4 ?_
    | refine wpList_store_row rfl 81 _ _ rfl w2.heap.size _ rfl rfl 81 _ (heap_alloc_new _ _) hz4 rfl rfl ?_)
  (try rw [World.setRow_alloc_new])
  generalize hw : w2.alloc (.cells #[.slice g n cv, .int .u32 (r : Int), .int .u32 (k : Int)] 81) = w3
  have hB3 : Blk w3 w2.heap.size 81 #[.slice g n cv, .int .u32 (r : Int), .int .u32 (k : Int)] := by rw [← hw]; exact Blk.new _ _ _
  have hF3 : Fr [] w2 w3 := by rw [← hw]; exact (Fr.refl _ _).alloc _
  obtain ⟨q, hq⟩ : ∃ q, q = w2.heap.size := ⟨_, rfl⟩
  rw [← hq] at hB3 ⊢
  have h3 : Pd w3 p (.slice g n cv) bs ⟨i, r, k⟩ := ⟨H2.out.1.fr hF3 (by simp), H2.out.2.1.fr0 hF3, H2.out.2.2⟩
  have H3 := Lib.hid h3
  have Hq := Lib.hid hq
  have HB3 := Lib.hid hB3
  have HF3 := Lib.hid hF3
  have d2 := h3.1.cell 2
  have hl3 := h3.1.lt
  have HSp := Lib.hid (split_any q _ r k B w3 hB3 (by omega) hr2 (by omega))
  simp at d2
  clear hw hq hB3 hF3 c1 c2 hlt HC e0 h3 e1
  go_wp2_with fail
  refine (HBd.out w3).mono ?_
  rintro e w4 ⟨rfl, rfl⟩
  go_wp2_with fail
  refine HSp.out.mono ?_
  rintro e w5 ⟨hF5, hcase⟩
  have hcase : ∃ (bit : Bool) (r1 k1 : Nat), e = .returned (.int .i64 (bit.toNat : Int)) ∧ Blk w5 q 81 #[.slice g n cv, .int .u32 (r1 : Int), .int .u32 (k1 : Int)] ∧ D = (bit, ⟨i, r1, k1⟩) ∧ r1 < k1 ∧ 253952 ≤ k1 ∧ k1 ≤ k := by
    have hD := HD.out
    rcases hcase with ⟨hb, he, hB5⟩ | ⟨hb, he, hB5⟩
    · rw [if_pos hb] at hD
      exact ⟨false, r, B, he, hB5, hD, hb, hb1, by omega⟩
    · rw [if_neg (by omega)] at hD
      exact ⟨true, r - B, k - B, he, hB5, hD, by omega, by omega, by omega⟩
  obtain ⟨bit, r1, k1, rfl, hB5, hDD, hrk, hk1, hkk⟩ := hcase
  clear hcase
  have hF25 : Fr [] w2 w5 := HF3.out.trans hF5 (fun x hx => .inr (by have := Hq.out; simp at hx; omega))
  have hS5 : Src w5 (.slice g n cv) ((bs.drop i).map B8) := H2.out.2.1.fr0 hF25
  have hp2 : p < w2.heap.size := H2.out.1.lt
  have hscale : decGet bs ⟨i, r, k⟩ c = decScale bs bit ⟨i, r1, k1⟩ := by rw [Hget.out, hDD]
  have hlen : i ≤ bs.length := H2.out.2.2.2
  have Hsc := Lib.hid hscale
  have HF25 := Lib.hid hF25
  have HS5 := Lib.hid hS5
  have HB5 := Lib.hid hB5
  have Hq1 := Lib.hid (show p < q ∧ q = w2.heap.size from ⟨by have := Hq.out; omega, Hq.out⟩)
  have HN := Lib.hid (isNarrow_any k1 w5)
  have c2 := hB5.cell 2
  have hlq := hB5.lt
  simp at c2
  obtain ⟨b, hb⟩ : ∃ b : Int, b = (bit.toNat : Int) := ⟨_, rfl⟩
  have Hb := Lib.hid hb
  rw [← hb]
  clear hscale hF25 hS5 hB5 hF5 hDD Hget HD H H3 HB3 HF3 HSp HBd d2 hb hp2 Hq
  clear HBd hl3 hz4
  by_cases hnar : k1 < 16777216
  case' pos =>
    rw [decide_eq_true hnar] at HN
    rcases hys : bs.drop i with _ | ⟨x, ys⟩
    case' nil =>
      have hS := HS5.out
      rw [hys] at hS
      have hnone : decGet bs ⟨i, r, k⟩ c = none := by
        rw [Hsc.out, decScale_none hnar]
        have := congrArg List.length hys
        simp at this
        show bs.length ≤ i
        omega
      have HT := Lib.hid (take_none q _ _ _ w5 HB5.out hS)
      have Hnone := Lib.hid hnone
      clear hS hnone hys
      go_wp2_with fail
      refine HN.out.mono ?_
      rintro e w6 ⟨rfl, rfl⟩
      go_wp2_with fail
      refine HT.out.mono ?_
      rintro e w7 ⟨rfl, rfl⟩
      go_wp2_with fail
      go_ret2
      exact .inr ⟨Hnone.out, rfl, HFd.out.trans HF25.out (by simp)⟩
    case' cons =>
      have hS := HS5.out
      rw [hys] at hS
      have hne : (Value.slice g n cv).ownBlock ≠ some q := by
        have h1 := H2.out.2.1
        simp only at h1
        rw [hys] at h1
        obtain ⟨ad, r1, c1⟩ := h1.cellAt (k := 0) rfl
        subst r1
        have h2 := World.block_lt_of_cell? w2 _ c1
        rw [addr_block] at h2
        have h3 := Hq1.out.2
        simp [Value.ownBlock]
        omega
      have hT := take_one q _ r1 k1 x ys w5 HB5.out hS hne hnar hrk
      have hil : i < bs.length := by
        have := congrArg List.length hys
        simp at this
        omega
      have hsome : decGet bs ⟨i, r, k⟩ c = some (bit, ⟨i + 1, 256 * r1 + x.toNat, k1 * 256⟩) := by
        have hx : bs.getD i 0 = x := by
          have h1 := List.getElem?_drop (xs := bs) (i := i) (j := 0)
          rw [hys] at h1
          rw [List.getD_eq_getElem?_getD, ← Nat.add_zero i, ← h1]
          rfl
        rw [Hsc.out, decScale_more hnar hil, hx]
      have htail : bs.drop (i + 1) = ys := by
        rw [← List.tail_drop, hys]
        rfl
      have HT := Lib.hid hT
      have Hsome := Lib.hid hsome
      have Htail := Lib.hid htail
      have Hne := Lib.hid hne
      clear hS hne hT hsome htail hys
      go_wp2_with fail
      refine HN.out.mono ?_
      rintro e w6 ⟨rfl, rfl⟩
      go_wp2_with fail
      refine HT.out.mono ?_
      rintro e w7 ⟨rfl, v7, hB7, hS7, hv7, hF7⟩
      obtain ⟨g7, c7, rfl⟩ := hS7.slice
      have hend : ∃ (g7 : Option Addr) (c7 i7 n7 R7 K7 : Nat), decGet bs ⟨i, r, k⟩ c = some (bit, ⟨i7, R7, K7⟩) ∧ Blk w7 q 81 #[.slice g7 n7 c7, .int .u32 (R7 : Int), .int .u32 (K7 : Int)] ∧ Src w7 (.slice g7 n7 c7) ((bs.drop i7).map B8) ∧ (Value.slice g7 n7 c7).ownBlock = (Value.slice g n cv).ownBlock ∧ Fr [] w2 w7 ∧ i7 ≤ bs.length :=
        ⟨g7, c7, i + 1, _, _, _, Hsome.out, hB7, by rw [Htail.out]; exact hS7, hv7, HF25.out.trans hF7 (fun x hx => .inr (by have := Hq1.out.2; simp at hx; omega)), hil⟩
      have Hend := Lib.hid hend
      clear hB7 hS7 hv7 hF7 hend
      go_upto_region 9 with fail
  case' neg =>
    rw [decide_eq_false hnar] at HN
    have hend : ∃ (g7 : Option Addr) (c7 i7 n7 R7 K7 : Nat), decGet bs ⟨i, r, k⟩ c = some (bit, ⟨i7, R7, K7⟩) ∧ Blk w5 q 81 #[.slice g7 n7 c7, .int .u32 (R7 : Int), .int .u32 (K7 : Int)] ∧ Src w5 (.slice g7 n7 c7) ((bs.drop i7).map B8) ∧ (Value.slice g7 n7 c7).ownBlock = (Value.slice g n cv).ownBlock ∧ Fr [] w2 w5 ∧ i7 ≤ bs.length :=
      ⟨g, cv, i, _, _, _, by rw [Hsc.out]; exact decScale_same hnar, HB5.out, HS5.out, rfl, HF25.out, hlen⟩
    have Hend := Lib.hid hend
    clear hend
    go_wp2_with fail
    refine HN.out.mono ?_
    rintro e w6 ⟨rfl, rfl⟩
    go_upto_region 9 with fail
    generalize w6 = w7 at *
  all_goals
    obtain ⟨g7, c7, i7, n7, R7, K7, hg, hB, hS, hv, hF, hi7⟩ := Hend.out
    have hP := H2.out.1.fr hF (by simp)
    have m0 := hB.cell 0
    have m1 := hB.cell 1
    have m2 := hB.cell 2
    have l7 := hB.lt
    have n0 := hP.cell 0
    have n1 := hP.cell 1
    have n2 := hP.cell 2
    have p0 := hP.frozen 0
    have p1 := hP.frozen 1
    have p2 := hP.frozen 2
    have lp := hP.lt
    simp at m0 m1 m2 n0 n1 n2
    have hs3 := ((hP.set_ 0 (.slice g7 n7 c7)).set_ 1 (.int .u32 (R7 : Int))).set_ 2 (.int .u32 (K7 : Int))
    have hf3 : Fr [p] w7 (((w7.setCell ⟨p, 0, none⟩ (.slice g7 n7 c7)).setCell ⟨p, 1, none⟩ (.int .u32 (R7 : Int))).setCell ⟨p, 2, none⟩ (.int .u32 (K7 : Int))) :=
      (((Fr.refl [p] w7).setCell (.inl (by simp)) _).setCell (.inl (by simp)) _).setCell (.inl (by simp)) _
    have HS3 := Lib.hid hs3
    have HF3 := Lib.hid hf3
    have HG := Lib.hid hg
    have HS7 := Lib.hid hS
    have HV := Lib.hid hv
    have HF7 := Lib.hid hF
    clear hg hS hv hF hP hB Hend hs3 hf3 c2 HN
    (try clear HT)
    go_wp2_with fail
    go_ret2
    refine .inl ⟨bit, ⟨i7, R7, K7⟩, HG.out, by rw [← Hb.out]; rfl, ⟨.slice g7 n7 c7, ⟨?_, ?_, ?_, hi7⟩, HV.out⟩, ?_⟩
    · simpa using HS3.out
    · refine HS7.out.fr HF3.out (fun k hk hm => ?_)
      rw [HV.out] at hk
      simp at hm
      subst hm
      exact H2.out.2.2.1 hk
    · rw [HV.out]; exact H2.out.2.2.1
    · exact (((HFd.out.trans HF7.out (by simp)).mono (S' := [p]) (by simp)).trans HF3.out (fun x hx => .inl hx))
end Go.Proofs.Ytfjlepnodmeaaaa
