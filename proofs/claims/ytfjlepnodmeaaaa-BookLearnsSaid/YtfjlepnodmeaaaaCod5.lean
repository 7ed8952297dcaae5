/-
  The program's decoder: Open; conditions: the lengths are bounded as named.
-/
import Derived.Test.YtfjlepnodmeaaaaCod4
namespace Go.Proofs.Ytfjlepnodmeaaaa
open Go.RowKit

set_option maxRecDepth 20000 in
set_option maxHeartbeats 4000000 in
theorem open_any (A : Option Addr) (c : Nat) (bs : List UInt8) (w : World) (hs : Src w (.slice A bs.length c) (bs.map B8)) (hn : 4 ≤ bs.length) (hm : bs.length ≤ 1000000) :
    Calls Try.prog 18 #[.slice A bs.length c] w fun e w' => ∃ p v, e = .returned (.tuple #[pt p, .int .i64 0]) ∧ Pd w' p v bs (decOpen bs) ∧ Fr [] w w' ∧ w.heap.size ≤ p ∧ (∀ k, v.ownBlock = some k → w.heap.size ≤ k) ∧ ∀ k, v.ownBlock = some k → k < w'.heap.size := by
  obtain ⟨n, hnn⟩ : ∃ n, n = bs.length := ⟨_, rfl⟩
  rw [← hnn] at hs hn hm
  have hcap := hs.le
  have e1 : decide ((n : Int) < 4) = false := by simp; omega
  have HS := Lib.hid hs
  have Hnn := Lib.hid hnn
  rw [show (bs.length) = n from hnn.symm]
  clear hs hnn
  go_enter Try.func18, Try.ntmps18
  go_upto_region 5 with fail
  go_loopw [4, 13] (fun s4 s13 wr => ∃ i : Nat, i ≤ 4 ∧ s13 = .int .i64 (i : Int) ∧ s4 = .int .u32 (valueOf (bs.take i) : Int) ∧ wr = w) (fun _ s13 _ => 4 - (intOf s13).toNat)
  case atStart => exact ⟨0, by omega, rfl, rfl, rfl⟩
  case round =>
    obtain ⟨i, hi, rfl, rfl, rfl⟩ := hrel
    by_cases hlt : i < 4
    · have eg : decide ((i : Int) < 4) = true := by simp; omega
      obtain ⟨x, hx⟩ : ∃ x, bs[i]? = some x := ⟨_, List.getElem?_eq_getElem (by have := Hnn.out; omega)⟩
      obtain ⟨ad, rfl, hcell0⟩ := HS.out.cellAt hx
      have hcell : wr.cell? (ad.add i) = some (.int .u8 (x.toNat : Int)) := hcell0
      clear hcell0
      obtain ⟨V, hV⟩ : ∃ V, V = valueOf (bs.take i) := ⟨_, rfl⟩
      have hVl : V < 16777216 := by
        have h1 := valueOf_lt (bs.take i)
        have h2 : (bs.take i).length ≤ 3 := by simp; omega
        have h3 : 256 ^ (bs.take i).length ≤ 256 ^ 3 := Nat.pow_le_pow_right (by omega) h2
        rw [← hV] at h1
        omega
      rw [← hV]
      have hxl := x.toNat_lt
      obtain ⟨T, hT⟩ : ∃ T, T = V * 256 := ⟨_, rfl⟩
      have eT : (V : Int) * 256 = (T : Int) := by omega
      have eT2 : (T : Int) % 4294967296 = (T : Int) := by omega
      have eT3 : IntKind.wrap .u32 (T : Int) = (T : Int) := IntWalk.u32_in _ (by omega)
      obtain ⟨U, hU⟩ : ∃ U, U = 256 * V + x.toNat := ⟨_, rfl⟩
      have eU := or_256 V x (by omega)
      rw [← hT, ← hU] at eU
      have ex : IntKind.wrap .u32 (x.toNat : Int) = (x.toNat : Int) := IntWalk.u32_in _ (by omega)
      have hval : valueOf (bs.take (i + 1)) = U := by
        rw [take_value bs i (by have := Hnn.out; omega), ← hV, hU, List.getD_eq_getElem?_getD, hx]; rfl
      have Hval := Lib.hid hval
      have HV := Lib.hid hV
      have Hx := Lib.hid hx
      clear hval hV hx hT hU
      go_wp2_with fail
      exact ⟨⟨i + 1, by omega, by simp, by rw [Hval.out], trivial⟩, by simp [intOf]; omega⟩
    · have hi4 : i = 4 := by omega
      have eg : decide ((i : Int) < 4) = false := by simp; omega
      rw [show valueOf (bs.take i) = valueOf (bs.take 4) by rw [hi4]]
      obtain ⟨V, hV⟩ : ∃ V, V = valueOf (bs.take 4) := ⟨_, rfl⟩
      rw [← hV]
      have hdrop := HS.out.drop (k := 4) hn
      obtain ⟨m, hmm⟩ : ∃ m, m = n - 4 := ⟨_, rfl⟩
      have em : n - 4 = m := hmm.symm
      obtain ⟨ad, rA, -⟩ := HS.out.cellAt (k := 0) (List.getElem?_eq_getElem (by have := Hnn.out; omega))
      subst rA
      rw [em, ← List.map_drop] at hdrop
      have hlen : (bs.drop 4).length = m := by simp; have := Hnn.out; omega
      have HV := Lib.hid hV
      have Hlen := Lib.hid hlen
      clear hV hlen hmm hi hi4 hlt
      by_cases hc4 : c = 4
      case' pos =>
        rw [if_pos hc4] at hdrop
        have HCl := Lib.hid (clone_any _ _ wr hdrop (by have := Hlen.out; omega) (by simp [Value.ownBlock]))
        rw [show c - 4 = 0 by omega] at HCl
        clear hdrop
        go_wp2_with fail
        refine HCl.out.mono ?_
      case' neg =>
        rw [if_neg hc4] at hdrop
        have hCl := clone_any _ _ wr hdrop (by have := Hlen.out; omega) (by simp [Value.ownBlock])
        have e4 : Option.map (fun x => x.add 4) (some ad) = some ⟨ad.block, ad.off + 4, none⟩ := by simp [Addr.add]
        rw [e4] at hCl
        have HCl := Lib.hid hCl
        clear hdrop hCl e4
        go_wp2_with fail
        refine HCl.out.mono ?_
      all_goals
        rintro e w1 ⟨u, rfl, hM, hnn⟩
        have HM := Lib.hid hM
        obtain ⟨g, cu, hu⟩ := hM.slice
        rw [Hlen.out] at hu
        clear hM
        subst hu
        clear HCl hc4
        go_wp2_with fail
        go_ret2
        generalize hw2 : w1.alloc _ = w2
        refine ⟨w1.heap.size, .slice g m cu, rfl, ⟨?_, ?_, ?_, ?_⟩, ?_, ?_, ?_, ?_⟩
        · rw [← hw2]
          have := Blk.new w1 81 #[.slice g m cu, .int .u32 (V : Int), .int .u32 4294967295]
          rw [HV.out] at this ⊢
          exact this
        · rw [← hw2]
          exact HM.out.src.fr0 ((Fr.refl _ _).alloc _)
        · intro h
          have := HM.out.own.lt _ h
          omega
        · show 4 ≤ bs.length
          have := Hnn.out
          omega
        · rw [← hw2]
          exact HM.out.fr.alloc _
        · exact HM.out.fr.size
        · exact HM.out.new
        · intro k hk
          have := HM.out.own.lt k hk
          rw [← hw2]
          simp
          omega
end Go.Proofs.Ytfjlepnodmeaaaa
