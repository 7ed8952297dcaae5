/-
  Contract of the document's Row; condition: the length is bounded as named.
-/
import Derived.Test.YtpdmjgcheigooaaRef1a
namespace Go.Proofs.Ytpdmjgcheigooaa
open Go.RowKit

theorem row_any (src : Value) (bs : List UInt8) (w : World) (hs : Src w src (bs.map B8)) (hn : bs.length ≤ 10000000000) :
    Calls Try.prog 36 #[src] w (NewRow w (bitsU (rowOf bs))) := by
  obtain ⟨A, c, rfl⟩ := hs.slice
  go_enter Try.func36, Try.ntmps36
  go_wp2_with fail
  go_loopw [3, 4] (fun s3 s4 wr => ∃ k : Nat, k ≤ bs.length ∧ s4 = .int .i64 (k : Int) ∧ Own wr 5 s3 ((bitsU (rowOf (bs.take k))).map B8) ∧ Fr [] w wr ∧ ∀ k, s3.ownBlock = some k → w.heap.size ≤ k) (fun _ s4 _ => bs.length - (intOf s4).toNat)
  case atStart => exact ⟨0, Nat.zero_le _, rfl, Own.nil _ _, Fr.refl _ _, by simp [Value.ownBlock]⟩
  case round =>
    obtain ⟨k, hk, rfl, hO, hF, hb⟩ := hrel
    by_cases hlt : k < bs.length
    · obtain ⟨ad, rfl, hc⟩ := (hs.fr0 hF).at_ hlt
      obtain ⟨y, hy, hyc⟩ : ∃ y : Nat, y < 256 ∧ y = (bs.getD k 0).toNat := ⟨_, UInt8.toNat_lt _, rfl⟩
      have hc' : wr.cell? (ad.add k) = some (.int .u8 (y : Int)) := by rw [hc, hyc]; rfl
      clear hc
      have ey : IntKind.u64.wrap (y : Int) = (y : Int) := IntWalk.u64_in _ (by omega)
      have HC := Lib.hid (digits_any y 8 wr (by omega) (by omega))
      have HY := Lib.hid hyc; clear hyc
      have HO := Lib.hid hO; clear hO
      have Hb := Lib.hid hb; clear hb
      go_wp2_with fail
      refine HC.out.mono ?_
      rintro e w2 ⟨c2, rfl, hN, hF2⟩
      have hO2 := HO.out.fr hF2 (by simp)
      have hS : Src w2 (.slice (some ⟨wr.heap.size, 0, none⟩) 8 c2) ((bitsU (digits y 8)).map B8) := by simpa using hN.src
      go_wp2_with (at_builtin; go_loud (refine wp_append_u8 _ _ u3 (bitsU (rowOf (bs.take k))) (.slice (some ⟨wr.heap.size, 0, none⟩) 8 c2) (bitsU (digits y 8)) rfl rfl rfl rfl hO2 hS (by simp; omega) ?_))
      intro v3 w3 hO3 hG
      have HO3 := Lib.hid hO3; clear hO3
      clear hN hO2 hS
      go_wp2_with fail
      go_roundw
      case rel =>
        refine ⟨k + 1, by omega, by go_num, ?_, ?_, ?_⟩
        · have h3 := HO3.out
          rw [List.take_add_one, List.getElem?_eq_getElem hlt, rowOf_append, bitsU_append]
          have : bs.getD k 0 = bs[k] := by rw [List.getD_eq_getElem?_getD, List.getElem?_eq_getElem hlt]; rfl
          rw [HY.out, this] at h3
          simpa [rowOf] using h3
        · exact (hF.trans hF2 (by simp)).trans hG.1 (fun x hx => by
            rcases hv : u3.ownBlock with _ | g
            · rw [hv] at hx; simp at hx
            · rw [hv] at hx; simp at hx; subst hx; exact .inr (Hb.out _ hv))
        · intro j hj
          rcases hG.2 with e | ⟨g, e, hg⟩
          · rw [e] at hj; exact Hb.out j hj
          · rw [e] at hj; injection hj with hj; subst hj; have := hF.size; have := hF2.size; omega
      case measure => simp [intOf]; omega
    · obtain rfl : k = bs.length := by omega
      go_wp2_with fail
      go_ret
      exact ⟨u3, rfl, by simpa using hO, hF, hb⟩
end Go.Proofs.Ytpdmjgcheigooaa
