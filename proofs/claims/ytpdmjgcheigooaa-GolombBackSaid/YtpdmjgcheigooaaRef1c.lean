/-
  Contract of the document's Pack; condition: the length is bounded as named.
-/
import Derived.Test.YtpdmjgcheigooaaRef1b
namespace Go.Proofs.Ytpdmjgcheigooaa
open Go.RowKit

theorem pack_any (src : Value) (l : List Bool) (w : World) (hs : Src w src ((bitsU l).map B8)) (hn : l.length ≤ 1000000000000) :
    Calls Try.prog 22 #[src] w fun e w' => ∃ bs, PackOf bs l ∧ NewRow w bs e w' := by
  obtain ⟨A, c, rfl⟩ := hs.slice
  rw [bitsU_length] at *
  go_enter Try.func22, Try.ntmps22
  go_wp2_with fail
  go_loopw [3, 4] (fun s3 s4 wr => ∃ bs : List UInt8, 8 * bs.length ≤ l.length + 7 ∧ s4 = .int .i64 ((8 * bs.length : Nat) : Int) ∧ (∀ j, j < 8 * bs.length → bitAt bs j = l.getD j false) ∧ Own wr 5 s3 (bs.map B8) ∧ Fr [] w wr ∧ ∀ k, s3.ownBlock = some k → w.heap.size ≤ k) (fun _ s4 _ => l.length + 8 - (intOf s4).toNat)
  case atStart => exact ⟨[], by simp, rfl, by simp, Own.nil _ _, Fr.refl _ _, by simp [Value.ownBlock]⟩
  case round =>
    obtain ⟨bs, hk, rfl, hB, hO, hF, hb⟩ := hrel
    obtain ⟨i, hi⟩ : ∃ i, i = 8 * bs.length := ⟨_, rfl⟩
    rw [← hi] at hk ⊢
    by_cases hlt : i < l.length
    · have HB := Lib.hid hB; clear hB
      have HO := Lib.hid hO; clear hO
      have Hb := Lib.hid hb; clear hb
      have Hi := Lib.hid hi; clear hi
      have HS := Lib.hid (hs.fr0 hF); clear hs
      obtain ⟨E, hE⟩ : ∃ E, E = eight l bs.length := ⟨_, rfl⟩
      have hE8 : E.length = 8 := by rw [hE]; simp
      have HE := Lib.hid hE; clear hE
      have HE8 := Lib.hid hE8; clear hE8
      go_wp2_with fail
      go_loop [5, 6] (fun s5 s6 => ∃ k : Nat, k ≤ 8 ∧ s6 = .int .i64 (k : Int) ∧ s5 = .int .u64 (number (E.take k) : Int)) (fun _ s6 => 8 - (intOf s6).toNat)
      case atStart => exact ⟨0, by omega, rfl, by simp [number]⟩
      case round =>
        obtain ⟨k, hk8, rfl, rfl⟩ := hrel
        by_cases hk1 : k < 8
        · obtain ⟨V, hV⟩ : ∃ V, V = number (E.take k) := ⟨_, rfl⟩
          rw [← hV]
          have h1 := number_lt (E.take k)
          have h2 : (E.take k).length = k := by have := HE8.out; simp; omega
          rw [h2, ← hV] at h1
          have h3 : 2 ^ k ≤ 2 ^ 7 := Nat.pow_le_pow_right (by omega) (by omega)
          obtain ⟨b, hbb⟩ : ∃ b, b = l.getD (i + k) false := ⟨_, rfl⟩
          have hnum : number (E.take (k + 1)) = 2 * V + b.toNat := by
            rw [number_take_succ E k (by have := HE8.out; omega), ← hV, HE.out, eight_getD l _ k hk1, hbb, ← Hi.out]
          have ew1 : IntKind.u64.wrap (2 * (V : Int)) = 2 * (V : Int) := IntWalk.u64_in _ (by omega)
          have HV := Lib.hid hV; clear hV
          have HN := Lib.hid hnum; clear hnum
          by_cases hlt2 : i + k < l.length
          · obtain ⟨ad, rfl, hc⟩ := HS.out.at_ (k := i + k) (by simpa using hlt2)
            have hc' : wr.cell? (ad.add (i + k)) = some (.int .u8 (b.toNat : Int)) := by
              rw [hc, hbb, ← B8_u8b]
              simp [bitsU, List.getD_eq_getElem?_getD, hlt2]
            clear hc
            have Hbb := Lib.hid hbb; clear hbb
            have hbl : b.toNat ≤ 1 := by cases b <;> simp
            have ew2 : IntKind.u64.wrap (b.toNat : Int) = (b.toNat : Int) := IntWalk.u64_in _ (by omega)
            have ew3 : IntKind.u64.wrap (2 * (V : Int) + (b.toNat : Int)) = 2 * (V : Int) + (b.toNat : Int) := IntWalk.u64_in _ (by omega)
            clear h1 h2 h3
            go_wp2_with fail
            go_round
            case rel => exact ⟨k + 1, by omega, by go_num, by rw [HN.out]; go_num⟩
            case measure => simp [intOf]; omega
          · have hb0 : b = false := by rw [hbb, List.getD_eq_getElem?_getD, List.getElem?_eq_none (by omega)]; rfl
            have Hbb := Lib.hid hbb; clear hbb
            have Hb0 := Lib.hid hb0; clear hb0
            clear h1 h2 h3
            go_wp2_with fail
            go_round
            case rel => exact ⟨k + 1, by omega, by go_num, by rw [HN.out, Hb0.out]; simp⟩
            case measure => simp [intOf]; omega
        · obtain rfl : k = 8 := by omega
          have hE9 : E.take 8 = E := List.take_of_length_le (by have := HE8.out; omega)
          rw [hE9]
          obtain ⟨V, hV⟩ : ∃ V, V = number E := ⟨_, rfl⟩
          rw [← hV]
          have hVl : V < 256 := by rw [hV, HE.out]; exact eight_lt _ _
          have ew1 : IntKind.u8.wrap (V : Int) = (V : Int) := IntWalk.u8_in _ (by omega)
          have HV := Lib.hid hV; clear hV
          clear hE9
          have hx : B8 (UInt8.ofNat V) = .int .u8 (V : Int) := by
            simp only [B8, UInt8.toNat_ofNat', Nat.mod_eq_of_lt hVl]
          have hbs : bs.length ≤ 200000000000 := by have := Hi.out; omega
          have HX := Lib.hid hx; clear hx
          have hO := HO.out
          go_wp2_with (at_builtin; go_loud (refine wp_append_u8 _ _ u3 bs (.slice (some ⟨wr.heap.size, 0, none⟩) 1 1) [UInt8.ofNat V] rfl rfl rfl rfl (hO.alloc _) (Src.one (by rw [HX.out]; simp [go_sem])) (by simp; omega) ?_))
          intro v3 w3 hO3 hG
          have HO3 := Lib.hid hO3; clear hO3
          clear hO
          go_wp2_with fail
          go_roundw
          case rel =>
            have hi := Hi.out
            refine ⟨bs ++ [UInt8.ofNat V], by simp; omega, ?_, ?_, ?_, ?_, ?_⟩
            · simp; omega
            · intro j hj
              rw [HV.out, HE.out]
              exact bitAt_push bs l HB.out j (by simpa using hj)
            · simpa using HO3.out
            · exact (hF.alloc _).trans hG.1 (fun x hx => by
                rcases hv : u3.ownBlock with _ | g
                · rw [hv] at hx; simp at hx
                · rw [hv] at hx; simp at hx; subst hx; exact .inr (Hb.out _ hv))
            · intro j hj
              rcases hG.2 with e | ⟨g, e, hg⟩
              · rw [e] at hj; exact Hb.out j hj
              · rw [e] at hj; injection hj with hj; subst hj; have := hF.size; simp at hg; omega
          case measure => simp [intOf]; omega
    · have HO := Lib.hid hO; clear hO
      go_wp2_with fail
      go_ret
      exact ⟨bs, PackOf.of_eight (by omega) hB, u3, rfl, HO.out, hF, hb⟩
end Go.Proofs.Ytpdmjgcheigooaa
