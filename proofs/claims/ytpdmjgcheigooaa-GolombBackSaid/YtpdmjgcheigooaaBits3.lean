/-
  Contracts of copied, (*Writer).Bytes and (*Writer).Align; conditions: the lengths are bounded as named.
-/
import Derived.Test.YtpdmjgcheigooaaBits2
namespace Go.Proofs.Ytpdmjgcheigooaa
open Go.RowKit

theorem B8_one (xs : List UInt8) : ∀ u ∈ xs.map B8, u.oneCell' = true := by
  intro u hu
  obtain ⟨b, _, rfl⟩ := List.mem_map.1 hu
  rfl

/-- A new row that holds the bytes xs. -/
def NewBytes (w : World) (xs : List UInt8) (e : Ending) (w' : World) : Prop :=
  ∃ c, e = .returned (.slice (some ⟨w.heap.size, 0, none⟩) xs.length c) ∧ Own w' 5 (.slice (some ⟨w.heap.size, 0, none⟩) xs.length c) (xs.map B8) ∧ Fr [] w w'

theorem copied_any (src : Value) (xs : List UInt8) (w : World) (hs : Src w src (xs.map B8)) (hn : xs.length ≤ 1000000000000) :
    Calls Try.prog 35 #[src] w (NewBytes w xs) := by
  obtain ⟨i, hi, hz, h1, h2⟩ := info_parts info_u8
  have hsrc : ∃ A c, src = .slice A xs.length c := by
    rcases hs with ⟨rfl, h⟩ | ⟨ad, c, rfl, -⟩
    · exact ⟨_, _, by rw [List.map_eq_nil_iff.1 h]; rfl⟩
    · exact ⟨_, _, by rw [List.length_map]⟩
  obtain ⟨A, c, rfl⟩ := hsrc
  generalize hk : xs.length = k at *
  have HK := Lib.hid hk; clear hk
  go_enter Try.func35, Try.ntmps35
  go_wp2_with (at_make; refine wpList_make_mine _ _ 23 5 i _ 1 _ _ k rfl rfl Try.underlying23 hi hz h1 h2 rfl rfl rfl (by omega) (by simp only [maxLen]; omega) ?_)
  intro w1 hO hF hlt
  have hs1 : Src w1 (.slice A k c) (xs.map B8) := hs.fr0 hF
  go_wp2_with (refine wpList_copy_mine _ _ 23 23 5 rfl rfl Try.underlying23 (by kernel_rfl) _ _ _ (xs.map B8) rfl rfl hO hs1 (B8_one xs) ?_)
  intro w2 hO2 hF2
  have HO2 := Lib.hid hO2; clear hO2
  have HO := Lib.hid hO; clear hO
  clear hs hs1
  go_wp2_with fail
  go_ret
  have hO2 := HO2.out
  have hk := HK.out
  refine ⟨k, by rw [hk]; rfl, ?_, ?_⟩
  · rw [hk]
    rw [List.take_of_length_le (by simp [hk]), hk, Nat.sub_self, List.replicate_zero, List.append_nil] at hO2
    exact hO2
  · exact hF.trans hF2 (by intro x hx; simp [Value.ownBlock] at hx; subst hx; exact .inr (Nat.le_refl _))

theorem Wr.fr {w w' : World} {p : Nat} {v : Value} {L : List Bool} {S : List Nat} (h : Wr w p v L) (hf : Fr S w w') (h1 : p ∉ S) (h2 : ∀ k, v.ownBlock = some k → k ∉ S) : Wr w' p v L := by
  obtain ⟨bs, hb, ho, hp, hn⟩ := h
  exact ⟨bs, hb.fr hf h1, ho.fr hf h2, hp, hn⟩
theorem Wr.lt {w : World} {p : Nat} {v : Value} {L : List Bool} (h : Wr w p v L) : p < w.heap.size := by
  obtain ⟨bs, hb, -⟩ := h
  exact hb.lt
theorem Wr.lt2 {w : World} {p : Nat} {v : Value} {L : List Bool} (h : Wr w p v L) : ∀ k, v.ownBlock = some k → k < w.heap.size := by
  obtain ⟨bs, -, ho, -⟩ := h
  exact ho.lt

theorem bytes_any (w : World) (p : Nat) (v : Value) (L : List Bool) (h : Wr w p v L) (hL : L.length ≤ 1000000000000) :
    Calls Try.prog 21 #[.pointer (some ⟨p, 0, none⟩)] w fun e w' => ∃ bs, PackOf bs L ∧ NewBytes w bs e w' := by
  obtain ⟨bs, hb, ho, hp, hn⟩ := h
  have h0 := hb.cell 0
  have hz := hb.lt
  have hl := hp.1
  have HC := Lib.hid (copied_any v bs w ho.src (by omega))
  clear hb ho hn hl
  simp at h0
  go_enter Try.func21, Try.ntmps21
  go_wp2_with fail
  refine HC.out.mono ?_
  rintro e w' ⟨c, rfl, h1, h2⟩
  have H1 := Lib.hid h1; clear h1
  go_wp2_with fail
  go_ret
  exact ⟨bs, hp, c, rfl, H1.out, h2⟩

theorem bytes_nil (w : World) :
    Calls Try.prog 21 #[.pointer none] w fun e w' => e = .returned (.slice none 0 0) ∧ w' = w := by
  go_enter Try.func21, Try.ntmps21
  go_wp2
  go_ret
  exact ⟨rfl, rfl⟩

end Go.Proofs.Ytpdmjgcheigooaa
