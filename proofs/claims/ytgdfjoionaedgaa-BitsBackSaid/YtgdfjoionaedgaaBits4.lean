/-
  Contracts of bits.Open and of (*Reader).At, Left and Rest; conditions: the lengths are bounded as named.
-/
import Derived.Test.YtgdfjoionaedgaaBits3
import Derived.Deep.DeepFit
namespace Go.Proofs.Ytgdfjoionaedgaa
open Go.RowKit

/-- A reader: the bytes bs; it is at bit a. -/
def Rd (w : World) (q : Nat) (v : Value) (bs : List UInt8) (a : Nat) : Prop :=
  Blk w q 62 #[v, .int .i64 (a : Int)] ∧ Own w 5 v (bs.map B8) ∧ a ≤ 8 * bs.length ∧ v.ownBlock ≠ some q

theorem Rd.fr {w w' : World} {p : Nat} {v : Value} {bs : List UInt8} {a : Nat} {S : List Nat} (h : Rd w p v bs a) (hf : Fr S w w') (h1 : p ∉ S) (h2 : ∀ k, v.ownBlock = some k → k ∉ S) : Rd w' p v bs a := by
  obtain ⟨hb, ho, hp, hn⟩ := h
  exact ⟨hb.fr hf h1, ho.fr hf h2, hp, hn⟩
theorem Rd.lt {w : World} {p : Nat} {v : Value} {bs : List UInt8} {a : Nat} (h : Rd w p v bs a) : p < w.heap.size := h.1.lt
theorem Rd.lt2 {w : World} {p : Nat} {v : Value} {bs : List UInt8} {a : Nat} (h : Rd w p v bs a) : ∀ k, v.ownBlock = some k → k < w.heap.size := h.2.1.lt
theorem Rd.slice {w : World} {q : Nat} {v : Value} {bs : List UInt8} {a : Nat} (h : Rd w q v bs a) : ∃ A c, v = .slice A bs.length c := by
  rcases h.2.1.form with ⟨rfl, h0⟩ | ⟨g, cap, cur, rfl, -⟩
  · exact ⟨_, _, by rw [List.map_eq_nil_iff.1 h0]; rfl⟩
  · exact ⟨_, _, by rw [List.length_map]⟩

theorem open_any (src : Value) (bs : List UInt8) (w : World) (hs : Src w src (bs.map B8)) (hn : bs.length ≤ 1000000000000) :
    Calls Try.prog 18 #[src] w fun e w' => ∃ q v, e = .returned (.pointer (some ⟨q, 0, none⟩)) ∧ Rd w' q v bs 0 ∧ Fr [] w w' ∧ w.heap.size ≤ q ∧ (∀ k, v.ownBlock = some k → w.heap.size ≤ k) := by
  have HC := Lib.hid (copied_any src bs w hs hn)
  go_enter Try.func18, Try.ntmps18
  go_wp2_with fail
  refine HC.out.mono ?_
  rintro e w' ⟨c, rfl, h1, h2⟩
  have hlt := h1.lt _ rfl
  have H1 := Lib.hid h1; clear h1
  go_wp2_with fail
  go_ret
  refine ⟨_, _, rfl, ⟨Blk.new _ _ _, H1.out.alloc _, by omega, ?_⟩, h2.alloc _, h2.size, ?_⟩
  · simp [Value.ownBlock]; omega
  · intro k hk; simp [Value.ownBlock] at hk; omega

theorem at_any (w : World) (q : Nat) (v : Value) (bs : List UInt8) (a : Nat) (h : Rd w q v bs a) :
    Calls Try.prog 24 #[.pointer (some ⟨q, 0, none⟩)] w fun e w' => e = .returned (.int .i64 (a : Int)) ∧ w' = w := by
  obtain ⟨hb, -, -, -⟩ := h
  have h1 := hb.cell 1
  have hz := hb.lt
  clear hb
  simp at h1
  go_enter Try.func24, Try.ntmps24
  go_wp2
  go_ret
  exact ⟨rfl, rfl⟩

theorem at_nil (w : World) :
    Calls Try.prog 24 #[.pointer none] w fun e w' => e = .returned (.int .i64 0) ∧ w' = w := by
  go_enter Try.func24, Try.ntmps24
  go_wp2
  go_ret
  exact ⟨rfl, rfl⟩

theorem left_any (w : World) (q : Nat) (v : Value) (bs : List UInt8) (a : Nat) (h : Rd w q v bs a) (hn : bs.length ≤ 1000000000000) :
    Calls Try.prog 25 #[.pointer (some ⟨q, 0, none⟩)] w fun e w' => e = .returned (.int .i64 ((8 * bs.length - a : Nat) : Int)) ∧ w' = w.drew := by
  obtain ⟨A, c, rfl⟩ := h.slice
  obtain ⟨hb, -, ha, -⟩ := h
  have h0 := hb.cell 0
  have h1 := hb.cell 1
  have hz := hb.lt
  clear hb
  simp at h0 h1
  have e1 : IntKind.i64.wrap ((bs.length : Int) * 8) = (bs.length : Int) * 8 := IntWalk.i64_in _ (by omega)
  have e2 : IntKind.i64.wrap ((bs.length : Int) * 8 - (a : Int)) = (bs.length : Int) * 8 - (a : Int) := IntWalk.i64_in _ (by omega)
  go_enter Try.func25, Try.ntmps25
  go_wp2_with fail
  go_still (by kernel_rfl)
  change Exit.then _ _ _ _ w.drew
  go_wp2_with fail
  go_ret
  refine ⟨?_, rfl⟩
  show Ending.returned (.int .i64 ((bs.length : Int) * 8 - (a : Int))) = _
  congr 2; omega

theorem left_nil (w : World) :
    Calls Try.prog 25 #[.pointer none] w fun e w' => e = .returned (.int .i64 0) ∧ w' = w := by
  go_enter Try.func25, Try.ntmps25
  go_wp2
  go_ret
  exact ⟨rfl, rfl⟩

theorem rest_nil (w : World) :
    Calls Try.prog 26 #[.pointer none] w fun e w' => e = .returned (.slice none 0 0) ∧ w' = w := by
  go_enter Try.func26, Try.ntmps26
  go_wp2
  go_ret
  exact ⟨rfl, rfl⟩

theorem rest_any (w : World) (q : Nat) (v : Value) (bs : List UInt8) (a : Nat) (h : Rd w q v bs a) (hn : bs.length ≤ 1000000000000) :
    Calls Try.prog 26 #[.pointer (some ⟨q, 0, none⟩)] w fun e w' => NewBytes w (bs.drop ((a + 7) / 8)) e w' := by
  obtain ⟨A, c, rfl⟩ := h.slice
  obtain ⟨hb, ho, ha, -⟩ := h
  have h0 := hb.cell 0
  have h1 := hb.cell 1
  have hz := hb.lt
  clear hb
  simp at h0 h1
  obtain ⟨f, hf⟩ : ∃ f, f = (8 - a % 8) % 8 := ⟨_, rfl⟩
  obtain ⟨k, hk⟩ : ∃ k, k = (a + f) / 8 := ⟨_, rfl⟩
  have hk2 : k = (a + 7) / 8 := by omega
  have hkl : k ≤ bs.length := by omega
  have e1 : IntKind.i64.wrap ((a : Int) + f) = (a : Int) + f := IntWalk.i64_in _ (by omega)
  have e2 : IntKind.i64.wrap (((a : Int) + f).tdiv 8) = (k : Int) := by rw [IntWalk.i64_quo _ _ (by omega)]; omega
  have Hf := Lib.hid hf; clear hf
  have Hk := Lib.hid hk; clear hk
  have Hk2 := Lib.hid hk2; clear hk2
  have HS := ho.src.drew.drop (k := k) hkl
  rw [← List.map_drop] at HS
  by_cases hck : c = k
  · obtain rfl := hck
    rw [if_pos rfl, Nat.sub_self] at HS
    have HC := Lib.hid (copied_any _ (bs.drop c) w.drew HS (by simp; omega))
    clear HS
    go_enter Try.func26, Try.ntmps26
    go_wp2_with fail
    go_still_tail 16, (by kernel_rfl)
    still_call (toWhole_nat a f _ (by omega) Hf.out)
    repeat still_step
    refine wpStill_nil ?_
    change wpList _ _ _ _ _ w.drew
    go_wp2_with fail
    refine HC.out.mono ?_
    rintro e w' ⟨c', rfl, h3, h4⟩
    have H3 := Lib.hid h3; clear h3
    go_wp2_with fail
    go_ret
    rw [← Hk2.out]
    exact ⟨c', by rw [List.length_drop]; rfl, H3.out, (Fr.refl [] w).drew.trans h4 (by simp)⟩
  · have hck' : (c = k) = False := by simp [hck]
    rw [if_neg hck] at HS
    have HC := Lib.hid (copied_any _ (bs.drop k) w.drew HS (by simp; omega))
    clear HS
    go_enter Try.func26, Try.ntmps26
    go_wp2_with fail
    go_still_tail 16, (by kernel_rfl)
    still_call (toWhole_nat a f _ (by omega) Hf.out)
    repeat still_step
    refine wpStill_nil ?_
    change wpList _ _ _ _ _ w.drew
    go_wp2_with fail
    refine HC.out.mono ?_
    rintro e w' ⟨c', rfl, h3, h4⟩
    have H3 := Lib.hid h3; clear h3
    go_wp2_with fail
    go_ret
    rw [← Hk2.out]
    exact ⟨c', by rw [List.length_drop]; rfl, H3.out, (Fr.refl [] w).drew.trans h4 (by simp)⟩
end Go.Proofs.Ytgdfjoionaedgaa
