/-
  Contracts of the document's reader: Align and Rest; conditions: the lengths are bounded as named.
-/
import Derived.Test.YtgdfjoionaedgaaRef1f
namespace Go.Proofs.Ytgdfjoionaedgaa
open Go.RowKit

/-- P where the number is 0, else Q. -/
def Alt (z : Nat) (P Q : Prop) : Prop := (z = 0 ∧ P) ∨ (z ≠ 0 ∧ Q)

theorem part_zero (l : List Bool) (i k : Nat) : number ((l.drop i).take k) = 0 ↔ ∀ t, i ≤ t → t < i + k → l.getD t false = false := by
  rw [number_zero_iff]
  constructor
  · intro h t h1 h2
    by_cases ht : t < l.length
    · have : l.getD t false ∈ (l.drop i).take k := by
        rw [List.mem_iff_getElem?]
        refine ⟨t - i, ?_⟩
        rw [List.getElem?_take, if_pos (by omega), List.getElem?_drop, show i + (t - i) = t by omega, List.getD_eq_getElem?_getD, List.getElem?_eq_getElem ht]; rfl
      exact h _ this
    · rw [List.getD_eq_getElem?_getD, List.getElem?_eq_none (by omega)]; rfl
  · intro h b hb
    obtain ⟨t, ht⟩ := List.mem_iff_getElem?.1 hb
    rw [List.getElem?_take] at ht
    split at ht
    · rw [List.getElem?_drop] at ht
      have := h (i + t) (by omega) (by omega)
      rw [List.getD_eq_getElem?_getD, ht] at this
      exact this
    · cases ht

theorem rralign_any (q : Nat) (v : Value) (l : List Bool) (i : Nat) (w : World) (h : Rr w q v l i) (hl : l.length ≤ 100000000000000) (h8 : l.length % 8 = 0) :
    Calls Try.prog 23 #[.pointer (some ⟨q, 0, none⟩)] w fun e w' =>
      Alt (number ((l.drop i).take ((8 - i % 8) % 8))) (e = .returned (.int .i64 0) ∧ Rr w' q v l (i + (8 - i % 8) % 8) ∧ Fr [q] w w') (e = .returned (.int .i64 11) ∧ w' = w) := by
  obtain ⟨A, c, rfl, hc⟩ := h.slice
  have HN := Lib.hid (next_any w q _ l i h hl)
  obtain ⟨hB, hO, hi, hne⟩ := h
  have d0 := hB.cell 0
  have d1 := hB.cell 1
  have d2 := hB.frozen 1
  have d3 := hB.lt
  simp at d0 d1
  obtain ⟨x, hx⟩ : ∃ x, x = (i + 7) / 8 * 8 := ⟨_, rfl⟩
  have hxk : x = i + (8 - i % 8) % 8 := by omega
  have hxl : x ≤ l.length := by omega
  have hix : i ≤ x := by omega
  rw [← hx] at HN
  rw [← hxk]
  obtain ⟨k, hk⟩ : ∃ k, k = (8 - i % 8) % 8 := ⟨_, rfl⟩
  rw [← hk]
  rw [← hk] at hxk
  clear hx hk
  have Hxk := Lib.hid hxk; clear hxk
  have HB := Lib.hid hB; clear hB
  go_enter Try.func23, Try.ntmps23
  go_wp2_with fail
  go_loop [3] (fun s3 => ∃ j : Nat, i ≤ j ∧ j ≤ x ∧ s3 = .int .i64 (j : Int) ∧ ∀ t, i ≤ t → t < j → l.getD t false = false) (fun s3 => x - (intOf s3).toNat)
  case atStart => exact ⟨i, Nat.le_refl _, hix, rfl, fun t h1 h2 => by omega⟩
  case round =>
    obtain ⟨j, hj1, hj2, rfl, hz⟩ := hrel
    have HZ := Lib.hid hz; clear hz
    by_cases hlt : j < x
    · obtain ⟨g, rfl, e1, e2, -, -⟩ := hO.cell (j := j) (by simp; omega)
      obtain ⟨b, hb⟩ : ∃ b, b = l.getD j false := ⟨_, rfl⟩
      have hc' : w.cell? ⟨g, j, none⟩ = some (.int .u8 (b.toNat : Int)) := by
        rw [e1, hb, ← B8_u8b]
        simp [bitsU, List.getD_eq_getElem?_getD, show j < l.length by omega]
      clear e1 e2
      have Hb := Lib.hid hb; clear hb
      go_wp2_with fail
      refine HN.out.mono ?_
      rintro e w2 ⟨rfl, rfl⟩
      cases b with
      | true =>
        have eb : (((true).toNat : Int) != 0) = true := rfl
        go_wp2_with fail
        go_ret
        have : ¬ number ((l.drop i).take k) = 0 := by
          rw [part_zero]
          intro h
          have h1 := h j hj1 (by have := Hxk.out; omega)
          rw [← Hb.out] at h1; cases h1
        exact .inr ⟨this, rfl, rfl⟩
      | false =>
        have eb : (((false).toNat : Int) != 0) = false := rfl
        go_wp2_with fail
        go_round
        case rel =>
          refine ⟨j + 1, by omega, by omega, by go_num, fun t h1 h2 => ?_⟩
          by_cases ht : t = j
          · subst ht; exact Hb.out.symm
          · exact HZ.out t h1 (by omega)
        case measure => simp [intOf]; omega
    · obtain rfl : j = x := by omega
      go_wp2_with fail
      refine HN.out.mono ?_
      rintro e w2 ⟨rfl, rfl⟩
      go_wp2_with fail
      refine HN.out.mono ?_
      rintro e w2 ⟨rfl, rfl⟩
      go_wp2_with fail
      go_ret
      have : number ((l.drop i).take k) = 0 := by
        rw [part_zero]
        intro t h1 h2
        exact HZ.out t h1 (by have := Hxk.out; omega)
      exact .inl ⟨this, rfl, Rr.moved HB.out hO hne _ hxl, (Fr.refl [q] _).setCell (p := ⟨q, 1, none⟩) (.inl (by simp)) _⟩

theorem rrest_core (q : Nat) (A : Option Addr) (c : Nat) (l : List Bool) (i x : Nat) (w : World) (h : Rr w q (.slice A l.length c) l i) (hl : l.length ≤ 1000000000000) (hx : x = (i + 7) / 8 * 8) (hxl : x ≤ l.length) (S : Value)
    (hS : S = .slice (if c = x then A else A.map (·.add x)) (l.length - x) (c - x)) (hc : l.length ≤ c) :
    Calls Try.prog 27 #[.pointer (some ⟨q, 0, none⟩)] w fun e w' => ∃ bs, PackOf bs (l.drop x) ∧ NewRow w bs e w' := by
  have HN := Lib.hid (next_any w.drew q _ l i (h.fr (S := []) (Fr.refl [] w).drew (by simp) (by simp)) (by omega))
  rw [← hx] at HN
  clear hx
  obtain ⟨hB, hO, hi, hne⟩ := h
  have d0 := hB.cell 0
  have d3 := hB.lt
  simp at d0
  have HS := hO.src.drew |>.drop (k := x) (by omega)
  have hml : ((bitsU l).map B8 |>.drop x) = (bitsU (l.drop x)).map B8 := by simp [bitsU, List.map_drop]
  rw [hml, ← hS] at HS
  have HP := Lib.hid (pack_any S (l.drop x) w.drew HS (by simp; omega))
  clear hB hml HS
  have eb1 : (0 : Int) ≤ (x : Int) := by omega
  have eb2 : x ≤ c := by omega
  have eb3 : (x : Int) ≤ (l.length : Int) := by omega
  by_cases hck : c = x
  · subst hck
    rw [if_pos rfl, Nat.sub_self, show l.length - c = 0 by omega] at hS
    subst hS
    go_enter Try.func27, Try.ntmps27
    go_wp2_with fail
    go_still_tail 7, (by kernel_rfl)
    still_call HN.out
    repeat still_step
    refine wpStill_nil ?_
    change wpList _ _ _ _ _ w.drew
    go_wp2_with fail
    refine HP.out.mono ?_
    rintro e w' ⟨bs, hbs, v, rfl, h3, h4, h5⟩
    obtain ⟨A2, c2, rfl⟩ := h3.src.slice
    have H3 := Lib.hid h3; clear h3
    have H5 := Lib.hid h5; clear h5
    have HBS := Lib.hid hbs; clear hbs
    go_wp2_with fail
    go_ret
    exact ⟨bs, HBS.out, _, rfl, H3.out, (Fr.refl [] w).drew.trans h4 (by simp), H5.out⟩
  · have hck' : (c = x) = False := by simp [hck]
    rw [if_neg hck] at hS
    subst hS
    go_enter Try.func27, Try.ntmps27
    go_wp2_with fail
    go_still_tail 7, (by kernel_rfl)
    still_call HN.out
    repeat still_step
    refine wpStill_nil ?_
    change wpList _ _ _ _ _ w.drew
    go_wp2_with fail
    refine HP.out.mono ?_
    rintro e w' ⟨bs, hbs, v, rfl, h3, h4, h5⟩
    obtain ⟨A2, c2, rfl⟩ := h3.src.slice
    have H3 := Lib.hid h3; clear h3
    have H5 := Lib.hid h5; clear h5
    have HBS := Lib.hid hbs; clear hbs
    go_wp2_with fail
    go_ret
    exact ⟨bs, HBS.out, _, rfl, H3.out, (Fr.refl [] w).drew.trans h4 (by simp), H5.out⟩

theorem rrest_any (q : Nat) (v : Value) (l : List Bool) (i : Nat) (w : World) (h : Rr w q v l i) (hl : l.length ≤ 1000000000000) (h8 : l.length % 8 = 0) :
    Calls Try.prog 27 #[.pointer (some ⟨q, 0, none⟩)] w fun e w' => ∃ bs, PackOf bs (l.drop ((i + 7) / 8 * 8)) ∧ NewRow w bs e w' := by
  obtain ⟨A, c, rfl, hc⟩ := h.slice
  have hi := h.2.2.1
  exact rrest_core q A c l i _ w h hl rfl (by omega) _ rfl hc
end Go.Proofs.Ytgdfjoionaedgaa
