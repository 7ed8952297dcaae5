/-
  Contracts of the document's writer: Put; conditions: the lengths are bounded as named.
-/
import Derived.Test.YtgdfjoionaedgaaRef1c
import Derived.Deep.RegionHeld3
import Derived.Deep.RegionLaw
namespace Go.Proofs.Ytgdfjoionaedgaa
open Go.RowKit

/-- append onto bytes of the call's own, within a region that draws its order. -/
theorem step_append_u8 {w : World} {ops : Array Oper} {o : Oper} {a : Act} {K : Act → World → Prop} {Q : Exit → Act → World → Prop} {E : Prop} (s x : Operand) (v : Value) (xs : List UInt8) (src : Value) (news : List UInt8)
    (hgd : o.guard = none) (ho : o.op = .call { callee := .builtin .append, args := #[s, x], argTypes := #[26, 26] })
    (hv : a.eval s = v) (hsv : a.eval x = src) (hown : Own w 5 v (xs.map B8)) (hs : Src w src (news.map B8)) (hlen : xs.length + news.length ≤ 1000000000000)
    (h : ∀ A c w', Own w' 5 (.slice A (xs.length + news.length) c) ((xs ++ news).map B8) → Own1 v (.slice A (xs.length + news.length) c) w w' → K (a.put o.dst (.slice A (xs.length + news.length) c)) w') :
    if Region.wanted o (yielded ops a.tmps) = true then Oper.wp Try.prog o a w K Q else E := by
  rw [if_pos (by simp [Region.wanted, hgd])]
  obtain ⟨i, hi, hz, h1, h2⟩ := info_parts info_u8
  refine wp_append_mine s x 26 5 i _ 1 ho Try.underlying26 hi hz h1 h2 rfl v _ src _ hv hsv hown hs ?_ ?_ ?_ ?_
  · intro u hu
    obtain ⟨b, _, rfl⟩ := List.mem_map.1 hu
    rfl
  · simp only [List.length_map, maxLen]; omega
  · simp only [List.length_map]; omega
  · intro A c w' k1 k2
    rw [← List.map_append] at k1
    simp only [List.length_map] at k1 k2 ⊢
    exact h A c w' k1 k2

/-- The document's writer: the bits L. -/
def Rw (w : World) (p : Nat) (v : Value) (L : List Bool) : Prop :=
  Blk w p 28 #[v] ∧ Own w 5 v ((bitsU L).map B8) ∧ v.ownBlock ≠ some p

theorem Rw.fr {w w' : World} {p : Nat} {v : Value} {L : List Bool} {S : List Nat} (h : Rw w p v L) (hf : Fr S w w') (h1 : p ∉ S) (h2 : ∀ k, v.ownBlock = some k → k ∉ S) : Rw w' p v L := by
  obtain ⟨hb, ho, hn⟩ := h
  exact ⟨hb.fr hf h1, ho.fr hf h2, hn⟩
theorem Rw.lt {w : World} {p : Nat} {v : Value} {L : List Bool} (h : Rw w p v L) : p < w.heap.size := h.1.lt
theorem Rw.lt2 {w : World} {p : Nat} {v : Value} {L : List Bool} (h : Rw w p v L) : ∀ k, v.ownBlock = some k → k < w.heap.size := h.2.1.lt

theorem rput_width (p a b : Int) (q : Value) (w : World) (hb : b < 0 ∨ 64 < b) :
    Calls Try.prog 11 #[q, .int .u64 a, .int .i64 b] w fun e w' => e = .returned (.int .i64 1) ∧ w' = w := by
  rcases hb with hb | hb
  · have h1 : decide (b < 0) = true := by simpa using hb
    go_enter Try.func11, Try.ntmps11
    go_wp2_with fail
    go_ret
    exact ⟨rfl, rfl⟩
  · have h1 : decide (b < 0) = false := by simp; omega
    have h2 : decide (64 < b) = true := by simpa using hb
    go_enter Try.func11, Try.ntmps11
    go_wp2_with fail
    go_ret
    exact ⟨rfl, rfl⟩

theorem rput_wide (a n : Nat) (q : Value) (w : World) (hn : n ≤ 64) (ha : a < 18446744073709551616) (hw : 2 ^ n ≤ a) :
    Calls Try.prog 11 #[q, .int .u64 (a : Int), .int .i64 (n : Int)] w fun e w' => e = .returned (.int .i64 1) ∧ Fr [] w w' := by
  have HC := Lib.hid (digits_any' a n w (by omega) ha)
  have hne : ((number (digits a n) : Int) != (a : Int)) = true := by
    have := number_lt (digits a n)
    rw [digits_length] at this
    rw [bne_iff_ne]; omega
  generalize hz : number (digits a n) = z at *
  have Hz := Lib.hid hz; clear hz
  have h1 : decide ((n : Int) < 0) = false := by simp
  have h2 : decide ((64 : Int) < (n : Int)) = false := by simp; omega
  clear hw
  go_enter Try.func11, Try.ntmps11
  go_wp2_with fail
  refine HC.out.mono ?_
  rintro e w1 ⟨c, rfl, hO, hF⟩
  have hS := hO.src
  have HN := Lib.hid (number_any _ (digits a n) w1 hS (by simp; omega))
  clear hO hS
  go_wp2_with fail
  refine HN.out.mono ?_
  rintro e w2 ⟨rfl, rfl⟩
  rw [Hz.out]
  go_wp2_with fail
  go_ret
  exact ⟨rfl, hF⟩

theorem keep_cell {w2 w3 w4 : World} {v v' u : Value} {p : Nat} (h1 : w3.cell? ⟨p, 0, none⟩ = w2.cell? ⟨p, 0, none⟩) (h2 : w3.frozen? ⟨p, 0, none⟩ = w2.frozen? ⟨p, 0, none⟩) (hG : Own1 v v' w3 w4) (hp : p < w3.heap.size) (hv : v.ownBlock ≠ some p)
    (c0 : w2.cell? ⟨p, 0, none⟩ = some u) (c1 : w2.frozen? ⟨p, 0, none⟩ = false) : w4.cell? ⟨p, 0, none⟩ = some u ∧ w4.frozen? ⟨p, 0, none⟩ = false :=
  ⟨(hG.1.cell (p := ⟨p, 0, none⟩) hp (not_own hv)).trans (h1.trans c0), (hG.1.frozen (p := ⟨p, 0, none⟩) hp (not_own hv)).trans (h2.trans c1)⟩

theorem rput_ok (p : Nat) (v : Value) (L : List Bool) (a n : Nat) (w : World) (h : Rw w p v L) (hn : n ≤ 64) (ha : a < 2 ^ n) (hL : L.length ≤ 100000000000) :
    Calls Try.prog 11 #[.pointer (some ⟨p, 0, none⟩), .int .u64 (a : Int), .int .i64 (n : Int)] w fun e w' => e = .returned (.int .i64 0) ∧
      ∃ v', Rw w' p v' (L ++ digits a n) ∧ WFr p v v' w w' := by
  obtain ⟨A, cv, rfl⟩ := h.2.1.src.slice
  rw [bitsU_length] at h ⊢
  have ha64 : a < 18446744073709551616 := Nat.lt_of_lt_of_le ha (Nat.pow_le_pow_right (by omega) hn : 2 ^ n ≤ 2 ^ 64)
  have HC := Lib.hid (digits_any' a n w (by omega) ha64)
  have hne : ((number (digits a n) : Int) != (a : Int)) = false := by
    rw [number_digits_lt ha]; simp
  generalize hz : number (digits a n) = z at *
  have Hz := Lib.hid hz; clear hz
  have h1 : decide ((n : Int) < 0) = false := by simp
  have h2 : decide ((64 : Int) < (n : Int)) = false := by simp; omega
  clear ha
  have HR := Lib.hid h; clear h
  go_enter Try.func11, Try.ntmps11
  go_wp2_with fail
  refine HC.out.mono ?_
  rintro e w1 ⟨c, rfl, hO, hF⟩
  have hS := hO.src
  have HN := Lib.hid (number_any _ (digits a n) w1 hS (by simp; omega))
  clear hO hS
  go_wp2_with fail
  refine HN.out.mono ?_
  rintro e w2 ⟨rfl, rfl⟩
  rw [Hz.out]
  obtain ⟨hB, hW, hpv⟩ := HR.out.fr hF (by simp) (by simp)
  have c0 := hB.cell 0
  have c1 := hB.frozen 0
  have c2 := hB.lt
  simp at c0
  have HB := Lib.hid hB; clear hB
  clear HC HN
  go_wp2_with fail
  have HD := Lib.hid (digits_any' a n w2.drew (by omega) ha64)
  go_region_law (first
      | (refine step_append_u8 (.tmp 25) (.tmp 28) (.slice A L.length cv) (bitsU L) (.slice (some ⟨w2.heap.size, 0, none⟩) n c3) (bitsU (digits a n)) rfl rfl rfl rfl (hW.drew.fr hF3 (by simp)) hO3.src (by simp; omega) ?_; intro A4 c4 w4 hO4 hG4; obtain ⟨c4x, f4⟩ := keep_cell (hF3.cell (p := ⟨p, 0, none⟩) c2 (by simp)) (hF3.frozen (p := ⟨p, 0, none⟩) c2 (by simp)) hG4 (Nat.lt_of_lt_of_le c2 hF3.size) hpv c0 c1)
      | (go_simp; go_at_call 32; refine HD.out.mono ?_; rintro e w3 ⟨c3, rfl, hO3, hF3⟩; obtain c3x := (hF3.cell (p := ⟨p, 0, none⟩) c2 (by simp)).trans c0))
  all_goals
    go_wp2_with fail
    go_ret
    rw [bitsU_length, bitsU_length, digits_length] at hO4 hG4
    refine ⟨rfl, .slice A4 (L.length + n) c4, ?_, ?_⟩
    · have hne4 : (Value.slice A4 (L.length + n) c4).ownBlock ≠ some p := by
        rcases hG4.2 with e | ⟨g, e, hg⟩
        · rw [e]; exact hpv
        · rw [e]; intro h; injection h with h; have := hF3.size; simp at this; omega
      have hB4 := ((HB.out.drew.fr hF3 (by simp)).fr hG4.1 (not_own hpv)).set_ 0 (.slice A4 (L.length + n) c4)
      refine ⟨by simpa using hB4, ?_, hne4⟩
      rw [bitsU_append]
      exact hO4.fr (S := [p]) ((Fr.refl [p] _).setCell (p := ⟨p, 0, none⟩) (.inl (by simp)) _) (fun k hk => by rw [hk] at hne4; simpa using hne4)
    · refine ⟨((((hF.mono (S' := p :: (Value.slice A L.length cv).ownBlock.toList) (by simp)).drew.trans hF3 (by simp)).trans hG4.1 (fun x hx => .inl (List.mem_cons_of_mem _ hx))).setCell (p := ⟨p, 0, none⟩) (.inl (by simp)) _), ?_⟩
      rcases hG4.2 with e | ⟨g, e, hg⟩
      · exact .inl e
      · exact .inr ⟨g, e, by have := hF3.size; have := hF.size; simp at *; omega⟩
end Go.Proofs.Ytgdfjoionaedgaa
