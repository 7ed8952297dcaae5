/-
  Contracts of the document's writer (Align) and reader (Open, next); conditions: the lengths are bounded as named.
-/
import Derived.Test.YtgdfjoionaedgaaRef1d
import Derived.Deep.LoopGhost
namespace Go.Proofs.Ytgdfjoionaedgaa
open Go.RowKit

theorem ralign_pad (L : List Bool) : L ++ List.replicate ((8 - L.length % 8) % 8) false = if L.length % 8 = 0 then L else (L ++ [false]) ++ List.replicate ((8 - (L ++ [false]).length % 8) % 8) false := by
  split
  · rename_i h; simp [h]
  · rename_i h
    obtain ⟨k, hk⟩ : ∃ k, (8 - L.length % 8) % 8 = k + 1 := ⟨(8 - L.length % 8) % 8 - 1, by omega⟩
    have hk2 : (8 - (L ++ [false]).length % 8) % 8 = k := by simp; omega
    rw [hk, hk2, List.append_assoc]
    rfl

theorem rwalign_any (p : Nat) (v : Value) (L : List Bool) (w : World) (h : Rw w p v L) (hL : L.length ≤ 100000000000) :
    Calls Try.prog 12 #[.pointer (some ⟨p, 0, none⟩)] w fun e w' => e = .returned (.tuple #[]) ∧
      ∃ v', Rw w' p v' (L ++ List.replicate ((8 - L.length % 8) % 8) false) ∧ WFr p v v' w w' := by
  obtain ⟨M, hM⟩ : ∃ M, M = L ++ List.replicate ((8 - L.length % 8) % 8) false := ⟨_, rfl⟩
  rw [← hM]
  have HM := Lib.hid hM; clear hM
  go_enter Try.func12, Try.ntmps12
  go_wp2_with fail
  go_loopg [] 8 (fun k wr => ∃ v1 L1, Rw wr p v1 L1 ∧ WFr p v v1 w wr ∧ (8 - L1.length % 8) % 8 < k ∧ L1.length ≤ L.length + 8 - k ∧ M = L1 ++ List.replicate ((8 - L1.length % 8) % 8) false)
  case atStart => exact ⟨v, L, h, ⟨Fr.refl _ _, .inl rfl⟩, by omega, by omega, HM.out⟩
  case round =>
    obtain ⟨v1, L1, hR, hF, hk, hl1, hM1⟩ := hrel
    obtain ⟨A, cv, rfl⟩ := hR.2.1.src.slice
    rw [bitsU_length] at hR hF
    obtain ⟨hB, hO, hne⟩ := hR
    have c0 := hB.cell 0
    have c1 := hB.frozen 0
    have c2 := hB.lt
    simp at c0
    have HB := Lib.hid hB; clear hB
    have HM1 := Lib.hid hM1; clear hM1
    by_cases h8 : L1.length % 8 = 0
    · have e8 : ((L1.length : Int) % 8 != 0) = false := by
        rw [bne_eq_false_iff_eq]; omega
      have H8 := Lib.hid h8; clear h8
      go_wp2_with fail
      go_end0
      refine ⟨rfl, _, ?_, hF⟩
      rw [HM1.out, ralign_pad, if_pos H8.out]
      exact ⟨HB.out, hO, hne⟩
    · have e8 : ((L1.length : Int) % 8 != 0) = true := by
        rw [bne_iff_ne]; omega
      go_wp2_with (at_builtin; go_loud (refine wp_append_u8 (.tmp 13) (.tmp 14) (.slice A L1.length cv) (bitsU L1) (.slice (some ⟨wr.heap.size, 0, none⟩) 1 1) [0] rfl rfl rfl rfl (hO.alloc _) (Src.one (by simp [go_sem]; rfl)) (by simp; omega) ?_))
      intro v2 w3 hO2 hG2
      have hb2 : (bitsU L1 ++ [(0 : UInt8)]) = bitsU (L1 ++ [false]) := by rw [bitsU_append]; rfl
      have hO2' : Own w3 5 v2 ((bitsU (L1 ++ [false])).map B8) := by rw [← hb2]; simpa using hO2
      clear hO2 hb2
      have hB3 := (HB.out.alloc (Obj.cells #[Value.int IntKind.u8 0] 5)).fr hG2.1 (not_own hne)
      obtain ⟨A2, cv2, rfl⟩ := hO2'.src.slice
      rw [bitsU_length] at hO2' hG2
      have d0 := hB3.cell 0
      have d1 := hB3.frozen 0
      simp at d0
      have HB3 := Lib.hid hB3; clear hB3
      clear c0 c1
      go_wp2_with fail
      have hl2 : (L1 ++ [false]).length = L1.length + 1 := by simp
      rw [hl2] at hG2 hO2'
      go_roundg (gk - 1)
      case measure => omega
      case rel =>
        have hne2 : (Value.slice A2 (L1.length + 1) cv2).ownBlock ≠ some p := by
          rcases hG2.2 with e | ⟨g, e, hg⟩
          · rw [e]; exact hne
          · rw [e]; intro h; injection h with h; simp at hg; omega
        have hB4 := HB3.out.set_ 0 (.slice A2 (L1.length + 1) cv2)
        refine ⟨.slice A2 (L1.length + 1) cv2, L1 ++ [false], ⟨by simpa using hB4, ?_, hne2⟩, hF.app hG2 _, by rw [hl2]; omega, by rw [hl2]; omega, ?_⟩
        · exact hO2'.fr (S := [p]) ((Fr.refl [p] _).setCell (p := ⟨p, 0, none⟩) (.inl (by simp)) _) (fun k hk => by rw [hk] at hne2; simpa using hne2)
        · rw [HM1.out, ralign_pad, if_neg h8]

/-- The document's reader: the bits l; it is at bit i. -/
def Rr (w : World) (q : Nat) (v : Value) (l : List Bool) (i : Nat) : Prop :=
  Blk w q 47 #[v, .int .i64 (i : Int)] ∧ Own w 5 v ((bitsU l).map B8) ∧ i ≤ l.length ∧ v.ownBlock ≠ some q

theorem Rr.fr {w w' : World} {p : Nat} {v : Value} {l : List Bool} {a : Nat} {S : List Nat} (h : Rr w p v l a) (hf : Fr S w w') (h1 : p ∉ S) (h2 : ∀ k, v.ownBlock = some k → k ∉ S) : Rr w' p v l a := by
  obtain ⟨hb, ho, hp, hn⟩ := h
  exact ⟨hb.fr hf h1, ho.fr hf h2, hp, hn⟩
theorem Rr.lt {w : World} {p : Nat} {v : Value} {l : List Bool} {a : Nat} (h : Rr w p v l a) : p < w.heap.size := h.1.lt
theorem Rr.lt2 {w : World} {p : Nat} {v : Value} {l : List Bool} {a : Nat} (h : Rr w p v l a) : ∀ k, v.ownBlock = some k → k < w.heap.size := h.2.1.lt
theorem Rr.slice {w : World} {q : Nat} {v : Value} {l : List Bool} {a : Nat} (h : Rr w q v l a) : ∃ A c, v = .slice A l.length c ∧ l.length ≤ c := by
  rcases h.2.1.form with ⟨rfl, h0⟩ | ⟨g, cap, cur, rfl, -, hc, -⟩
  · have : l.length = 0 := by have := congrArg List.length h0; simpa using this
    exact ⟨none, 0, by rw [this], by omega⟩
  · simp only [List.length_map, bitsU_length] at *
    exact ⟨_, _, rfl, hc⟩
theorem Rr.moved {w : World} {q a : Nat} {v : Value} {l : List Bool} (hB : Blk w q 47 #[v, .int .i64 (a : Int)]) (hO : Own w 5 v ((bitsU l).map B8)) (hne : v.ownBlock ≠ some q) (b : Nat) (hb : b ≤ l.length) :
    Rr (w.setCell ⟨q, 1, none⟩ (.int .i64 (b : Int))) q v l b := by
  have h1 := hB.set_ 1 (Value.int .i64 (b : Int))
  refine ⟨by simpa using h1, ?_, hb, hne⟩
  exact hO.fr (S := [q]) ((Fr.refl [q] _).setCell (p := ⟨q, 1, none⟩) (.inl (by simp)) (Value.int .i64 (b : Int))) (fun j hj => by rw [hj] at hne; simpa using hne)

theorem ropen_any (src : Value) (bs : List UInt8) (w : World) (hs : Src w src (bs.map B8)) (hn : bs.length ≤ 10000000000) :
    Calls Try.prog 19 #[src] w fun e w' => ∃ q v, e = .returned (.pointer (some ⟨q, 0, none⟩)) ∧ Rr w' q v (rowOf bs) 0 ∧ Fr [] w w' ∧ w.heap.size ≤ q ∧ (∀ k, v.ownBlock = some k → w.heap.size ≤ k) := by
  have HC := Lib.hid (row_any src bs w hs hn)
  go_enter Try.func19, Try.ntmps19
  go_wp2_with fail
  refine HC.out.mono ?_
  rintro e w' ⟨v, rfl, h1, h2, h3⟩
  obtain ⟨A, c, rfl⟩ := h1.src.slice
  have hlt := h1.lt
  have H1 := Lib.hid h1; clear h1
  have H3 := Lib.hid h3; clear h3
  have HL := Lib.hid hlt; clear hlt
  go_wp2_with fail
  go_ret
  refine ⟨_, .slice A (bitsU (rowOf bs)).length c, rfl, ⟨?_, H1.out.alloc _, by omega, ?_⟩, h2.alloc _, h2.size, H3.out⟩
  · have := Blk.new w' 47 #[.slice A (bitsU (rowOf bs)).length c, .int .i64 0]
    simpa using this
  · intro h; have := HL.out _ h; omega

theorem next_any (w : World) (q : Nat) (v : Value) (l : List Bool) (i : Nat) (h : Rr w q v l i) (hl : l.length ≤ 100000000000000) :
    Calls Try.prog 35 #[.pointer (some ⟨q, 0, none⟩)] w fun e w' => e = .returned (.int .i64 (((i + 7) / 8 * 8 : Nat) : Int)) ∧ w' = w := by
  obtain ⟨hB, -, hi, -⟩ := h
  have d1 := hB.cell 1
  have d3 := hB.lt
  simp at d1
  clear hB
  go_enter Try.func35, Try.ntmps35
  go_wp2_with fail
  go_ret
  exact ⟨by go_num, rfl⟩
end Go.Proofs.Ytgdfjoionaedgaa
