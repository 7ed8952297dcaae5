/-
  Contracts of the document's Sum, Entry and More of layer 3; condition: the bytes are at most as many as named.
-/
import Derived.Test.YtdpkhhmmoiianaaRef3c
namespace Go.Proofs.Ytdpkhhmmoiianaa
open Go.RowKit

/-- The first i factors turned by s's. -/
def tog (s : W32) (l : List Bool) (i : Nat) : List Bool := (List.range l.length).map fun j => l.getD j false ^^ (decide (j < i) && s.getLsbD j)
@[simp] theorem tog_length (s : W32) (l : List Bool) (i : Nat) : (tog s l i).length = l.length := by simp [tog]
theorem tog_zero (s : W32) (l : List Bool) : tog s l 0 = l := by
  apply List.ext_getElem (by simp)
  intro j h1 h2
  simp [tog, List.getD_eq_getElem?_getD, h2]
theorem tog_at (s : W32) (l : List Bool) (i : Nat) (h : i < l.length) : (tog s l i)[i]? = some (l.getD i false) := by
  simp [tog, h]
theorem tog_set (s : W32) (l : List Bool) (i : Nat) : (tog s l i).set i (l.getD i false ^^ s.getLsbD i) = tog s l (i + 1) := by
  apply List.ext_getElem (by simp)
  intro j h1 h2
  rw [List.getElem_set]
  simp only [tog, List.getElem_map, List.getElem_range]
  by_cases h : i = j
  · subst h; simp
  · rw [if_neg h]
    by_cases h3 : j < i
    · rw [decide_eq_true h3, decide_eq_true (show j < i + 1 by omega)]
    · rw [decide_eq_false h3, decide_eq_false (show ¬ j < i + 1 by omega)]
theorem tog_all (s : W32) (l : List Bool) : tog s (l ++ List.replicate 32 false) 32 = headed s l := by
  unfold headed
  apply List.ext_getElem (by simp [bits32_length]; omega)
  intro j h1 h2
  have hj : j < l.length + 32 := by simpa using h1
  rw [List.getElem_zipWith]
  simp only [tog, List.getElem_map, List.getElem_range]
  rw [List.getD_eq_getElem?_getD, List.getElem?_eq_getElem (by simp; omega), Option.getD_some]
  congr 1
  rw [List.getElem_append]
  by_cases h : j < 32
  · rw [dif_pos (by rw [bits32_length]; exact h)]
    simp [bits32, h]
  · rw [dif_neg (by rw [bits32_length]; exact h)]
    simp [h]
theorem bitsU_set (l : List Bool) (i : Nat) (b : Bool) : (bitsU l).set i (u8b b) = bitsU (l.set i b) := by
  unfold bitsU; rw [List.map_set]
theorem bitsU_none (n : Nat) : bitsU (List.replicate n false) = List.replicate n 0 := by
  unfold bitsU; rw [List.map_replicate]; rfl
theorem u8b_toNat (b : Bool) : ((u8b b).toNat : Int) = (b.toNat : Int) := by cases b <;> rfl

/-- A factor, to be read and written. -/
theorem Mine.factor {w0 w : World} {A : Option Addr} {n c j : Nat} {l : List Bool} {b : Bool} (h : Mine w0 w (.slice A n c) (bitsU l)) (hb : l[j]? = some b) :
    ∃ g, A = some ⟨g, 0, none⟩ ∧ w.cell? ⟨g, j, none⟩ = some (.int .u8 (b.toNat : Int)) ∧ w.frozen? ⟨g, j, none⟩ = false ∧ n = l.length ∧
      ∀ z : Bool, Mine w0 (w.setCell ⟨g, j, none⟩ (.int .u8 (z.toNat : Int))) (.slice A n c) (bitsU (l.set j z)) := by
  have hj : j < l.length := (List.getElem?_eq_some_iff.1 hb).1
  obtain ⟨g, rfl, -, h1, h2, h3, h4⟩ := h.cell (j := j) (by simpa using hj)
  refine ⟨g, rfl, ?_, h2, by simpa using h3, fun z => ?_⟩
  · rw [h1, List.getD_eq_getElem?_getD, bitsU, List.getElem?_map, hb, ← u8b_toNat]; rfl
  · have := (h4 (u8b z)).1
    rw [u8b_toNat, bitsU_set] at this
    exact this

theorem inv_ones (i : Nat) (h : i < 32) : (inv 0#32).getLsbD i = true := by rw [inv_bit _ _ h]; simp

set_option maxRecDepth 20000 in
set_option maxHeartbeats 4000000 in
theorem rsum_any (src : Value) (bs : List UInt8) (w : World) (hs : Src w src (bs.map B8)) (hn : bs.length ≤ 1000000) :
    Calls Try.prog 11 #[src] w fun e w' => e = .returned (V32 (sumOf bs)) ∧ Fr [] w w' := by
  have HC := Lib.hid (factors_any src bs w hs hn); clear hs
  go_enter Try.func11, Try.ntmps11
  go_wp2_with fail
  refine HC.out.mono ?_
  rintro e w1 ⟨v1, rfl, hM1⟩
  have HM1 := Lib.hid hM1; clear hM1
  go_wp2_with (at_builtin; refine wp_append_zeros_u8 _ _ v1 (bitsU (bitsOf bs)) 32 rfl rfl rfl rfl HM1.out.own (by rw [bitsU_length, bitsOf_length]; omega) ?_)
  intro v2 w2 hO hG
  have hM2 := HM1.out.appended (ys := List.replicate 32 0) (by rw [List.map_append, List.map_replicate]; exact hO) hG
  rw [← bitsU_none, ← bitsU_append] at hM2
  obtain ⟨A, c, rfl⟩ := hM2.slice
  have hlen : (bitsU (bitsOf bs ++ List.replicate 32 false)).length = 8 * bs.length + 32 := by rw [bitsU_length, List.length_append, bitsOf_length, List.length_replicate]
  rw [hlen] at hM2 ⊢
  obtain ⟨n, hnn⟩ : ∃ n, n = 8 * bs.length + 32 := ⟨_, rfl⟩
  rw [← hnn] at hM2 ⊢
  have Hnn := Lib.hid hnn
  obtain ⟨l, hl⟩ : ∃ l, l = bitsOf bs ++ List.replicate 32 false := ⟨_, rfl⟩
  rw [← hl] at hM2 hlen
  have hll : l.length = n := by rw [bitsU_length] at hlen; omega
  have Hll := Lib.hid hll
  have Hl := Lib.hid hl
  have HM2 := Lib.hid hM2
  clear hM2 hO hG HM1 HC hlen hnn hll hl
  go_wp2_with fail
  go_loopw [4] (fun s4 wr => ∃ i : Nat, i ≤ 32 ∧ s4 = .int .i64 (i : Int) ∧ Mine w wr (.slice A n c) (bitsU (tog (inv 0#32) l i))) (fun s4 _ => 32 - (intOf s4).toNat)
  case atStart => exact ⟨0, by omega, rfl, by rw [tog_zero]; exact HM2.out⟩
  case round =>
    obtain ⟨i, hi, rfl, hM⟩ := hrel
    by_cases hlt : i < 32
    · have eg : decide ((i : Int) < 32) = true := by simp; omega
      have hin : i < n := by have := Hnn.out; omega
      have hia := tog_at (inv 0#32) l i (by rw [Hll.out]; exact hin)
      obtain ⟨b, hb⟩ : ∃ b, b = l.getD i false := ⟨_, rfl⟩
      rw [← hb] at hia
      obtain ⟨g, rfl, c1, c2, -, hset⟩ := hM.factor hia
      have e1 : (1 : Int) - (b.toNat : Int) = ((!b).toNat : Int) := by cases b <;> rfl
      have hT := tog_set (inv 0#32) l i
      rw [← hb, inv_ones i hlt, Bool.xor_true] at hT
      obtain ⟨b', hb'⟩ : ∃ b', b' = !b := ⟨_, rfl⟩
      rw [← hb'] at e1 hT
      have h3 := hset b'
      rw [hT] at h3
      have hbl : b'.toNat ≤ 1 := by cases b' <;> simp
      have ewb : IntKind.u8.wrap (b'.toNat : Int) = (b'.toNat : Int) := IntWalk.u8_in _ (by omega)
      have H3 := Lib.hid h3
      clear h3 hset hT hia hb hb' hM
      go_wp2_with fail
      exact ⟨⟨i + 1, by omega, by simp, H3.out⟩, by simp [intOf]; omega⟩
    · obtain rfl : i = 32 := by omega
      have eg : decide ((32 : Int) < 32) = false := by decide
      rw [Hl.out, tog_all] at hM
      have hD := divide_any (.slice A n c) (headed (inv 0#32) (bitsOf bs)) wr hM.src (by
        have : (headed (inv 0#32) (bitsOf bs)).length = 8 * bs.length + 32 := by simp [headed, bits32_length, bitsOf_length]; omega
        omega)
      rw [headed_run] at hD
      have HD := Lib.hid hD; clear hD
      have HM := Lib.hid hM; clear hM
      go_wp2_with fail
      refine HD.out.mono ?_
      rintro e w5 ⟨rfl, f5⟩
      have F5 := Lib.hid f5; clear f5 HD
      go_wp2_with fail
      refine (number3_any _ true _).mono ?_
      rintro e w6 ⟨rfl, f6⟩
      have F6 := Lib.hid f6; clear f6
      rw [if_pos rfl]
      go_wp2_with fail
      go_ret
      exact ⟨rfl, (HM.out.fr.trans F5.out (by simp)).trans F6.out (by simp)⟩

set_option maxRecDepth 20000 in
theorem rentry_any (i : Int) (x : UInt8) (w : World) (hi : i = (x.toNat : Int)) :
    Calls Try.prog 15 #[.int .i64 i] w fun e w' => e = .returned (V32 (tab x.toNat)) ∧ Fr [] w w' := by
  subst hi
  have hxl := x.toNat_lt
  have ewx : IntKind.u8.wrap (x.toNat : Int) = (x.toNat : Int) := IntWalk.u8_in _ (by omega)
  go_enter Try.func15, Try.ntmps15
  go_wp2_with fail
  generalize hw : w.alloc _ = w1
  have hF : Fr [] w w1 := by rw [← hw]; exact (Fr.refl _ _).alloc _
  have hS : Src w1 (.slice (some ⟨w.heap.size, 0, none⟩) 1 1) ([x].map B8) := by
    rw [← hw]
    exact src_row (heap_alloc_new _ _) rfl rfl (by decide)
  have HF := Lib.hid hF; clear hF
  have HC := Lib.hid (factors_any _ [x] w1 hS (by simp)); clear hS hw
  refine HC.out.mono ?_
  rintro e w2 ⟨v1, rfl, hM1⟩
  have HM1 := Lib.hid hM1; clear hM1
  go_wp2_with (at_builtin; refine wp_append_zeros_u8 _ _ v1 (bitsU (bitsOf [x])) 32 rfl rfl rfl rfl HM1.out.own (by rw [bitsU_length, bitsOf_length]; simp) ?_)
  intro v2 w3 hO hG
  have hM2 := HM1.out.appended (ys := List.replicate 32 0) (by rw [List.map_append, List.map_replicate]; exact hO) hG
  rw [← bitsU_none, ← bitsU_append] at hM2
  have hD := divide_any v2 _ w3 hM2.src (by rw [List.length_append, bitsOf_length]; simp)
  rw [entry_tab] at hD
  have HD := Lib.hid hD; clear hD
  have HM2 := Lib.hid hM2; clear hM2 hO hG
  go_wp2_with fail
  refine HD.out.mono ?_
  rintro e w5 ⟨rfl, f5⟩
  have F5 := Lib.hid f5; clear f5 HD
  go_wp2_with fail
  refine (number3_any _ false _).mono ?_
  rintro e w6 ⟨rfl, f6⟩
  have F6 := Lib.hid f6; clear f6
  rw [if_neg (by simp)]
  go_wp2_with fail
  go_ret
  exact ⟨rfl, ((HF.out.trans HM2.out.fr (by simp)).trans F5.out (by simp)).trans F6.out (by simp)⟩

theorem more_code (b c : Bool) : (((b.toNat : Int) + 1 + (c.toNat : Int)).tmod 2) = ((b ^^ !c).toNat : Int) := by cases b <;> cases c <;> decide

set_option maxRecDepth 20000 in
set_option maxHeartbeats 4000000 in
theorem rmore_any (s : W32) (src : Value) (bs : List UInt8) (w : World) (hs : Src w src (bs.map B8)) (hn : bs.length ≤ 1000000) :
    Calls Try.prog 13 #[V32 s, src] w fun e w' => e = .returned (V32 (inv (run (inv s) bs))) ∧ Fr [] w w' := by
  have HC := Lib.hid (factors_any src bs w hs hn); clear hs
  go_enter Try.func13, Try.ntmps13
  go_wp2_with fail
  refine HC.out.mono ?_
  rintro e w1 ⟨v1, rfl, hM1⟩
  have HM1 := Lib.hid hM1; clear hM1
  go_wp2_with (at_builtin; refine wp_append_zeros_u8 _ _ v1 (bitsU (bitsOf bs)) 32 rfl rfl rfl rfl HM1.out.own (by rw [bitsU_length, bitsOf_length]; omega) ?_)
  intro v2 w2 hO hG
  have hM2 := HM1.out.appended (ys := List.replicate 32 0) (by rw [List.map_append, List.map_replicate]; exact hO) hG
  rw [← bitsU_none, ← bitsU_append] at hM2
  obtain ⟨A, c, rfl⟩ := hM2.slice
  have hlen : (bitsU (bitsOf bs ++ List.replicate 32 false)).length = 8 * bs.length + 32 := by rw [bitsU_length, List.length_append, bitsOf_length, List.length_replicate]
  rw [hlen] at hM2 ⊢
  obtain ⟨n, hnn⟩ : ∃ n, n = 8 * bs.length + 32 := ⟨_, rfl⟩
  rw [← hnn] at hM2 ⊢
  have Hnn := Lib.hid hnn
  obtain ⟨l, hl⟩ : ∃ l, l = bitsOf bs ++ List.replicate 32 false := ⟨_, rfl⟩
  rw [← hl] at hM2 hlen
  have hll : l.length = n := by rw [bitsU_length] at hlen; omega
  have Hll := Lib.hid hll
  have Hl := Lib.hid hl
  have HM2 := Lib.hid hM2
  clear hM2 hO hG HM1 HC hlen hnn hll hl
  go_wp2_with fail
  go_loopw [6, 7] (fun s6 s7 wr => ∃ i : Nat, i ≤ 32 ∧ s7 = .int .i64 (i : Int) ∧ s6 = .int .u32 ((s.toNat >>> i : Nat) : Int) ∧ Mine w wr (.slice A n c) (bitsU (tog (inv s) l i))) (fun _ s7 _ => 32 - (intOf s7).toNat)
  case atStart => exact ⟨0, by omega, rfl, by simp, by rw [tog_zero]; exact HM2.out⟩
  case round =>
    obtain ⟨i, hi, rfl, rfl, hM⟩ := hrel
    by_cases hlt : i < 32
    · have eg : decide ((i : Int) < 32) = true := by simp; omega
      have hin : i < n := by have := Hnn.out; omega
      have hia := tog_at (inv s) l i (by rw [Hll.out]; exact hin)
      obtain ⟨b, hb⟩ : ∃ b, b = l.getD i false := ⟨_, rfl⟩
      rw [← hb] at hia
      obtain ⟨g, rfl, c1, c2, -, hset⟩ := hM.factor hia
      obtain ⟨V, hV⟩ : ∃ V, V = s.toNat >>> i := ⟨_, rfl⟩
      rw [← hV]
      have e0 := bit_low V
      obtain ⟨d, hd⟩ : ∃ d, d = V.testBit 0 := ⟨_, rfl⟩
      rw [← hd] at e0
      have hsd : (inv s).getLsbD i = !d := by
        rw [inv_bit _ _ hlt, hd, hV, Nat.testBit_shiftRight, BitVec.getLsbD]; rfl
      have e1 := more_code b d
      have hT := tog_set (inv s) l i
      rw [← hb, hsd] at hT
      obtain ⟨b', hb'⟩ : ∃ b', b' = (b ^^ !d) := ⟨_, rfl⟩
      rw [← hb'] at e1 hT
      have h3 := hset b'
      rw [hT] at h3
      have hbl : b.toNat ≤ 1 := by cases b <;> simp
      have hdl : d.toNat ≤ 1 := by cases d <;> simp
      have ewb : IntKind.u8.wrap (b'.toNat : Int) = (b'.toNat : Int) := IntWalk.u8_in _ (by cases b' <;> simp)
      have H3 := Lib.hid h3
      have HV := Lib.hid hV
      have Hd := Lib.hid hd
      clear h3 hset hT hia hb hb' hM hV hd hsd
      go_wp2_with fail
      refine ⟨⟨i + 1, by omega, by simp, ?_, H3.out⟩, by simp [intOf]; omega⟩
      have h1 := Nat.shiftRight_le s.toNat (i + 1)
      have h2 := s.isLt
      rw [HV.out, shr_succ]
      generalize s.toNat >>> (i + 1) = q at h1
      rw [Int.emod_eq_of_lt (by omega) (by omega)]
    · obtain rfl : i = 32 := by omega
      have eg : decide ((32 : Int) < 32) = false := by decide
      rw [Hl.out, tog_all] at hM
      have hD := divide_any (.slice A n c) (headed (inv s) (bitsOf bs)) wr hM.src (by
        have : (headed (inv s) (bitsOf bs)).length = 8 * bs.length + 32 := by simp [headed, bits32_length, bitsOf_length]; omega
        omega)
      rw [headed_run] at hD
      have HD := Lib.hid hD; clear hD
      have HM := Lib.hid hM; clear hM
      go_wp2_with fail
      refine HD.out.mono ?_
      rintro e w5 ⟨rfl, f5⟩
      have F5 := Lib.hid f5; clear f5 HD
      go_wp2_with fail
      refine (number3_any _ true _).mono ?_
      rintro e w6 ⟨rfl, f6⟩
      have F6 := Lib.hid f6; clear f6
      rw [if_pos rfl]
      go_wp2_with fail
      go_ret
      exact ⟨rfl, (HM.out.fr.trans F5.out (by simp)).trans F6.out (by simp)⟩
end Go.Proofs.Ytdpkhhmmoiianaa
