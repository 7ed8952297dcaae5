/-
  The law QuantBack answers true whatever its input, and leaves its arguments as they were; no condition.
-/
import Derived.Test.YtendcmdpmohacaaAll1
import Derived.Test.YtendcmdpmohacaaAll2
import Derived.Test.YtendcmdpmohacaaAll3
import Derived.Test.YtendcmdpmohacaaAll4
import Derived.Test.YtendcmdpmohacaaAll5
/-
  What the law QuantBack goes through: the blocks that were put, in a row of its own; their bits, there and back.
-/
namespace Go.Proofs.Ytendcmdpmohacaa
open Go.RowKit

theorem sameC_refl (B : Chs) : sameC B B = true := by simp [sameC]
theorem info_ints : (Try.prog.info? 29).map (fun i => (i.zero, i.size, i.bytes)) = some (some (.slice none 0 0), 1, 24) := by kernel_rfl
theorem rowV_one (l : List RowI) : ∀ u ∈ l.map rowV, u.oneCell' = true := by
  intro u hu
  obtain ⟨b, _, rfl⟩ := List.mem_map.1 hu
  rfl
/-- append of one row onto rows of the call's own. -/
theorem wp_append_row {w : World} {ops : Array Oper} {rest : List Oper} {o : Oper} {a : Act} {Q : Exit → Act → World → Prop} (s x : Operand) (v : Value) (l : List RowI) (r : RowI) (src : Value)
    (hgd : o.guard = none) (ho : o.op = .call { callee := .builtin .append, args := #[s, x], argTypes := #[34, 34] })
    (hv : a.eval s = v) (hsv : a.eval x = src) (hown : Own w 29 v (l.map rowV)) (hs : Src w src ([r].map rowV)) (hlen : l.length ≤ 1000000)
    (h : ∀ A c w', Own w' 29 (.slice A (l.length + 1) c) ((l ++ [r]).map rowV) → Own1 v (.slice A (l.length + 1) c) w w' → wpList Try.prog ops Q rest (a.put o.dst (.slice A (l.length + 1) c)) w') : wpList Try.prog ops Q (o :: rest) a w := by
  obtain ⟨i, hi, hz, h1, h2⟩ := info_parts info_ints
  refine wpList_append_mine s x 34 29 i _ 24 hgd ho Try.underlying34 hi hz h1 h2 rfl v _ src _ hv hsv hown hs (rowV_one [r]) ?_ ?_ ?_
  · simp only [List.length_map, maxLen, List.length_cons, List.length_nil]; omega
  · simp only [List.length_map, List.length_cons, List.length_nil]; omega
  · intro v' w' k1 k2
    rw [← List.map_append] at k1
    obtain ⟨A, c, rfl⟩ : ∃ A c, v' = .slice A (l.length + 1) c := by
      rcases k1.form with ⟨rfl, h0⟩ | ⟨g, cap, cur, rfl, -⟩
      · have := congrArg List.length h0
        simp at this
      · exact ⟨some ⟨g, 0, none⟩, cap, by simp⟩
    exact h A c w' k1 k2

/-! What blocks one behind the other make of the chances and of the code; their bits. -/
def seqB8 (t : Int) : Chs → List RowI → Chs
  | B, [] => B
  | B, a :: l => seqB8 t (bkBlk a.2.2 t B) l
def seqE8 (t : Int) : Chs → Enc → List RowI → Enc
  | _, e, [] => e
  | B, e, a :: l => seqE8 t (bkBlk a.2.2 t B) (enBlk a.2.2 t B e) l
def bitsBlk (xs : List Int) (t : Int) (B : Chs) : List (Nat × Bool) := if okPut xs t then evsT B (putsT t.toNat (sortL xs)) else []
def seqT8 (t : Int) : Chs → List RowI → List (Nat × Bool)
  | _, [] => []
  | B, a :: l => bitsBlk a.2.2 t B ++ seqT8 t (bkBlk a.2.2 t B) l
theorem seqB8_snoc (t : Int) : ∀ (l : List RowI) (a : RowI) (B : Chs), seqB8 t B (l ++ [a]) = bkBlk a.2.2 t (seqB8 t B l)
  | [], _, _ => rfl
  | x :: l, a, B => seqB8_snoc t l a (bkBlk x.2.2 t B)
theorem seqE8_snoc (t : Int) : ∀ (l : List RowI) (a : RowI) (B : Chs) (e : Enc), seqE8 t B e (l ++ [a]) = enBlk a.2.2 t (seqB8 t B l) (seqE8 t B e l)
  | [], _, _, _ => rfl
  | x :: l, a, B, e => seqE8_snoc t l a (bkBlk x.2.2 t B) (enBlk x.2.2 t B e)
theorem enBlk_puts (xs : List Int) (t : Int) (B : Chs) (e : Enc) : enBlk xs t B e = puts e (bitsBlk xs t B) := by
  unfold enBlk bitsBlk
  split <;> rfl
theorem seqE8_puts (t : Int) : ∀ (l : List RowI) (B : Chs) (e : Enc), seqE8 t B e l = puts e (seqT8 t B l)
  | [], _, _ => rfl
  | a :: l, B, e => by
    show seqE8 t (bkBlk a.2.2 t B) (enBlk a.2.2 t B e) l = puts e (bitsBlk a.2.2 t B ++ seqT8 t (bkBlk a.2.2 t B) l)
    rw [puts_append, seqE8_puts t l, enBlk_puts]
theorem bitsBlk_right (xs : List Int) (t : Int) {B : Chs} (h : FineB B) : Rights (bitsBlk xs t B) := by
  unfold bitsBlk
  split
  · exact evsT_rights _ h
  · exact fun x hx => by cases hx
theorem seqT8_right (t : Int) : ∀ (l : List RowI) {B : Chs}, FineB B → Rights (seqT8 t B l)
  | [], _, _ => fun x hx => by cases hx
  | a :: l, B, h => fun x hx => by
    rcases List.mem_append.1 hx with hx | hx
    · exact bitsBlk_right a.2.2 t h x hx
    · exact seqT8_right t l (bkBlk_fine h) x hx
theorem seqE8_n (t : Int) : ∀ (l : List RowI) (B : Chs) (e : Enc), (seqE8 t B e l).n ≤ e.n + 2730 * l.length
  | [], _, e => by show e.n ≤ _; omega
  | a :: l, B, e => by
    have h1 := seqE8_n t l (bkBlk a.2.2 t B) (enBlk a.2.2 t B e)
    have h2 := enBlk_n a.2.2 t B e
    show (seqE8 t (bkBlk a.2.2 t B) (enBlk a.2.2 t B e) l).n ≤ _
    simp only [List.length_cons]
    omega
/-- A block is got. -/
theorem Ahd.got8 {bs : List UInt8} {d : Dec} {xs : List Int} {t : Int} {B : Chs} {L : List (Nat × Bool)} (hok : okPut xs t = true) (h : Ahd [] bs d (bitsBlk xs t B ++ L)) :
    ∃ d', gotBlk bs t xs.length B d = .ok xs (bkBlk xs t B) d' ∧ Ahd [] bs d' L := by
  have hok' := hok
  unfold okPut at hok'
  simp only [Bool.and_eq_true, decide_eq_true_eq] at hok'
  obtain ⟨hlen, -, hwi⟩ := right_parts hok'.1
  have honce : Once (orderL (sideN xs.length)) xs.length := by
    rcases once_of xs.length with ⟨-, h1, h2⟩ | h1
    · omega
    · exact h1
  obtain ⟨s1, -, s3, -⟩ := sorts honce
  unfold bitsBlk at h
  rw [if_pos hok] at h
  obtain ⟨d', hg, ha⟩ := Ahd.blk (n := xs.length) s1 (by omega) (once_sort hwi) B d h
  refine ⟨d', ?_, ha⟩
  have hget : okGet t (xs.length : Int) = true := by
    unfold okGet
    simp only [Bool.and_eq_true, Bool.or_eq_true, decide_eq_true_eq]
    omega
  unfold gotBlk bkBlk
  rw [if_pos hget, if_pos hok, Int.toNat_natCast, hg, s3]

/-- The blocks that were put, the book and the encoder. -/
structure Bk8 {X : EncSpec} {Y : DecSpec} (Z : QuantSpec X Y) (w0 w : World) (t : Int) (b p : Nat) (D : List Nat) (v : Value) (l : List RowI) : Prop where
  q : Quill8 Z w0 w b (seqB8 t newBook l) p D (seqE8 t newBook encNew l)
  dn : Own w 29 v (l.map rowV)
  new : ∀ k, v.ownBlock = some k → w0.heap.size ≤ k
  sep : ∀ k, v.ownBlock = some k → k ∉ b :: p :: D
  good : ∀ a ∈ l, RowOk w0 a ∧ okPut a.2.2 t = true
section
variable {X : EncSpec} {Y : DecSpec} {Z : QuantSpec X Y} {w0 w w' : World} {t : Int} {b p : Nat} {D : List Nat} {v : Value} {l : List RowI} {a : RowI} {r : Ending}
theorem Bk8.fr0 (h : Bk8 Z w0 w t b p D v l) (hf : Fr [] w w') : Bk8 Z w0 w' t b p D v l := ⟨h.q.fr0 hf, h.dn.fr hf (by simp), h.new, h.sep, h.good⟩
theorem Bk8.len (h : Bk8 Z w0 w t b p D v l) : ∃ A c, v = .slice A l.length c := by
  rcases h.dn.form with ⟨rfl, h0⟩ | ⟨g, cap, cur, rfl, _⟩
  · exact ⟨none, 0, by rw [show l.length = 0 by simpa using congrArg List.length h0]⟩
  · exact ⟨_, _, by rw [List.length_map]⟩
/-- Behind: the first book, a second one with the decoder, the blocks' row. -/
structure Ret8 (Z : QuantSpec X Y) (w0 w : World) (b : Nat) (Bf : Chs) (c : Nat) (B : Chs) (y : Nat) (K : List Nat) (bs : List UInt8) (d : Dec) (A : Option Addr) (cp : Nat) (l : List RowI) : Prop where
  lens : Lens8 Z w0 w c B y K bs d
  bk : Z.Bo w b Bf
  nb : b ≠ c ∧ b ≠ y
  cells : Src w (.slice A l.length cp) (l.map rowV)
  apart : ∀ ad, A = some ad → ad.block ≠ c ∧ ad.block ≠ y
theorem Ret8.fr0 {b c y cp : Nat} {Bf B : Chs} {K : List Nat} {bs : List UInt8} {d : Dec} {A : Option Addr} (h : Ret8 Z w0 w b Bf c B y K bs d A cp l) (hf : Fr [] w w') : Ret8 Z w0 w' b Bf c B y K bs d A cp l :=
  ⟨h.lens.fr0 hf, Z.fr h.bk hf (by simp), h.nb, h.cells.fr0 hf, h.apart⟩
theorem Ret8.got {b c y cp : Nat} {Bf B B' : Chs} {K : List Nat} {bs : List UInt8} {d d' : Dec} {A : Option Addr} (h : Ret8 Z w0 w b Bf c B y K bs d A cp l) (hL : Lens8 Z w0 w' c B' y K bs d') (hf : Fr [c, y] w w') : Ret8 Z w0 w' b Bf c B' y K bs d' A cp l :=
  ⟨hL, Z.fr h.bk hf (by simp; exact h.nb), h.nb, h.cells.fr hf (fun k hk => by
    obtain ⟨ad, had, rfl⟩ : ∃ ad, A = some ad ∧ ad.block = k := by
      cases A with
      | none => cases hk
      | some ad => injection hk with hk; exact ⟨ad, rfl, hk⟩
    simp
    exact h.apart ad had), h.apart⟩
/-- Where the second book and the decoder are, behind the first j blocks. -/
def Beh8 (t : Int) (bs : List UInt8) (d : Dec) (B : Chs) (l : List RowI) (j : Nat) : Prop := B = seqB8 t newBook (l.take j) ∧ Ahd [] bs d (seqT8 t B (l.drop j))
theorem beh8_step {bs : List UInt8} {d : Dec} {B : Chs} {j : Nat} (ha : l[j]? = some a) (hg : okPut a.2.2 t = true) (h : Beh8 t bs d B l j) : ∃ d', gotBlk bs t a.2.2.length B d = .ok a.2.2 (bkBlk a.2.2 t B) d' ∧ Beh8 t bs d' (bkBlk a.2.2 t B) l (j + 1) := by
  obtain ⟨h1, h2⟩ := h
  have hlt := (List.getElem?_eq_some_iff.1 ha).1
  have hd : l.drop j = a :: l.drop (j + 1) := by
    rw [List.drop_eq_getElem_cons hlt]
    congr 1
    exact (List.getElem?_eq_some_iff.1 ha).2
  rw [hd] at h2
  obtain ⟨d', k1, k2⟩ := Ahd.got8 hg h2
  refine ⟨d', k1, ?_, k2⟩
  rw [List.take_add_one, ha, Option.toList_some, seqB8_snoc, ← h1]
theorem beh8_end {bs : List UInt8} {d : Dec} {B : Chs} {j : Nat} (hj : l.length ≤ j) (h : Beh8 t bs d B l j) : B = seqB8 t newBook l ∧ d.i = bs.length ∧ d.rest = 0 := by
  obtain ⟨h1, h2⟩ := h
  rw [List.take_of_length_le hj] at h1
  rw [List.drop_of_length_le hj] at h2
  exact ⟨h1, h2.done⟩
end
end Go.Proofs.Ytendcmdpmohacaa

/-
  The law QuantBack, out of the contracts: true whatever its input.
-/
namespace Go.Proofs.Ytendcmdpmohacaa
open Go.RowKit

set_option maxRecDepth 100000 in
set_option maxHeartbeats 8000000 in
theorem back8_law {X : EncSpec} {Y : DecSpec} (Z : QuantSpec X Y) (A : Option Addr) (len cap : Nat) (L : List RowI) (t : Int) (w : World) (hA : NumRows w A len cap L) (ht : InI t) :
    Calls Try.prog 7 #[.slice A len cap, .int .i64 t] w fun e w' => e = .returned (.bool true) ∧ Fr [] w w' := by
  have hm : len ≤ 9223372036854775807 := hA.most
  have HA := Lib.hid hA; clear hA
  have HT := Lib.hid ht; clear ht
  go_enter Try.func7, Try.ntmps7
  go_wp2_with fail
  refine (Z.new w).mono ?_
  rintro e w1 ⟨b, rfl, hb, hF1, nb⟩
  have HB := Lib.hid hb; have HF1 := Lib.hid hF1; have NB := Lib.hid nb
  clear hb hF1 nb
  go_wp2_with fail
  refine (new_live (X := X) w1 HF1.out).mono ?_
  rintro e w2 ⟨p, D, rfl, hL, hF2, np⟩
  have hK : Bk8 Z w w2 t b p D (.slice none 0 0) [] := by
    refine ⟨⟨Z.fr HB.out hF2 (by simp), hL, NB.out, fun hm => by have := np b hm; have := Z.lt HB.out; omega, newBook_fine⟩, Own.nil _ _, by simp [Value.ownBlock], by simp [Value.ownBlock], by simp⟩
  have HK := Lib.hid hK
  clear hK hL hF2 np HB HF1 NB
  go_wp2_with fail
  go_loopw [7, 8] (fun s7 s8 wr => ∃ (i : Nat) (D : List Nat) (l : List RowI), i ≤ len ∧ i ≤ 10 ∧ l.length ≤ i ∧ s8 = .int .i64 (i : Int) ∧ Bk8 Z w wr t b p D s7 l) (fun _ s8 _ => 10 - (intOf s8).toNat)
  case atStart => exact ⟨0, D, [], by omega, by omega, by simp, rfl, HK.out⟩
  case round =>
    obtain ⟨i, D, l, hi1, hi2, hli, rfl, hK⟩ := hrel
    have HKr := Lib.hid hK; clear hK HK
    by_cases hlt2 : i < len ∧ i < 10
    · obtain ⟨hl1, hl2⟩ := hlt2
      have eg1 : decide (i < len) = true := by simpa using hl1
      have eg2 : decide ((i : Int) < 10) = true := by simp; omega
      obtain ⟨x, hx⟩ : ∃ x, L[i]? = some x := ⟨_, List.getElem?_eq_getElem (by have := HA.out.count; omega)⟩
      obtain ⟨ad, rfl, -, hrow⟩ := HA.out.at_ hx
      have hcells : ∀ W, Fr [] w W → W.cell? (ad.add i) = some (.slice x.1 x.2.2.length x.2.1) := by
        intro W hF
        obtain ⟨ad', r1, r2, -⟩ := (HA.out.fr0 hF).at_ hx
        have r1 := Option.some.inj r1
        subst r1
        exact r2
      obtain ⟨B, hB⟩ : ∃ B, B = seqB8 t newBook l := ⟨_, rfl⟩
      obtain ⟨e, he⟩ : ∃ e, e = seqE8 t newBook encNew l := ⟨_, rfl⟩
      have hen : e.n ≤ 30000 := by
        have h1 := seqE8_n t l newBook encNew
        rw [← he] at h1
        have : encNew.n = 4 := rfl
        omega
      have hq : Quill8 Z w wr b B p D e := by rw [hB, he]; exact HKr.out.q
      have HQ := Lib.hid hq
      have Hcells := Lib.hid hcells
      have HBe := Lib.hid (And.intro hB he)
      have HC := Lib.hid (Z.copy wr b B hq.bk)
      have Hrow := Lib.hid hrow
      clear hcells hx hrow hB he hq
      go_wp2_with fail
      refine HC.out.mono ?_
      rintro r1 w3 ⟨c, rfl, hc, hF3, nc⟩
      have hcl := HQ.out.lt
      have hcs : c ∉ b :: p :: D := fun hm => by have := hcl c hm; omega
      have hq3 := HQ.out.fr0 hF3
      have c0 := Hcells.out _ hq3.li.fr
      have HQ3 := Lib.hid hq3; have HC3 := Lib.hid hc; have Hcs := Lib.hid hcs; have HF3 := Lib.hid hF3
      have HK3 := Lib.hid (HKr.out.fr0 hF3)
      clear hc hF3 nc hcl hcs hq3 HC HQ
      by_cases h100 : x.2.2.length ≤ 100
      · have hput := HQ3.out.row Hrow.out t h100 HT.out (by omega)
        have HP := Lib.hid hput
        clear hput
        obtain ⟨Bx, cx, xs⟩ := x
        simp only at HP c0 Hcells h100
        obtain ⟨n, hnn⟩ : ∃ n, n = xs.length := ⟨_, rfl⟩
        rw [← hnn] at HP c0 Hcells h100
        have eg3 : decide (100 < (n : Int)) = false := by simp; omega
        have Hnn := Lib.hid hnn
        clear hnn
        go_wp2_with fail
        refine HP.out.mono ?_
        rintro r1 w5 ⟨rfl, D', hq5, hf5, hd5⟩
        have d0 := Hcells.out _ hq5.li.fr
        cases hok : okPut xs t
        · have e1 : errBlk xs t = 1 := by unfold errBlk; rw [hok]; rfl
          have e2 : bkBlk xs t B = B := by unfold bkBlk; rw [hok]; rfl
          have e3 : enBlk xs t B e = e := by unfold enBlk; rw [hok]; rfl
          rw [e2, e3] at hq5
          rw [e1]
          have hk5 : Bk8 Z w w5 t b p D' u7 l := by
            refine ⟨by rw [← HBe.out.1, ← HBe.out.2]; exact hq5, HK3.out.dn.fr hf5 HK3.out.sep, HK3.out.new, fun z hz hm => ?_, HK3.out.good⟩
            rcases List.mem_cons.1 hm with rfl | hm
            · exact HK3.out.sep _ hz (List.mem_cons_self ..)
            · rcases List.mem_cons.1 hm with rfl | hm
              · exact HK3.out.sep _ hz (List.mem_cons_of_mem _ (List.mem_cons_self ..))
              · rcases hd5 z hm with h1 | h1
                · exact HK3.out.sep _ hz (List.mem_cons_of_mem _ (List.mem_cons_of_mem _ h1))
                · have := HK3.out.dn.lt z hz
                  omega
          have hc5 := Z.fr HC3.out hf5 Hcs.out
          have hsm := Z.same w5 c B b B hc5 hq5.bk
          rw [sameC_refl] at hsm
          have HSm := Lib.hid hsm; have HK5 := Lib.hid hk5
          clear hsm hk5 hc5 hq5 hf5 hd5 e1 e2 e3 hok c0 d0 HP
          go_wp2_with fail
          refine HSm.out.mono ?_
          rintro r1 w6 ⟨rfl, hF6⟩
          have HK6 := Lib.hid (HK5.out.fr0 hF6)
          clear hF6 HK5 HSm
          go_wp2_with fail
          exact ⟨⟨i + 1, D', l, by omega, by omega, by omega, by simp, HK6.out⟩, by simp [intOf]; omega⟩
        · have e1 : errBlk xs t = 0 := by unfold errBlk; rw [hok]; rfl
          rw [e1]
          have hsep : ∀ k, u7.ownBlock = some k → k ∉ b :: p :: D' := by
            intro z hz hm
            rcases List.mem_cons.1 hm with rfl | hm
            · exact HK3.out.sep _ hz (List.mem_cons_self ..)
            · rcases List.mem_cons.1 hm with rfl | hm
              · exact HK3.out.sep _ hz (List.mem_cons_of_mem _ (List.mem_cons_self ..))
              · rcases hd5 z hm with h1 | h1
                · exact HK3.out.sep _ hz (List.mem_cons_of_mem _ (List.mem_cons_of_mem _ h1))
                · have := HK3.out.dn.lt z hz
                  omega
          have hdn := HK3.out.dn.fr hf5 HK3.out.sep
          have HQ5 := Lib.hid hq5; have Hdn := Lib.hid hdn; have Hsep := Lib.hid hsep; have Hok := Lib.hid hok
          have hal : Fr [] w5 (w5.alloc (.cells #[.slice Bx n cx] 29)) := (Fr.refl _ _).alloc _
          have Hal := Lib.hid hal
          clear hq5 hf5 hd5 hdn hsep e1 c0 HP hal hok
          go_wp2_with (at_builtin; refine wp_append_row _ _ u7 l (Bx, cx, xs) (.slice (some ⟨w5.heap.size, 0, none⟩) 1 1) rfl rfl rfl rfl (Hdn.out.alloc _) ?_ (by omega) ?_)
          · have : [(Bx, cx, xs)].map rowV = [.slice Bx n cx] := by rw [Hnn.out]; rfl
            rw [this]
            exact Src.one (by simp [go_sem])
          intro Ad cd w6 hO hG
          have hBk : Bk8 Z w w6 t b p D' (.slice Ad (l.length + 1) cd) (l ++ [(Bx, cx, xs)]) := by
            have hq6 := HQ5.out.fr0 Hal.out
            have hlt := hq6.lt
            refine ⟨?_, by rw [List.map_append]; exact hO, fun z hz => ?_, fun z hz hm => ?_, fun y hy => ?_⟩
            · rw [seqB8_snoc, seqE8_snoc, ← HBe.out.1, ← HBe.out.2]
              refine hq6.frS hG.1 (fun z hz hm => ?_) (fun z hz => ?_)
              · exact Hsep.out z (by simpa using hm) hz
              · exact HK3.out.new z (by simpa using hz)
            · rcases hG.2 with h1 | ⟨g, h1, h2⟩
              · exact HK3.out.new z (h1 ▸ hz)
              · rw [h1] at hz
                injection hz with hz
                have := hq6.li.fr.size
                omega
            · rcases hG.2 with h1 | ⟨g, h1, h2⟩
              · exact Hsep.out z (h1 ▸ hz) hm
              · rw [h1] at hz
                injection hz with hz
                have := hlt _ hm
                omega
            · rcases List.mem_append.1 hy with hy | hy
              · exact HK3.out.good y hy
              · simp at hy
                subst hy
                exact ⟨Hrow.out, Hok.out⟩
          have HBk := Lib.hid hBk
          clear hO hG hBk d0
          go_wp2_with fail
          exact ⟨⟨i + 1, D', l ++ [(Bx, cx, xs)], by omega, by omega, by simp; omega, by simp, HBk.out⟩, by simp [intOf]; omega⟩
      · obtain ⟨Bx, cx, xs⟩ := x
        simp only at c0 Hcells h100
        obtain ⟨n, hnn⟩ : ∃ n, n = xs.length := ⟨_, rfl⟩
        rw [← hnn] at c0 Hcells h100
        have eg3 : decide (100 < (n : Int)) = true := by simp; omega
        clear hnn
        go_wp2_with fail
        exact ⟨⟨i + 1, D, l, by omega, by omega, by omega, by simp, HK3.out⟩, by simp [intOf]; omega⟩
    · have hex : (decide (i < len) = false) ∨ (decide (i < len) = true ∧ decide ((i : Int) < 10) = false) := by
        by_cases h1 : i < len
        · exact .inr ⟨by simpa using h1, by simp; omega⟩
        · exact .inl (by simpa using h1)
      obtain ⟨A0, c0, hu7⟩ := HKr.out.len
      obtain ⟨Bf, hBf⟩ : ∃ Bf, Bf = seqB8 t newBook l := ⟨_, rfl⟩
      obtain ⟨f, hf⟩ : ∃ f, f = seqE8 t newBook encNew l := ⟨_, rfl⟩
      have hrg := seqT8_right t l newBook_fine
      have hfp := hf
      rw [seqE8_puts] at hfp
      have hn4 : 4 ≤ f.n := by rw [hfp]; exact (puts_within encNew_ok hrg).1
      have hn5 : f.n ≤ 30000 := by
        have h1 := seqE8_n t l newBook encNew
        rw [← hf] at h1
        have : encNew.n = 4 := rfl
        omega
      have hq : Quill8 Z w wr b Bf p D f := by rw [hBf, hf]; exact HKr.out.q
      have hdc : Src wr (.slice A0 l.length c0) (l.map rowV) := by have := HKr.out.dn.src; rw [hu7] at this; exact this
      have hAlt : ∀ ad, A0 = some ad → ad.block < wr.heap.size := fun ad had => HKr.out.dn.lt ad.block (by rw [hu7, had]; rfl)
      obtain ⟨bs, hbs⟩ : ∃ bs, bs = bytesOf f.n f.v := ⟨_, rfl⟩
      have hbl : bs.length = f.n := by rw [hbs]; simp
      have hah : Ahd [] bs (decOpen bs) (seqT8 t newBook l) := by
        have := ahd_open hrg []
        rw [← hfp, List.append_nil, ← hbs] at this
        exact this
      have HBy := Lib.hid fun W (hW : Live X w W p D f) => (show Calls Try.prog 26 #[pt p] W fun r W' => ∃ A c, r = .returned (.slice A bs.length c) ∧ Src W' (.slice A bs.length c) (bs.map B8) ∧ Live X w W' p D f ∧ Fr [] W W' ∧ ∀ ad, A = some ad → ad.block ∈ D ∨ W.heap.size ≤ ad.block by
        have h := bytes_live8 W p D f hW (by omega)
        rw [← hbs, ← hbl] at h
        exact h)
      have HQ := Lib.hid hq; have HDc := Lib.hid hdc; have HAlt := Lib.hid hAlt; have Hah := Lib.hid hah; have HBf := Lib.hid hBf; have Hgd := Lib.hid HKr.out.good
      have hb4 : 4 ≤ bs.length := by omega
      have hb5 : bs.length ≤ 30000 := by omega
      have hll : l.length ≤ 10 := by omega
      clear hBf hf hrg hfp hn4 hn5 hq hdc hAlt hbs hbl hah hlt2 hi1 hi2
      obtain ⟨bn, hbn⟩ : ∃ bn, bn = bs.length := ⟨_, rfl⟩
      rw [← hbn] at HBy
      have Hbn := Lib.hid hbn
      clear hbn
      rcases hex with eg1 | ⟨eg1, eg2⟩
      case' inl => go_upto_region 15 with fail
      case' inr => go_upto_region 15 with fail
      all_goals
        go_wp2_with fail
        refine (Z.new wr).mono ?_
        rintro e w3 ⟨c, rfl, hc, hF3, nc⟩
        have hlq := HQ.out.lt
        have hcs : c ∉ b :: p :: D := fun hm => by have := hlq c hm; omega
        have hAc : ∀ ad, A0 = some ad → ad.block ≠ c ∧ ad.block < w3.heap.size := fun ad had => by
          have := HAlt.out ad had
          have := hF3.size
          omega
        have HQ3 := Lib.hid (HQ.out.fr0 hF3); have HC3 := Lib.hid hc; have Hcs := Lib.hid hcs; have HDc3 := Lib.hid (HDc.out.fr0 hF3); have HAc := Lib.hid hAc
        have Hnc := Lib.hid (Nat.le_trans HQ.out.li.fr.size nc)
        clear hc hF3 nc hlq hcs hAc HQ HDc HAlt HKr
        go_wp2_with fail
        refine (HBy.out _ HQ3.out.li).mono ?_
        rintro e w4 ⟨A4, c4, rfl, hS4, -, hF4, hA4⟩
        have hO := Y.opens w4 A4 c4 bs (by rw [← Hbn.out]; exact hS4) hb4 (by omega)
        rw [← Hbn.out] at hO
        have hlc := Z.lt HC3.out
        have hac : ∀ ad, A4 = some ad → ad.block ≠ c := fun ad had e => by
          rcases hA4 ad had with h | h
          · exact Hcs.out (by rw [← e]; exact List.mem_cons_of_mem _ (List.mem_cons_of_mem _ h))
          · omega
        have HO := Lib.hid hO; have HQ4 := Lib.hid (HQ3.out.fr0 hF4); have HC4 := Lib.hid (Z.fr HC3.out hF4 (by simp)); have HDc4 := Lib.hid (HDc3.out.fr0 hF4); have Hac := Lib.hid hac
        have HAc4 := Lib.hid (fun ad had => And.intro (HAc.out ad had).1 (Nat.lt_of_lt_of_le (HAc.out ad had).2 hF4.size) : ∀ ad, A0 = some ad → ad.block ≠ c ∧ ad.block < w4.heap.size)
        clear hS4 hF4 hA4 hO hlc hac HBy HQ3 HC3 HDc3 HAc
        go_wp2_with fail
        refine HO.out.mono ?_
        rintro e w5 ⟨y, K, rfl, hY, hF5, hy, hyK, hK⟩
        have hRt : Ret8 Z w w5 b Bf c newBook y K bs (decOpen bs) A0 c0 l := by
          have l1 := Z.lt HC4.out
          have l2 := HQ4.out.lt b (List.mem_cons_self ..)
          have l3 := HQ4.out.li.fr.size
          refine ⟨⟨Z.fr HC4.out hF5 (by simp), hY, HQ4.out.li.fr.trans hF5 (by simp), Hnc.out, by omega, fun hm => ?_, ⟨newBook_fine, (show (16777216 : Nat) ≤ 4294967295 by omega), (show (4294967295 : Nat) ≤ 4294967295 by omega), hb4, ?_⟩, by omega⟩, Z.fr HQ4.out.bk hF5 (by simp), ⟨fun e => Hcs.out (by rw [e]; exact List.mem_cons_self ..), by omega⟩, HDc4.out.fr0 hF5, fun ad had => ⟨(HAc4.out ad had).1, by have := (HAc4.out ad had).2; omega⟩⟩
          · rcases List.mem_cons.1 hm with rfl | hm
            · omega
            · rcases hK c hm with h | ⟨ad, had, h⟩
              · omega
              · exact Hac.out ad had h
          · have h1 := valueOf_lt (bs.take 4)
            have h2 : (bs.take 4).length ≤ 4 := by simp; omega
            have h3 : 256 ^ (bs.take 4).length ≤ 256 ^ 4 := Nat.pow_le_pow_right (by omega) h2
            show valueOf (bs.take 4) < _
            omega
        have HRt := Lib.hid hRt
        clear hRt hY hF5 hy hyK hK HO HQ4 HC4 HDc4 Hac HAc4 Hcs Hnc
        subst hu7
        go_wp2_with fail
        go_loopw [13] (fun s13 wr => ∃ (j : Nat) (B : Chs) (d : Dec), j ≤ l.length ∧ s13 = .int .i64 (j : Int) ∧ Ret8 Z w wr b Bf c B y K bs d A0 c0 l ∧ Beh8 t bs d B l j) (fun s13 _ => l.length - (intOf s13).toNat)
        case atStart => exact ⟨0, newBook, decOpen bs, by omega, rfl, HRt.out, rfl, Hah.out⟩
        case round =>
          obtain ⟨j, B, d, hj, rfl, hRt, hBh⟩ := hrel
          have HRr := Lib.hid hRt; have HBh := Lib.hid hBh
          clear hRt hBh HRt
          by_cases hjl : j < l.length
          · have eg3 : decide (j < l.length) = true := by simpa using hjl
            obtain ⟨x, hx⟩ : ∃ x, l[j]? = some x := ⟨_, List.getElem?_eq_getElem hjl⟩
            obtain ⟨hro, hok⟩ := Hgd.out x (List.mem_of_getElem? hx)
            obtain ⟨d', hg, hB'⟩ := beh8_step hx hok HBh.out
            obtain ⟨ad, rfl, k0⟩ := HRr.out.cells.cellAt hx
            have hlen : x.2.2.length = 16 ∨ x.2.2.length = 64 := by
              unfold okPut at hok
              simp only [Bool.and_eq_true] at hok
              exact (right_parts hok.1).1
            have hP := HRr.out.lens.get t (x.2.2.length : Int) HT.out ⟨by omega, by omega⟩
            rw [hg] at hP
            unfold LensPost8 at hP
            simp only at hP
            have HP := Lib.hid hP; have HB' := Lib.hid hB'; have Hx := Lib.hid hx; have Hro := Lib.hid hro
            unfold rowV at k0
            clear hP hB' hx hg hok hro
            obtain ⟨Bx, cx, xs⟩ := x
            simp only at HP k0 hlen HB'
            obtain ⟨n, hnn⟩ : ∃ n, n = xs.length := ⟨_, rfl⟩
            rw [← hnn] at HP k0 hlen
            have Hnn := Lib.hid hnn
            clear hnn
            go_wp2_with fail
            refine HP.out.mono ?_
            rintro r1 w7 ⟨⟨A7, c7, rfl, hs7, -⟩, hL7, hF7⟩
            have hR7 := HRr.out.got hL7 hF7
            obtain ⟨ad', r7, f0⟩ := hR7.cells.cellAt Hx.out
            have r7 := Option.some.inj r7
            subst r7
            unfold rowV at f0
            simp only at f0
            rw [← Hnn.out] at f0
            have hs8 := (Hro.out.fr0 hL7.fr).src
            unfold rowV at hs8
            simp only at hs8
            have hsm := rsame7_any A7 c7 xs Bx cx xs w7 (by rw [← Hnn.out]; exact hs7) hs8 (by rw [← Hnn.out]; omega) (by rw [← Hnn.out]; omega)
            rw [show decide (xs = xs) = true by simp, ← Hnn.out] at hsm
            have HR7 := Lib.hid hR7; have HSm := Lib.hid hsm
            clear hL7 hF7 hR7 hs7 hs8 hsm k0 HP
            go_wp2_with fail
            refine HSm.out.mono ?_
            rintro r1 w8 ⟨rfl, hF8⟩
            have HR8 := Lib.hid (HR7.out.fr0 hF8)
            clear hF8 HR7 HSm f0
            go_wp2_with fail
            exact ⟨⟨j + 1, _, d', by omega, by simp, HR8.out, HB'.out⟩, by simp [intOf]; omega⟩
          · have eg3 : decide (j < l.length) = false := by simpa using hjl
            obtain ⟨hBe, hdi, hdr⟩ := beh8_end (by omega) HBh.out
            rw [← HBf.out] at hBe
            have HBe := Lib.hid hBe; have Hdi := Lib.hid (And.intro hdi hdr)
            clear hBe hdi hdr hjl hj
            go_wp2_with fail
            refine (alive8_any Z _).mono ?_
            rintro e w8 ⟨rfl, hF8⟩
            have hR8 := HRr.out.fr0 hF8
            have hE := Y.ends w8 y K bs d hR8.lens.de
            rw [if_pos Hdi.out] at hE
            have HR8 := Lib.hid hR8; have HE := Lib.hid hE
            clear hF8 hR8 hE HRr
            go_wp2_with fail
            refine HE.out.mono ?_
            rintro e w9 ⟨rfl, mm, hm9⟩
            have hF9 : Fr [] w8 w9 := by rw [hm9]; exact (Fr.refl _ _).drewN mm
            have HR9 := Lib.hid (HR8.out.fr0 hF9)
            clear hm9 hF9 HR8 HE
            go_wp2_with fail
            refine (Z.same w9 c B b Bf HR9.out.lens.bk HR9.out.bk).mono ?_
            rintro e w10 ⟨rfl, hF10⟩
            rw [← HBe.out, sameC_refl]
            have HF10 := Lib.hid (HR9.out.lens.fr.trans hF10 (by simp))
            clear hF10 HR9
            go_wp2_with fail
            go_ret
            exact ⟨rfl, HF10.out⟩
end Go.Proofs.Ytendcmdpmohacaa

/-
  The statement QuantBack out of the contracts.
-/
namespace Go.Proofs.Ytendcmdpmohacaa
open Go.ChangeShapes Go.WideShapes Go.ChangeAt Go.RowKit

set_option maxRecDepth 100000 in
theorem back8_lifted {X : EncSpec} {Y : DecSpec} (Z : QuantSpec X Y) (os : Os) (started : os.Started) (H : Type) (enc : TypeId × Value → H) :
    ReturnsInHanded {} Try.checked os 7 .any (Rows.quantBackSpec.pre6 enc Try.prog Try.f7 Rows.quantBackRow.domain false) (Rows.quantBackSpec.post enc Try.prog Try.f7 false true false false) := by
  refine law_lift (C := Try.checked) own_knob started (by kernel_rfl) Try.func7
    (ChangeSpec.witness6 (enc := enc) (C := Try.checked) false ⟨#[], #[.slice none 0 0, .int .i64 0], []⟩ 8 (by kernel_rfl) (by kernel_rfl) (by kernel_rfl) (by kernel_rfl))
    laid_out rfl rfl Try.underlying4 (of_decide_eq_true (by kernel_rfl)) ?_
  intro W base args ds before hval0 hA0 hlt
  have hval : ∀ (j : Nat) t v, Try.f7.params[j]? = some t → args[j]? = some v → Value.okWide Try.prog W .any base t v := hval0
  have hA : DataW.TrodAll enc Try.prog W 0 (fun _ => true) true Try.f7.params.toList args.toList ds before := hA0
  rw [Try.params7] at hA hval
  obtain ⟨v0, v1, d0, d1, p0, p1, rfl, rfl, -, ⟨fuel0, h0⟩, h1⟩ := trodAll_two hA
  obtain ⟨A0, l0, c0, rfl⟩ := okWide_slice Try.underlying34 (hval 0 _ _ rfl rfl)
  obtain ⟨S0, n0, k0, L0, e0, hr0⟩ := open_rows (v := .slice A0 l0 c0) h0
  rw [e0]
  obtain ⟨z1, rfl, -, -, wz1⟩ := open_int Try.underlying3 (hval 1 _ _ rfl rfl) h1
  simp [Lit.wf, IntKind.min, IntKind.max, IntKind.signed, IntKind.bits] at wz1
  have j1 : InI z1 := by unfold InI; omega
  exact ⟨rfl, (back8_law Z S0 n0 k0 L0 z1 W hr0 j1).mono fun e W' ⟨he, hf⟩ => ⟨he, hf.below (by simp) (Nat.le_refl _)⟩⟩

theorem back8_holds_of {X : EncSpec} {Y : DecSpec} (Z : QuantSpec X Y) : Rows.QuantBackSaid :=
  OpenClaim.holds_of_wide 7 Try.f7 rfl rfl rfl rfl rfl rfl rfl ⟨rfl, rfl, rfl, rfl, rfl⟩ rfl rfl rfl rfl rfl (by kernel_rfl) Try.func7 (by kernel_rfl)
    (of_decide_eq_true (by kernel_rfl)) (by unfold Func.isWrapper; first | (rw [if_pos (by decide +kernel)]; kernel_rfl) | (rw [if_neg (by decide +kernel)]; exact ⟨rfl, rfl⟩))
    (fun os started H enc _ => back8_lifted Z os started H enc)
end Go.Proofs.Ytendcmdpmohacaa

/-
  The law QuantBack answers true whatever its input, and leaves its arguments as they were; no condition.
-/
namespace Go.Proofs.Ytendcmdpmohacaa
open Go.RowKit

theorem back8_holds : Rows.QuantBackSaid := back8_holds_of quantI
#print axioms back8_holds
end Go.Proofs.Ytendcmdpmohacaa
