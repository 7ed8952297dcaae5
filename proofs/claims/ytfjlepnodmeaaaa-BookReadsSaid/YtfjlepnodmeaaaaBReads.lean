/-
  The law BookReads answers true whatever its input, out of the contracts; no condition.
-/
import Derived.Test.YtfjlepnodmeaaaaBookAlive
import Derived.Test.YtfjlepnodmeaaaaBookArg
namespace Go.Proofs.Ytfjlepnodmeaaaa
open Go.RowKit

theorem reads5_long {X : EncSpec} {Y : DecSpec} (Z : BookSpec X Y) (Ab : Option Addr) (n cb : Nat) (A : Option Addr) (len cap : Nat) (w : World) (h : 300 < n) (hn : n ≤ 9223372036854775807) :
    Calls Try.prog 4 #[.slice Ab n cb, .slice A len cap] w fun e w' => e = .returned (.bool true) ∧ Fr [] w w' := by
  have e1 : decide ((300 : Int) < (n : Int)) = true := by simp; omega
  go_enter Try.func4, Try.ntmps4
  go_wp2_with fail
  refine (alive5_any Z _).mono ?_
  rintro e w3 ⟨rfl, hF3⟩
  go_wp2_with fail
  go_ret
  exact ⟨rfl, hF3⟩

theorem reads5_short {X : EncSpec} {Y : DecSpec} (Z : BookSpec X Y) (Ab : Option Addr) (n cb : Nat) (A : Option Addr) (len cap : Nat) (w : World) (h : n < 4) :
    Calls Try.prog 4 #[.slice Ab n cb, .slice A len cap] w fun e w' => e = .returned (.bool true) ∧ Fr [] w w' := by
  have e1 : decide ((300 : Int) < (n : Int)) = false := by simp; omega
  have e2 : decide ((n : Int) < 4) = true := by simp; omega
  go_enter Try.func4, Try.ntmps4
  go_wp2_with fail
  refine (Y.short w Ab n cb h).mono ?_
  rintro e w2 ⟨rfl, hF2⟩
  go_wp2_with fail
  refine (ropen_short Ab n cb _ h).mono ?_
  rintro e w4 ⟨rfl, rfl⟩
  go_wp2_with fail
  refine (alive5_any Z _).mono ?_
  rintro e w3 ⟨rfl, hF3⟩
  go_wp2_with fail
  go_ret
  exact ⟨rfl, hF2.trans hF3 (by simp)⟩

/-- The two books and decoders of bs, at the same place, apart. -/
structure Twin {X : EncSpec} {Y : DecSpec} (Z : BookSpec X Y) (w0 w : World) (b : Nat) (B : Chs) (y : Nat) (K : List Nat) (q p : Nat) (A : Option Addr) (cc : Nat) (bs : List UInt8) (d : Dec) : Prop where
  a : Lens Z w0 w b B y K bs d
  r : Eye w q B p A cc bs d
  sq : q ∉ b :: y :: K
  sp : p ∉ b :: y :: K
  nq : w0.heap.size ≤ q
  np : w0.heap.size ≤ p
  src : ∀ ad, A = some ad → ad.block ≠ b ∧ ad.block ≠ y
section
variable {X : EncSpec} {Y : DecSpec} {Z : BookSpec X Y} {w0 w w' : World} {b : Nat} {B B' : Chs} {y : Nat} {K : List Nat} {q p cc : Nat} {A : Option Addr} {bs : List UInt8} {d d' : Dec}
theorem Twin.fr0 (h : Twin Z w0 w b B y K q p A cc bs d) (hf : Fr [] w w') : Twin Z w0 w' b B y K q p A cc bs d :=
  ⟨h.a.fr0 hf, h.r.fr0 hf, h.sq, h.sp, h.nq, h.np, h.src⟩
theorem Twin.eye (h : Twin Z w0 w b B y K q p A cc bs d) (hf : Fr [b, y] w w') : Eye w' q B p A cc bs d := by
  have h1 : ∀ z, z ∉ b :: y :: K → z ∉ [b, y] := by
    intro z hz hm
    simp at hm hz
    rcases hm with rfl | rfl
    · exact hz.1 rfl
    · exact hz.2.1 rfl
  refine ⟨h.r.bk.fr hf (h1 q h.sq), h.r.de.fr hf (h1 p h.sp) (fun ad had hm => ?_), h.r.qp, h.r.qa, h.r.fine, h.r.lo, h.r.hi, h.r.at_⟩
  simp at hm
  rcases hm with hm | hm
  · exact (h.src ad had).1 hm
  · exact (h.src ad had).2 hm
theorem Lens.frS {S : List Nat} (h : Lens Z w0 w b B y K bs d) (hf : Fr S w w') (h1 : ∀ k ∈ b :: y :: K, k ∉ S) (h2 : ∀ x ∈ S, w0.heap.size ≤ x) : Lens Z w0 w' b B y K bs d :=
  ⟨Z.fr h.bk hf (h1 b (List.mem_cons_self ..)), Y.fr h.de hf (fun k hk => h1 k (List.mem_cons_of_mem _ hk)), h.fr.trans hf (fun x hx => .inr (h2 x hx)), h.nb, h.ny, h.sep, h.ok, h.len⟩
theorem Twin.both (h : Twin Z w0 w b B y K q p A cc bs d) {w2 : World} (hL : Lens Z w0 w' b B' y K bs d') (hE : Eye w2 q B' p A cc bs d') (hf : Fr [q, p] w' w2) : Twin Z w0 w2 b B' y K q p A cc bs d' := by
  refine ⟨hL.frS hf (fun k hk hm => ?_) (fun x hx => ?_), hE, h.sq, h.sp, h.nq, h.np, h.src⟩
  · simp at hm
    rcases hm with rfl | rfl
    · exact h.sq hk
    · exact h.sp hk
  · simp at hx
    rcases hx with rfl | rfl
    · exact h.nq
    · exact h.np
end

set_option maxRecDepth 100000 in
set_option maxHeartbeats 8000000 in
theorem reads5_law {X : EncSpec} {Y : DecSpec} (Z : BookSpec X Y) (Ab : Option Addr) (n cb : Nat) (bs : List UInt8) (A : Option Addr) (len cap : Nat) (acts : List Act5) (w : World)
    (hb : Src w (.slice Ab n cb) (bs.map B8)) (hn : bs.length = n) (h4 : 4 ≤ n) (h300 : n ≤ 300) (hA : Acts5 w A len acts) (hm : len ≤ 9223372036854775807) :
    Calls Try.prog 4 #[.slice Ab n cb, .slice A len cap] w fun e w' => e = .returned (.bool true) ∧ Fr [] w w' := by
  have HA := Lib.hid hA
  have HS := Lib.hid hb
  have Hn := Lib.hid hn
  have e1 : decide ((300 : Int) < (n : Int)) = false := by simp; omega
  have hO := Y.opens w Ab cb bs (by rw [hn]; exact hb) (by omega) (by omega)
  rw [hn] at hO
  have HO := Lib.hid hO
  have hRO : ∀ W, Fr [] w W → Calls Try.prog 19 #[.slice Ab n cb] W fun e w' => ∃ p, e = .returned (.tuple #[pt p, .int .i64 0]) ∧ Rd w' p Ab cb bs (decOpen bs) ∧ Fr [] W w' ∧ W.heap.size ≤ p := fun W hF => by
    have := ropen_any Ab cb bs W (by rw [hn]; exact hb.fr0 hF) (by omega) (by omega)
    rw [hn] at this
    exact this
  have HRO := Lib.hid hRO
  have hAb : ∀ ad, Ab = some ad → ad.block < w.heap.size := by
    intro ad had
    obtain ⟨a1, r1, c1⟩ := hb.cellAt (k := 0) (List.getElem?_eq_getElem (show 0 < bs.length by omega))
    rw [had] at r1
    injection r1 with r1
    subst r1
    have := World.block_lt_of_cell? w _ c1
    rwa [addr_block] at this
  have HAb := Lib.hid hAb
  clear hA hb hn hO hAb hRO
  go_enter Try.func4, Try.ntmps4
  go_wp2_with fail
  refine HO.out.mono ?_
  rintro e w1 ⟨y, K, rfl, hY, hF1, hy, hyK, hK⟩
  have hlK := Y.lt hY
  have HY := Lib.hid hY; have HF1 := Lib.hid hF1; have Hy := Lib.hid hy
  clear hY hF1 hy hyK hK HO hlK
  go_wp2_with fail
  refine (HRO.out _ HF1.out).mono ?_
  rintro e w2 ⟨p, rfl, hR, hF2, hp⟩
  have hpK : p ∉ y :: K := fun hm => by have := Y.lt HY.out p hm; omega
  have HY2 := Lib.hid (Y.fr HY.out hF2 (by simp)); have HR := Lib.hid hR; have HF2 := Lib.hid (HF1.out.trans hF2 (by simp)); have Hp := Lib.hid (And.intro (Nat.le_trans HF1.out.size hp) hpK)
  clear hR hF2 hp hpK HY HF1 HRO
  go_wp2_with fail
  refine (Z.new w2).mono ?_
  rintro e w3 ⟨b, rfl, hb, hF3, nb⟩
  have hbY : b ∉ y :: K := fun hm => by have := Y.lt HY2.out b hm; omega
  have hpb : p ≠ b := by have := HR.out.1.lt; omega
  have hpl := HR.out.1.lt
  have hL : Lens Z w w3 b newBook y K bs (decOpen bs) := by
    refine ⟨hb, Y.fr HY2.out hF3 (by simp), HF2.out.trans hF3 (by simp), by have := HF2.out.size; omega, Hy.out, hbY, ⟨newBook_fine, (show (16777216 : Nat) ≤ 4294967295 by omega), (show (4294967295 : Nat) ≤ 4294967295 by omega), by have := Hn.out; show 4 ≤ _; omega, ?_⟩, by have := Hn.out; omega⟩
    have h1 := valueOf_lt (bs.take 4)
    have h2 : (bs.take 4).length ≤ 4 := by simp; omega
    have h3 : 256 ^ (bs.take 4).length ≤ 256 ^ 4 := Nat.pow_le_pow_right (by omega) h2
    show valueOf (bs.take 4) < _
    omega
  have hR3 := HR.out.fr0 hF3
  have hps : p ∉ b :: y :: K := by
    intro hm
    rcases List.mem_cons.1 hm with hm | hm
    · exact hpb hm
    · exact Hp.out.2 hm
  have hsr : ∀ ad, Ab = some ad → ad.block ≠ b ∧ ad.block ≠ y := by
    intro ad had
    have := HAb.out ad had
    have := Hy.out
    have := HF2.out.size
    omega
  have HL := Lib.hid hL; have HR3 := Lib.hid hR3; have Hps := Lib.hid hps; have Hsr := Lib.hid hsr; have Hnp := Lib.hid Hp.out.1
  clear hb hF3 nb hbY hpb hpl hL hR3 hps hsr HY2 HR HF2 Hp
  go_wp2_with fail
  refine (rnewB_any w3).mono ?_
  rintro e w4 ⟨q, rfl, hq, hF4, nq⟩
  have hT : Twin Z w w4 b newBook y K q p Ab cb bs (decOpen bs) := by
    have l1 := Z.lt HL.out.bk
    have l2 := Y.lt HL.out.de
    have l3 := HR3.out.1.lt
    have l4 := HL.out.fr.size
    refine ⟨HL.out.fr0 hF4, ⟨hq, HR3.out.fr0 hF4, by omega, fun ad had => by have := HAb.out ad had; omega, newBook_fine, (show (16777216 : Nat) ≤ 4294967295 by omega), (show (4294967295 : Nat) ≤ 4294967295 by omega), HL.out.ok.at_⟩, fun hm => ?_, Hps.out, by omega, Hnp.out, Hsr.out⟩
    rcases List.mem_cons.1 hm with hm | hm
    · omega
    · have := l2 q hm; omega
  have HT := Lib.hid hT
  clear hT hq hF4 nq HL HR3 Hps Hsr Hnp HAb Hy
  go_wp2_with fail
  go_loopw [11] (fun s11 wr => ∃ (i : Nat) (B : Chs) (d : Dec), i ≤ len ∧ i ≤ 100 ∧ s11 = .int .i64 (i : Int) ∧ Twin Z w wr b B y K q p Ab cb bs d) (fun s11 _ => 100 - (intOf s11).toNat)
  case atStart => exact ⟨0, newBook, decOpen bs, by omega, by omega, rfl, HT.out⟩
  case round =>
    obtain ⟨i, B, d, hi1, hi2, rfl, hT⟩ := hrel
    have HTr := Lib.hid hT
    clear hT
    by_cases hlt2 : i < len ∧ i < 100
    · obtain ⟨hl1, hl2⟩ := hlt2
      have eg1 : decide (i < len) = true := by simpa using hl1
      have eg2 : decide ((i : Int) < 100) = true := by simp; omega
      obtain ⟨a, ha⟩ : ∃ x, acts[i]? = some x := ⟨_, List.getElem?_eq_getElem (by have := HA.out.1; omega)⟩
      have hcell : ∀ W, Fr [] w W → InA a ∧ ∃ g o, A = some ⟨g, o, none⟩ ∧ ActAt W g (o + i * 4) a := fun W hF => (HA.out.fr hF).2 i a ha
      obtain ⟨hia, g, o, rfl, -⟩ := hcell wr HTr.out.a.fr
      have hcells : ∀ W, Fr [] w W → ActAt W g (o + i * 4) a := by
        intro W hF
        obtain ⟨-, g', o', r1, h1⟩ := hcell W hF
        have r2 := Option.some.inj r1
        injection r2 with r3 r4
        subst r3 r4
        exact h1
      have HP := Lib.hid (HTr.out.a.get hia)
      have HR : Hid (∀ W, Fr [b, y] wr W → Calls Try.prog 21 #[vAct a, pt q, pt p] W (EyePost q p Ab cb bs W (gotOf bs a B d))) := Lib.hid fun W hW => (HTr.out.eye hW).get HTr.out.a.ok HTr.out.a.len
      have Hcells := Lib.hid hcells
      obtain ⟨G, hG⟩ : ∃ G, G = gotOf bs a B d := ⟨_, rfl⟩
      rw [← hG] at HP HR
      have hGk := gotOf_keeps (a := a) HTr.out.a.ok
      rw [← hG] at hGk
      have hGk2 : (∃ v B' d', G = .ok v B' d') ∨ G = .bad 1 ∨ G = .bad 41 ∨ G = .bad 51 := by
        cases G with
        | bad er =>
          rcases hGk with ⟨h, -⟩ | h
          · exact .inr (.inl h)
          · rcases h with h | h
            · exact .inr (.inr (.inl (by rw [h])))
            · exact .inr (.inr (.inr (by rw [h])))
        | ok v B' d' => exact .inl ⟨_, _, _, rfl⟩
      clear hGk
      clear hcell hcells ha hia hG
      obtain ⟨k, t, nn, x⟩ := a
      unfold vAct at HP HR
      simp only at HP HR
      obtain ⟨c0, c1, c2, c3⟩ := Hcells.out _ HTr.out.a.fr
      simp only at c0 c1 c2 c3
      rcases hGk2 with ⟨v, B', d', rfl⟩ | rfl | rfl | rfl
      case' inl =>
        unfold LensPost at HP
        unfold EyePost at HR
        simp only at HP HR
        go_wp2_with fail
        refine HP.out.mono ?_
        rintro r1 w5 ⟨rfl, hL5, hF5⟩
        obtain ⟨d0, d1, d2, d3⟩ := Hcells.out _ hL5.fr
        simp only at d0 d1 d2 d3
        have HL5 := Lib.hid hL5; have HF5 := Lib.hid hF5
        clear hL5 hF5 c0 c1 c2 c3
        go_wp2_with fail
        refine (HR.out _ HF5.out).mono ?_
        rintro r1 w6 ⟨rfl, hE6, hF6⟩
        have hT6 := HTr.out.both HL5.out hE6 hF6
        have HT6 := Lib.hid hT6
        clear hE6 hF6 hT6 d0 d1 d2 d3 HP HR HL5 HF5
        have ev : (v != v) = false := by simp
        go_wp2_with fail
        exact ⟨⟨i + 1, B', d', by omega, by omega, by simp, HT6.out⟩, by simp [intOf]; omega⟩
      all_goals
        unfold LensPost at HP
        unfold EyePost at HR
        simp only at HP HR
        go_wp2_with fail
        refine HP.out.mono ?_
        rintro r1 w5 ⟨rfl, hF5, h5⟩
        have hf05 : Fr [] w w5 := HTr.out.a.fr.trans hF5 (fun z hz => .inr (by
          simp at hz
          rcases hz with rfl | rfl
          · exact HTr.out.a.nb
          · exact HTr.out.a.ny))
        obtain ⟨d0, d1, d2, d3⟩ := Hcells.out _ hf05
        simp only at d0 d1 d2 d3
        have HF5 := Lib.hid hF5; have H5 := Lib.hid h5; have HF05 := Lib.hid hf05
        clear hF5 h5 hf05 c0 c1 c2 c3
        go_wp2_with fail
        refine (HR.out _ HF5.out).mono ?_
        rintro r1 w6 ⟨rfl, hF6, h6⟩
        have hf06 : Fr [] w w6 := HF05.out.trans hF6 (fun z hz => .inr (by
          simp at hz
          rcases hz with rfl | rfl
          · exact HTr.out.nq
          · exact HTr.out.np))
        have HF06 := Lib.hid hf06; have H6 := Lib.hid h6
        clear hF6 h6 hf06 d0 d1 d2 d3 HP HR
        go_wp2_with fail
      · exact ⟨⟨i + 1, B, d, by omega, by omega, by simp, (HTr.out.fr0 (H5.out trivial)).fr0 (H6.out trivial)⟩, by simp [intOf]; omega⟩
      all_goals
        refine (alive5_any Z _).mono ?_
        rintro e w3 ⟨rfl, hF3⟩
        have HF3 := Lib.hid (HF06.out.trans hF3 (by simp))
        clear hF3
        go_wp2_with fail
        go_ret
        exact ⟨rfl, HF3.out⟩
    · have hex : (decide (i < len) = false) ∨ (decide (i < len) = true ∧ decide ((i : Int) < 100) = false) := by
        by_cases h1 : i < len
        · exact .inr ⟨by simpa using h1, by simp; omega⟩
        · exact .inl (by simpa using h1)
      rcases hex with eg1 | ⟨eg1, eg2⟩
      all_goals
        clear hlt2
        go_wp2_with fail
        refine (alive5_any Z _).mono ?_
        rintro e w3 ⟨rfl, hF3⟩
        have HF3 := Lib.hid (HTr.out.a.fr.trans hF3 (by simp))
        clear hF3
        go_wp2_with fail
        go_ret
        exact ⟨rfl, HF3.out⟩
end Go.Proofs.Ytfjlepnodmeaaaa
