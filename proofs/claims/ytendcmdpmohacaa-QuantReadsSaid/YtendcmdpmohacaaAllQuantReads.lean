/-
  The law QuantReads answers true whatever its input, and leaves its arguments as they were; no condition.
-/
import Derived.Test.YtendcmdpmohacaaAll1
import Derived.Test.YtendcmdpmohacaaAll2
import Derived.Test.YtendcmdpmohacaaAll3
import Derived.Test.YtendcmdpmohacaaAll4
import Derived.Test.YtendcmdpmohacaaAll5
/-
  The law QuantReads, out of the contracts: true whatever its input.
-/
namespace Go.Proofs.Ytendcmdpmohacaa
open Go.RowKit

theorem reads8_long {X : EncSpec} {Y : DecSpec} (Z : QuantSpec X Y) (Ab : Option Addr) (n cb : Nat) (t : Int) (u : Value) (w : World) (h : 400 < n) (hn : n ≤ 9223372036854775807) :
    Calls Try.prog 6 #[.slice Ab n cb, .int .i64 t, u] w fun e w' => e = .returned (.bool true) ∧ Fr [] w w' := by
  have e1 : decide ((400 : Int) < (n : Int)) = true := by simp; omega
  go_enter Try.func6, Try.ntmps6
  go_wp2_with fail
  refine (alive8_any Z _).mono ?_
  rintro e w3 ⟨rfl, hF3⟩
  go_wp2_with fail
  go_ret
  exact ⟨rfl, hF3⟩

theorem reads8_short {X : EncSpec} {Y : DecSpec} (Z : QuantSpec X Y) (Ab : Option Addr) (n cb : Nat) (t : Int) (u : Value) (w : World) (h : n < 4) :
    Calls Try.prog 6 #[.slice Ab n cb, .int .i64 t, u] w fun e w' => e = .returned (.bool true) ∧ Fr [] w w' := by
  have e1 : decide ((400 : Int) < (n : Int)) = false := by simp; omega
  have e2 : decide ((n : Int) < 4) = true := by simp; omega
  go_enter Try.func6, Try.ntmps6
  go_wp2_with fail
  refine (Y.short w Ab n cb h).mono ?_
  rintro e w2 ⟨rfl, hF2⟩
  go_wp2_with fail
  refine (ropen_short Ab n cb _ h).mono ?_
  rintro e w4 ⟨rfl, rfl⟩
  go_wp2_with fail
  refine (alive8_any Z _).mono ?_
  rintro e w3 ⟨rfl, hF3⟩
  go_wp2_with fail
  go_ret
  exact ⟨rfl, hF2.trans hF3 (by simp)⟩

theorem src_nil {w w' : World} {A : Option Addr} {c : Nat} (h : Src w (.slice A 0 c) []) : Src w' (.slice A 0 c) [] := by
  rcases h with h | ⟨ad, c', h1, h2, -⟩
  · exact .inl h
  · exact .inr ⟨ad, c', h1, h2, fun j u hu => by simp at hu⟩

/-! Errors of getting a block are none that says that all is well; blocks got are not long. -/
theorem getVals_err {bs : List UInt8} {t : Nat} : ∀ (k : Nat) (acc : List Int) (B : Chs) (d : Dec) {e : Int}, getVals bs t k acc B d = .bad e → e ≠ 0
  | 0, acc, B, d, e, h => by unfold getVals at h; cases h
  | k + 1, acc, B, d, e, h => by
    unfold getVals at h
    cases hg : getSgn bs t B d with
    | bad e' =>
      rw [hg] at h
      injection h with h
      rcases getSgn_bad hg with h1 | h1 <;> omega
    | ok v B1 d1 =>
      rw [hg] at h
      exact getVals_err k _ _ _ h
theorem gotBlk_err {bs : List UInt8} {t n : Int} {B : Chs} {d : Dec} {e : Int} (h : gotBlk bs t n B d = .bad e) : e ≠ 0 := by
  unfold gotBlk at h
  split at h
  · unfold getBlk behindL at h
    cases hg : getNum bs t.toNat B d with
    | bad e' =>
      rw [hg] at h
      injection h with h
      rcases getNum_bad hg with h1 | h1 <;> omega
    | ok v B1 d1 =>
      rw [hg] at h
      simp only at h
      split at h
      · injection h with h
        omega
      · cases hv : getVals bs (t.toNat + 1) v.toNat [] B1 d1 with
        | bad e' =>
          rw [hv] at h
          unfold endL at h
          injection h with h
          have := getVals_err _ _ _ _ hv
          omega
        | ok l B2 d2 =>
          rw [hv] at h
          unfold endL at h
          simp only at h
          split at h
          · injection h with h
            omega
          · cases h
  · injection h with h
    omega
theorem unsort_len (b : List Int) : (unsortL b).length ≤ 64 := by
  unfold unsortL
  rw [List.length_map, List.length_range]
  by_cases h1 : b.length = 16
  · rw [h1]; decide
  · by_cases h2 : b.length = 64
    · rw [h2]; decide +kernel
    · have : sideN b.length = 0 := by unfold sideN; rw [if_neg h1, if_neg h2]
      rw [this]
      decide
theorem endL_ok {n k : Nat} {g : GotL} {l : List Int} {B : Chs} {d : Dec} (h : endL n k g = .ok l B d) : l.length ≤ 64 := by
  unfold endL at h
  split at h
  · cases h
  · split at h
    · cases h
    · injection h with h1 h2 h3
      rw [← h1]
      exact unsort_len _
theorem gotBlk_len {bs : List UInt8} {t n : Int} {B B' : Chs} {d d' : Dec} {l : List Int} (h : gotBlk bs t n B d = .ok l B' d') : l.length ≤ 64 := by
  unfold gotBlk getBlk behindL at h
  split at h
  · split at h
    · cases h
    · split at h
      · cases h
      · exact endL_ok h
  · cases h

/-! The document's. -/
theorem Eye.blk {w : World} {q p cc : Nat} {B : Chs} {A : Option Addr} {bs : List UInt8} {d : Dec} (h : Eye w q B p A cc bs d) (hn : bs.length ≤ 100000) (hA : ∀ ad, A = some ad → ad.block < w.heap.size) (t n : Int) :
    Calls Try.prog 31 #[pt q, pt p, .int .i64 t, .int .i64 n] w (GotLPost q p A cc bs w (gotBlk bs t n B d)) := by
  unfold gotBlk
  cases hok : okGet t n
  · refine (rget8_bad t n (pt q) (pt p) w hok).mono ?_
    rintro r w' ⟨rfl, rfl⟩
    exact ⟨rfl, Fr.refl _ _⟩
  · unfold okGet at hok
    simp only [Bool.and_eq_true, Bool.or_eq_true, decide_eq_true_eq] at hok
    obtain ⟨h1, h2, h3⟩ := hok
    have := rget8_ok w q p t.toNat n.toNat cc A bs d B h hn hA (by omega) (by omega)
    rw [show (t.toNat : Int) = t by omega, show (n.toNat : Int) = n by omega] at this
    rw [if_pos rfl]
    exact this

/-- The two books and decoders of bs, at the same place, apart. -/
structure Twin8 {X : EncSpec} {Y : DecSpec} (Z : QuantSpec X Y) (w0 w : World) (b : Nat) (B : Chs) (y : Nat) (K : List Nat) (q p : Nat) (A : Option Addr) (cc : Nat) (bs : List UInt8) (d : Dec) : Prop where
  a : Lens8 Z w0 w b B y K bs d
  r : Eye w q B p A cc bs d
  sq : q ∉ b :: y :: K
  sp : p ∉ b :: y :: K
  nq : w0.heap.size ≤ q
  np : w0.heap.size ≤ p
  src : ∀ ad, A = some ad → ad.block ≠ b ∧ ad.block ≠ y ∧ ad.block < w0.heap.size
section
variable {X : EncSpec} {Y : DecSpec} {Z : QuantSpec X Y} {w0 w w' : World} {b : Nat} {B B' : Chs} {y : Nat} {K : List Nat} {q p cc : Nat} {A : Option Addr} {bs : List UInt8} {d d' : Dec}
theorem Twin8.fr0 (h : Twin8 Z w0 w b B y K q p A cc bs d) (hf : Fr [] w w') : Twin8 Z w0 w' b B y K q p A cc bs d :=
  ⟨h.a.fr0 hf, h.r.fr0 hf, h.sq, h.sp, h.nq, h.np, h.src⟩
theorem Twin8.eye (h : Twin8 Z w0 w b B y K q p A cc bs d) (hf : Fr [b, y] w w') : Eye w' q B p A cc bs d := by
  have h1 : ∀ z, z ∉ b :: y :: K → z ∉ [b, y] := by
    intro z hz hm
    simp at hm hz
    rcases hm with rfl | rfl
    · exact hz.1 rfl
    · exact hz.2.1 rfl
  refine h.r.fr hf (h1 q h.sq) (h1 p h.sp) (fun ad had hm => ?_)
  simp at hm
  rcases hm with hm | hm
  · exact (h.src ad had).1 hm
  · exact (h.src ad had).2.1 hm
theorem Lens8.frS {S : List Nat} (h : Lens8 Z w0 w b B y K bs d) (hf : Fr S w w') (h1 : ∀ k ∈ b :: y :: K, k ∉ S) (h2 : ∀ x ∈ S, w0.heap.size ≤ x) : Lens8 Z w0 w' b B y K bs d :=
  ⟨Z.fr h.bk hf (h1 b (List.mem_cons_self ..)), Y.fr h.de hf (fun k hk => h1 k (List.mem_cons_of_mem _ hk)), h.fr.trans hf (fun x hx => .inr (h2 x hx)), h.nb, h.ny, h.sep, h.ok, h.len⟩
theorem Twin8.both (h : Twin8 Z w0 w b B y K q p A cc bs d) {w2 : World} (hL : Lens8 Z w0 w' b B' y K bs d') (hE : Eye w2 q B' p A cc bs d') (hf : Fr [q, p] w' w2) : Twin8 Z w0 w2 b B' y K q p A cc bs d' := by
  refine ⟨hL.frS hf (fun k hk hm => ?_) (fun x hx => ?_), hE, h.sq, h.sp, h.nq, h.np, h.src⟩
  · simp at hm
    rcases hm with rfl | rfl
    · exact h.sq hk
    · exact h.sp hk
  · simp at hx
    rcases hx with rfl | rfl
    · exact h.nq
    · exact h.np
end

set_option maxRecDepth 100000 in
set_option maxHeartbeats 8000000 in
theorem reads8_law {X : EncSpec} {Y : DecSpec} (Z : QuantSpec X Y) (Ab : Option Addr) (n cb : Nat) (bs : List UInt8) (t : Int) (A : Option Addr) (c : Nat) (ns : List Int) (w : World)
    (hb : Src w (.slice Ab n cb) (bs.map B8)) (hn : bs.length = n) (h4 : 4 ≤ n) (h400 : n ≤ 400) (ht : InI t) (hs : Src w (.slice A ns.length c) (ns.map I64)) (hj : Js ns) (hm : ns.length ≤ 9223372036854775807) :
    Calls Try.prog 6 #[.slice Ab n cb, .int .i64 t, .slice A ns.length c] w fun e w' => e = .returned (.bool true) ∧ Fr [] w w' := by
  have HNs := Lib.hid hs; have HJ := Lib.hid hj; have HT := Lib.hid ht
  have HS := Lib.hid hb
  have Hn := Lib.hid hn
  have e1 : decide ((400 : Int) < (n : Int)) = false := by simp; omega
  have hO := Y.opens w Ab cb bs (by rw [hn]; exact hb) (by omega) (by omega)
  rw [hn] at hO
  have HO := Lib.hid hO
  have hRO : ∀ W, Fr [] w W → Calls Try.prog 29 #[.slice Ab n cb] W fun e w' => ∃ p, e = .returned (.tuple #[pt p, .int .i64 0]) ∧ Rd w' p Ab cb bs (decOpen bs) ∧ Fr [] W w' ∧ W.heap.size ≤ p := fun W hF => by
    have := ropen_any Ab cb bs W (by rw [hn]; exact hb.fr0 hF) (by omega) (by omega)
    rw [hn] at this
    exact this
  have HRO := Lib.hid hRO
  have hAb : ∀ ad, Ab = some ad → ad.block < w.heap.size := by
    intro ad had
    obtain ⟨a1, r1, c1⟩ := hb.cellAt (k := 0) (List.getElem?_eq_getElem (show 0 < bs.length by omega))
    rw [had] at r1
    injection r1 with r1
    subst r1
    have := World.block_lt_of_cell? w _ c1
    rwa [addr_block] at this
  have HAb := Lib.hid hAb
  obtain ⟨len, hlen⟩ : ∃ len, len = ns.length := ⟨_, rfl⟩
  have Hlen := Lib.hid hlen
  rw [← hlen] at hm ⊢
  clear hs hj ht hb hn hO hAb hRO hlen
  go_enter Try.func6, Try.ntmps6
  go_wp2_with fail
  refine HO.out.mono ?_
  rintro e w1 ⟨y, K, rfl, hY, hF1, hy, hyK, hK⟩
  have hlK := Y.lt hY
  have HY := Lib.hid hY; have HF1 := Lib.hid hF1; have Hy := Lib.hid hy
  clear hY hF1 hy hyK hK HO hlK
  go_wp2_with fail
  refine (HRO.out _ HF1.out).mono ?_
  rintro e w2 ⟨p, rfl, hR, hF2, hp⟩
  have hpK : p ∉ y :: K := fun hm => by have := Y.lt HY.out p hm; omega
  have HY2 := Lib.hid (Y.fr HY.out hF2 (by simp)); have HR := Lib.hid hR; have HF2 := Lib.hid (HF1.out.trans hF2 (by simp)); have Hp := Lib.hid (And.intro (Nat.le_trans HF1.out.size hp) hpK)
  clear hR hF2 hp hpK HY HF1 HRO
  go_wp2_with fail
  refine (Z.new w2).mono ?_
  rintro e w3 ⟨b, rfl, hb, hF3, nb⟩
  have hbY : b ∉ y :: K := fun hm => by have := Y.lt HY2.out b hm; omega
  have hpb : p ≠ b := by have := HR.out.1.lt; omega
  have hpl := HR.out.1.lt
  have hL : Lens8 Z w w3 b newBook y K bs (decOpen bs) := by
    refine ⟨hb, Y.fr HY2.out hF3 (by simp), HF2.out.trans hF3 (by simp), by have := HF2.out.size; omega, Hy.out, hbY, ⟨newBook_fine, (show (16777216 : Nat) ≤ 4294967295 by omega), (show (4294967295 : Nat) ≤ 4294967295 by omega), by have := Hn.out; show 4 ≤ _; omega, ?_⟩, by have := Hn.out; omega⟩
    have h1 := valueOf_lt (bs.take 4)
    have h2 : (bs.take 4).length ≤ 4 := by simp; omega
    have h3 : 256 ^ (bs.take 4).length ≤ 256 ^ 4 := Nat.pow_le_pow_right (by omega) h2
    show valueOf (bs.take 4) < _
    omega
  have hR3 := HR.out.fr0 hF3
  have hps : p ∉ b :: y :: K := by
    intro hm
    rcases List.mem_cons.1 hm with hm | hm
    · exact hpb hm
    · exact Hp.out.2 hm
  have hsr : ∀ ad, Ab = some ad → ad.block ≠ b ∧ ad.block ≠ y ∧ ad.block < w.heap.size := by
    intro ad had
    have := HAb.out ad had
    have := Hy.out
    have := HF2.out.size
    omega
  have HL := Lib.hid hL; have HR3 := Lib.hid hR3; have Hps := Lib.hid hps; have Hsr := Lib.hid hsr; have Hnp := Lib.hid Hp.out.1
  clear hb hF3 nb hbY hpb hpl hL hR3 hps hsr HY2 HR HF2 Hp
  go_wp2_with fail
  refine (rnewB_any w3).mono ?_
  rintro e w4 ⟨q, rfl, hq, hF4, nq⟩
  have hT : Twin8 Z w w4 b newBook y K q p Ab cb bs (decOpen bs) := by
    have l1 := Z.lt HL.out.bk
    have l2 := Y.lt HL.out.de
    have l3 := HR3.out.1.lt
    have l4 := HL.out.fr.size
    refine ⟨HL.out.fr0 hF4, ⟨hq, HR3.out.fr0 hF4, by omega, fun ad had => by have := HAb.out ad had; omega, newBook_fine, (show (16777216 : Nat) ≤ 4294967295 by omega), (show (4294967295 : Nat) ≤ 4294967295 by omega), HL.out.ok.at_⟩, fun hm => ?_, Hps.out, by omega, Hnp.out, Hsr.out⟩
    rcases List.mem_cons.1 hm with hm | hm
    · omega
    · have := l2 q hm; omega
  have HTw := Lib.hid hT
  clear hT hq hF4 nq HL HR3 Hps Hsr Hnp HAb Hy
  go_wp2_with fail
  go_loopw [13] (fun s13 wr => ∃ (i : Nat) (B : Chs) (d : Dec), i ≤ len ∧ i ≤ 10 ∧ s13 = .int .i64 (i : Int) ∧ Twin8 Z w wr b B y K q p Ab cb bs d) (fun s13 _ => 10 - (intOf s13).toNat)
  case atStart => exact ⟨0, newBook, decOpen bs, by omega, by omega, rfl, HTw.out⟩
  case round =>
    clear HTw
    obtain ⟨i, B, d, hi1, hi2, rfl, hT⟩ := hrel
    have HTr := Lib.hid hT
    clear hT
    by_cases hlt2 : i < len ∧ i < 10
    · obtain ⟨hl1, hl2⟩ := hlt2
      have eg1 : decide (i < len) = true := by simpa using hl1
      have eg2 : decide ((i : Int) < 10) = true := by simp; omega
      have hin : i < ns.length := by have := Hlen.out; omega
      have hcell : ∀ W, Fr [] w W → ∃ a, A = some a ∧ W.cell? (a.add i) = some (.int .i64 (numAt ns i)) := fun W hF => (HNs.out.fr0 hF).num hin
      have hjn := HJ.out i hin
      obtain ⟨a, rfl, -⟩ := hcell _ HTr.out.a.fr
      have hcells : ∀ W, Fr [] w W → W.cell? (a.add i) = some (.int .i64 (numAt ns i)) := fun W hF => by
        obtain ⟨a', r1, h⟩ := hcell W hF
        have r1 := Option.some.inj r1
        subst r1
        exact h
      obtain ⟨k, hk⟩ : ∃ k, k = numAt ns i := ⟨_, rfl⟩
      rw [← hk] at hjn hcells
      have HP := Lib.hid (HTr.out.a.get t k HT.out hjn)
      have HR := Lib.hid fun W (hW : Fr [b, y] wr W) => (HTr.out.eye hW).blk HTr.out.a.len (fun ad had => Nat.lt_of_lt_of_le (HTr.out.src ad had).2.2 (Nat.le_trans HTr.out.a.fr.size hW.size)) t k
      have Hcells := Lib.hid hcells
      obtain ⟨G, hG⟩ : ∃ G, G = gotBlk bs t k B d := ⟨_, rfl⟩
      have herr : ∀ e, G = .bad e → e ≠ 0 := fun e h => gotBlk_err (hG.symm.trans h)
      have hlen : ∀ l B' d', G = .ok l B' d' → l.length ≤ 64 := fun l B' d' h => gotBlk_len (hG.symm.trans h)
      rw [← hG] at HP HR
      have c0 := hcells _ HTr.out.a.fr
      have hnew : ∀ z ∈ [b, y], w.heap.size ≤ z := fun z hz => by
        simp at hz
        rcases hz with rfl | rfl
        · exact HTr.out.a.nb
        · exact HTr.out.a.ny
      have hnew2 : ∀ z ∈ [q, p], w.heap.size ≤ z := fun z hz => by
        simp at hz
        rcases hz with rfl | rfl
        · exact HTr.out.nq
        · exact HTr.out.np
      have Hnew := Lib.hid hnew; have Hnew2 := Lib.hid hnew2
      clear hcell hcells hjn hG hin hk hnew hnew2
      cases G with
      | ok l B' d' =>
        have hl64 := hlen _ _ _ rfl
        clear herr hlen
        unfold LensPost8 at HP
        unfold GotLPost at HR
        simp only at HP HR
        go_wp2_with fail
        refine HP.out.mono ?_
        rintro r1 w5 ⟨⟨A5, c5, rfl, hs5, hk5⟩, hL5, hF5⟩
        have d0 := Hcells.out _ hL5.fr
        have HL5 := Lib.hid hL5; have HF5 := Lib.hid hF5; have HS5 := Lib.hid hs5; have HK5 := Lib.hid hk5
        clear hL5 hF5 hs5 hk5 c0 HP
        go_wp2_with fail
        refine (HR.out _ HF5.out).mono ?_
        rintro r1 w6 ⟨⟨A6, c6, rfl, hs6⟩, hE6, hF6⟩
        have hT6 := HTr.out.both HL5.out hE6 hF6
        have hs56 : Src w6 (.slice A5 l.length c5) (l.map I64) := HS5.out.fr hF6 (fun k hk hm => by
          have h1 := HK5.out k hk
          have h2 := HTr.out.r.bk.lt
          have h3 := HTr.out.r.de.1.lt
          simp at hm
          omega)
        have hsm := rsame7_any A5 c5 l A6 c6 l w6 hs56 hs6 (by omega) (by omega)
        rw [show decide (l = l) = true by simp] at hsm
        have HSm := Lib.hid hsm; have HT6 := Lib.hid hT6
        clear hs56 hs6 hE6 hF6 hT6 hsm d0 HR HL5 HF5 HS5 HK5
        go_wp2_with fail
        refine HSm.out.mono ?_
        rintro r1 w7 ⟨rfl, hF7⟩
        have HT7 := Lib.hid (HT6.out.fr0 hF7)
        clear hF7 HT6 HSm
        go_wp2_with fail
        exact ⟨⟨i + 1, B', d', by omega, by omega, by simp, HT7.out⟩, by simp [intOf]; omega⟩
      | bad e5 =>
        have he0 := herr _ rfl
        have t1 : (e5 != e5) = false := by simp
        have t2 : (e5 != 0) = true := by simpa using he0
        clear herr hlen he0
        unfold LensPost8 at HP
        unfold GotLPost at HR
        simp only at HP HR
        go_wp2_with fail
        refine HP.out.mono ?_
        rintro r1 w5 ⟨⟨A5, c5, rfl, hs5⟩, hF5⟩
        have hf05 : Fr [] w w5 := HTr.out.a.fr.trans hF5 (fun z hz => .inr (Hnew.out z hz))
        have d0 := Hcells.out _ hf05
        have HF5 := Lib.hid hF5; have HF05 := Lib.hid hf05; have HS5 := Lib.hid hs5
        clear hF5 hf05 hs5 c0 HP
        go_wp2_with fail
        refine (HR.out _ HF5.out).mono ?_
        rintro r1 w6 ⟨rfl, hF6⟩
        have hf06 : Fr [] w w6 := HF05.out.trans hF6 (fun z hz => .inr (Hnew2.out z hz))
        have hs56 : Src w6 (.slice A5 0 c5) (([] : List Int).map I64) := src_nil HS5.out
        have hsm := rsame7_any A5 c5 [] none 0 [] w6 hs56 (.inl ⟨rfl, rfl⟩) (by simp) (by simp)
        rw [show decide (([] : List Int) = []) = true by simp, show ([] : List Int).length = 0 from rfl] at hsm
        have HSm := Lib.hid hsm; have HF06 := Lib.hid hf06
        clear hF6 hf06 hs56 hsm d0 HR HF5 HF05 HS5
        go_wp2_with fail
        refine HSm.out.mono ?_
        rintro r1 w7 ⟨rfl, hF7⟩
        have HF7 := Lib.hid (HF06.out.trans hF7 (by simp))
        clear hF7 HF06 HSm
        go_wp2_with fail
        refine (alive8_any Z _).mono ?_
        rintro e w8 ⟨rfl, hF8⟩
        have HF8 := Lib.hid (HF7.out.trans hF8 (by simp))
        clear hF8 HF7
        go_wp2_with fail
        go_ret
        exact ⟨rfl, HF8.out⟩
    · have hex : (decide (i < len) = false) ∨ (decide (i < len) = true ∧ decide ((i : Int) < 10) = false) := by
        by_cases h1 : i < len
        · exact .inr ⟨by simpa using h1, by simp; omega⟩
        · exact .inl (by simpa using h1)
      rcases hex with eg1 | ⟨eg1, eg2⟩
      all_goals
        clear hlt2
        go_wp2_with fail
        refine (alive8_any Z _).mono ?_
        rintro e w3 ⟨rfl, hF3⟩
        have HF3 := Lib.hid (HTr.out.a.fr.trans hF3 (by simp))
        clear hF3
        go_wp2_with fail
        go_ret
        exact ⟨rfl, HF3.out⟩
end Go.Proofs.Ytendcmdpmohacaa

/-
  The statement QuantReads out of the contracts.
-/
namespace Go.Proofs.Ytendcmdpmohacaa
open Go.ChangeShapes Go.WideShapes Go.ChangeAt Go.RowKit

set_option maxRecDepth 100000 in
theorem reads8_lifted {X : EncSpec} {Y : DecSpec} (Z : QuantSpec X Y) (os : Os) (started : os.Started) (H : Type) (enc : TypeId × Value → H) :
    ReturnsInHanded {} Try.checked os 6 .any (Rows.quantReadsSpec.pre6 enc Try.prog Try.f6 Rows.quantReadsRow.domain false) (Rows.quantReadsSpec.post enc Try.prog Try.f6 false true false false) := by
  refine law_lift (C := Try.checked) own_knob started (by kernel_rfl) Try.func6
    (ChangeSpec.witness6 (enc := enc) (C := Try.checked) false ⟨#[], #[.slice none 0 0, .int .i64 0, .slice none 0 0], []⟩ 8 (by kernel_rfl) (by kernel_rfl) (by kernel_rfl) (by kernel_rfl))
    laid_out rfl rfl Try.underlying4 (of_decide_eq_true (by kernel_rfl)) ?_
  intro W base args ds before hval0 hA0 hlt
  have hval : ∀ (j : Nat) t v, Try.f6.params[j]? = some t → args[j]? = some v → Value.okWide Try.prog W .any base t v := hval0
  have hA : DataW.TrodAll enc Try.prog W 0 (fun _ => true) true Try.f6.params.toList args.toList ds before := hA0
  rw [Try.params6] at hA hval
  obtain ⟨v0, v1, v2, d0, d1, d2, p0, p1, p2, rfl, rfl, -, ⟨fuel0, h0⟩, h1, ⟨fuel2, h2⟩⟩ := trodAll_three hA
  obtain ⟨A0, l0, c0, rfl⟩ := okWide_slice Try.underlying45 (hval 0 _ _ rfl rfl)
  obtain ⟨S0, n0, k0, bs0, e0, hb0, hn0, hs0⟩ := open_bytes (v := .slice A0 l0 c0) h0
  rw [e0]
  simp only [maxLen] at hn0
  obtain ⟨z1, rfl, -, -, wz1⟩ := open_int Try.underlying3 (hval 1 _ _ rfl rfl) h1
  simp [Lit.wf, IntKind.min, IntKind.max, IntKind.signed, IntKind.bits] at wz1
  have j1 : InI z1 := by unfold InI; omega
  obtain ⟨A2, l2, c2, rfl⟩ := okWide_slice Try.underlying29 (hval 2 _ _ rfl rfl)
  obtain ⟨S2, n2, k2, b2, e2, hb2, hn2, hs2, hj2⟩ := open_ints (v := .slice A2 l2 c2) h2
  rw [e2]
  simp only [maxLen] at hn2
  subst hb2
  refine ⟨rfl, ?_⟩
  by_cases h1 : 400 < n0
  · exact (reads8_long Z S0 n0 k0 z1 _ W h1 (by omega)).mono fun e W' ⟨he, hf⟩ => ⟨he, hf.below (by simp) (Nat.le_refl _)⟩
  · by_cases h2 : n0 < 4
    · exact (reads8_short Z S0 n0 k0 z1 _ W h2).mono fun e W' ⟨he, hf⟩ => ⟨he, hf.below (by simp) (Nat.le_refl _)⟩
    · exact (reads8_law Z S0 n0 k0 bs0 z1 S2 k2 b2 W hs0 hb0 (by omega) (by omega) j1 hs2 hj2 (by omega)).mono fun e W' ⟨he, hf⟩ => ⟨he, hf.below (by simp) (Nat.le_refl _)⟩

theorem reads8_holds_of {X : EncSpec} {Y : DecSpec} (Z : QuantSpec X Y) : Rows.QuantReadsSaid :=
  OpenClaim.holds_of_wide 6 Try.f6 rfl rfl rfl rfl rfl rfl rfl ⟨rfl, rfl, rfl, rfl, rfl⟩ rfl rfl rfl rfl rfl (by kernel_rfl) Try.func6 (by kernel_rfl)
    (of_decide_eq_true (by kernel_rfl)) (by unfold Func.isWrapper; first | (rw [if_pos (by decide +kernel)]; kernel_rfl) | (rw [if_neg (by decide +kernel)]; exact ⟨rfl, rfl⟩))
    (fun os started H enc _ => reads8_lifted Z os started H enc)
end Go.Proofs.Ytendcmdpmohacaa

/-
  The law QuantReads answers true whatever its input, and leaves its arguments as they were; no condition.
-/
namespace Go.Proofs.Ytendcmdpmohacaa
open Go.RowKit

theorem reads8_holds : Rows.QuantReadsSaid := reads8_holds_of quantI
#print axioms reads8_holds
end Go.Proofs.Ytendcmdpmohacaa
