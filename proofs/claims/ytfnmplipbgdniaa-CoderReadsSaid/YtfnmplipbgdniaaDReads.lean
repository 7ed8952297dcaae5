/-
  The law CoderReads answers true whatever its input, out of the coder's contracts and the document's; no condition.
-/
import Derived.Test.YtfnmplipbgdniaaDLive
import Derived.Test.YtfnmplipbgdniaaRef4e
namespace Go.Proofs.Ytfnmplipbgdniaa
open Go.RowKit

theorem reads4_long (X : EncSpec) (Y : DecSpec) (N : NextSpec) (Ab : Option Addr) (n cb : Nat) (A : Option Addr) (len cap : Nat) (w : World) (h : 300 < n) (hn : n ≤ 9223372036854775807) :
    Calls Try.prog 4 #[.slice Ab n cb, .slice A len cap] w fun e w' => e = .returned (.bool true) ∧ Fr [] w w' := by
  have e1 : decide ((300 : Int) < (n : Int)) = true := by simp; omega
  go_enter Try.func4, Try.ntmps4
  go_wp2_with fail
  refine (alive4_any X Y N _).mono ?_
  rintro e w3 ⟨rfl, hF3⟩
  go_wp2_with fail
  go_ret
  exact ⟨rfl, hF3⟩

theorem reads4_short (X : EncSpec) (Y : DecSpec) (N : NextSpec) (Ab : Option Addr) (n cb : Nat) (A : Option Addr) (len cap : Nat) (w : World) (h : n < 4) :
    Calls Try.prog 4 #[.slice Ab n cb, .slice A len cap] w fun e w' => e = .returned (.bool true) ∧ Fr [] w w' := by
  have e1 : decide ((300 : Int) < (n : Int)) = false := by simp; omega
  have e2 : decide ((n : Int) < 4) = true := by simp; omega
  go_enter Try.func4, Try.ntmps4
  go_wp2_with fail
  refine (Y.short w Ab n cb h).mono ?_
  rintro e w2 ⟨rfl, hF2⟩
  go_wp2_with fail
  refine (ropen_short Ab n cb _ h).mono ?_
  rintro e w4 ⟨rfl, rfl⟩
  go_wp2_with fail
  refine (alive4_any X Y N _).mono ?_
  rintro e w3 ⟨rfl, hF3⟩
  go_wp2_with fail
  go_ret
  exact ⟨rfl, hF2.trans hF3 (by simp)⟩

/-- The two decoders of bs, at the same place, apart. -/
structure Two (Y : DecSpec) (w0 w : World) (y : Nat) (K : List Nat) (q : Nat) (A : Option Addr) (c : Nat) (bs : List UInt8) (d : Dec) : Prop where
  de : Y.De w y K bs d
  rd : Rd w q A c bs d
  fr : Fr [] w0 w
  rest : d.rest < 4294967296
  ghost : ∃ f : Enc, f.Ok ∧ At bs d f
  ny : w0.heap.size ≤ y
  nq : w0.heap.size ≤ q
  apart : q ∉ y :: K
  src : ∀ ad, A = some ad → ad.block ≠ y
section
variable {Y : DecSpec} {w0 w w' : World} {y : Nat} {K : List Nat} {q : Nat} {A : Option Addr} {c : Nat} {bs : List UInt8} {d d' : Dec}
theorem Two.fr0 (h : Two Y w0 w y K q A c bs d) (hf : Fr [] w w') : Two Y w0 w' y K q A c bs d :=
  ⟨Y.fr h.de hf (by simp), h.rd.fr0 hf, h.fr.trans hf (by simp), h.rest, h.ghost, h.ny, h.nq, h.apart, h.src⟩
theorem Two.bounds (h : Two Y w0 w y K q A c bs d) : 16777216 ≤ d.r ∧ d.r ≤ 4294967295 ∧ d.i ≤ bs.length := by
  obtain ⟨f, ho, ha⟩ := h.ghost
  exact ⟨by rw [ha.r]; exact ho.lo, by rw [ha.r]; exact ho.hi, by rw [ha.i]; exact ha.len⟩
end

set_option maxRecDepth 100000 in
set_option maxHeartbeats 8000000 in
theorem reads4_law (X : EncSpec) (Y : DecSpec) (N : NextSpec) (Ab : Option Addr) (n cb : Nat) (bs : List UInt8) (A : Option Addr) (len cap : Nat) (acts : List (Int × Int)) (w : World)
    (hb : Src w (.slice Ab n cb) (bs.map B8)) (hn : bs.length = n) (h4 : 4 ≤ n) (h300 : n ≤ 300) (hA : Acts2 w A len acts) (hm : len ≤ 9223372036854775807) :
    Calls Try.prog 4 #[.slice Ab n cb, .slice A len cap] w fun e w' => e = .returned (.bool true) ∧ Fr [] w w' := by
  have HA := Lib.hid hA
  have HS := Lib.hid hb
  have Hn := Lib.hid hn
  have e1 : decide ((300 : Int) < (n : Int)) = false := by simp; omega
  have hO := Y.opens w Ab cb bs (by rw [hn]; exact hb) (by omega) (by omega)
  rw [hn] at hO
  have HO := Lib.hid hO
  have hRO : ∀ W, Fr [] w W → Calls Try.prog 21 #[.slice Ab n cb] W fun e w' => ∃ p, e = .returned (.tuple #[pt p, .int .i64 0]) ∧ Rd w' p Ab cb bs (decOpen bs) ∧ Fr [] W w' ∧ W.heap.size ≤ p := fun W hF => by
    have := ropen_any Ab cb bs W (by rw [hn]; exact hb.fr0 hF) (by omega) (by omega)
    rw [hn] at this
    exact this
  have HRO := Lib.hid hRO
  have hAb : ∀ ad, Ab = some ad → ad.block < w.heap.size := by
    intro ad had
    obtain ⟨a1, r1, c1⟩ := hb.cellAt (k := 0) (List.getElem?_eq_getElem (show 0 < bs.length by omega))
    rw [had] at r1
    injection r1 with r1
    subst r1
    have := World.block_lt_of_cell? w _ c1
    rwa [addr_block] at this
  have HAb := Lib.hid hAb
  clear hA hb hn hO hAb hRO
  go_enter Try.func4, Try.ntmps4
  go_wp2_with fail
  refine HO.out.mono ?_
  rintro e w1 ⟨y, K, rfl, hY, hF1, hy, hyK, hK⟩
  have HY := Lib.hid hY
  have HF1 := Lib.hid hF1
  have Hy := Lib.hid hy
  clear hY hF1 hy hyK hK HO
  go_wp2_with fail
  refine (HRO.out _ HF1.out).mono ?_
  rintro e w2 ⟨q, rfl, hR, hF2, hq⟩
  have hT : Two Y w w2 y K q Ab cb bs (decOpen bs) := by
    refine ⟨Y.fr HY.out hF2 (by simp), hR, HF1.out.trans hF2 (by simp), ?_, ⟨encNew, encNew_ok, at_open bs (by have := Hn.out; omega)⟩, Hy.out, Nat.le_trans HF1.out.size hq, ?_, ?_⟩
    · have h1 := valueOf_lt (bs.take 4)
      have h2 : (bs.take 4).length ≤ 4 := by simp; omega
      have h3 : 256 ^ (bs.take 4).length ≤ 256 ^ 4 := Nat.pow_le_pow_right (by omega) h2
      show valueOf (bs.take 4) < _
      omega
    · intro h
      have := Y.lt HY.out q h
      omega
    · intro ad had
      have := HAb.out ad had
      have := Hy.out
      omega
  have HT := Lib.hid hT
  clear hT hR hF2 hq HY HF1 Hy HRO HAb
  go_wp2_with fail
  go_loopw [9] (fun s9 wr => ∃ (i : Nat) (d : Dec), i ≤ len ∧ i ≤ 400 ∧ s9 = .int .i64 (i : Int) ∧ Two Y w wr y K q Ab cb bs d) (fun s9 _ => 400 - (intOf s9).toNat)
  case atStart => exact ⟨0, decOpen bs, by omega, by omega, rfl, HT.out⟩
  case round =>
    obtain ⟨i, d, hi1, hi2, rfl, hT⟩ := hrel
    have HTr := Lib.hid hT
    clear hT
    by_cases hlt2 : i < len ∧ i < 400
    · obtain ⟨hl1, hl2⟩ := hlt2
      have eg1 : decide (i < len) = true := by simpa using hl1
      have eg2 : decide ((i : Int) < 400) = true := by simp; omega
      obtain ⟨⟨c, b⟩, hcb⟩ : ∃ x, acts[i]? = some x := ⟨_, List.getElem?_eq_getElem (by have := HA.out.1; omega)⟩
      obtain ⟨-, -, g, o, rfl, ka, -⟩ := (HA.out.fr HTr.out.fr).2 i c b hcb
      have HC0 := and_raw c
      have hrc := rawC_lt c
      obtain ⟨rc, hrcc⟩ : ∃ rc, rc = rawC c := ⟨_, rfl⟩
      rw [← hrcc] at HC0 hrc
      have HC := Lib.hid (fun W => chance_any (rc : Int) W)
      have hrr : rawC (rc : Int) = rc := by unfold rawC; omega
      rw [hrr] at HC
      clear hcb hrcc hrr
      by_cases hr : rightC rc
      · have hbo := HTr.out.bounds
        have HGet := Lib.hid (Y.get wr y K bs d rc HTr.out.de hr HTr.out.rest hbo.1 hbo.2.1 hbo.2.2 (by have := Hn.out; omega))
        go_wp2_with fail
        refine (HC.out _).mono ?_
        rintro e wC ⟨rfl, rfl⟩
        go_wp2_with fail
        refine HGet.out.mono ?_
        rintro e w3 (⟨bit, d', hg, rfl, hY3, hF3⟩ | ⟨hg, rfl, hF3⟩)
        · have hR3 : Rd w3 q Ab cb bs d := HTr.out.rd.fr hF3 (by intro h; simp at h; exact HTr.out.apart (by rw [h]; exact List.mem_cons_self ..)) (fun ad had => by simp; exact HTr.out.src ad had)
          have HRg := Lib.hid (rget_total q Ab cb bs d rc w3 hR3 hr hbo.1 hbo.2.1 (by have := hbo.2.2; have := Hn.out; omega))
          have HY3 := Lib.hid hY3
          have HF3 := Lib.hid (HTr.out.fr.trans hF3 (fun x hx => .inr (by simp at hx; subst hx; exact HTr.out.ny)))
          have Hg := Lib.hid hg
          clear hR3 hY3 hF3 hg HGet hbo ka
          go_wp2_with fail
          refine HRg.out.mono ?_
          rintro e w4 (⟨bit2, d2, hg2, rfl, hR4, hF4⟩ | ⟨hg2, -⟩)
          rotate_left
          · rw [Hg.out] at hg2; cases hg2
          rw [Hg.out] at hg2
          injection hg2 with hg2
          injection hg2 with hg3 hg4
          subst hg3 hg4
          have hT4 : Two Y w w4 y K q Ab cb bs d' := by
            obtain ⟨f, ho, ha⟩ := HTr.out.ghost
            refine ⟨Y.fr HY3.out hF4 (fun k hk hm => by simp at hm; subst hm; exact HTr.out.apart hk), hR4, HF3.out.trans hF4 (fun x hx => .inr (by simp at hx; subst hx; exact HTr.out.nq)), ?_, ⟨encPut f rc bit, encPut_ok ho hr bit, at_got ha Hg.out⟩, HTr.out.ny, HTr.out.nq, HTr.out.apart, HTr.out.src⟩
            have h1 := got_rest Hg.out
            have h2 := (at_got ha Hg.out).r
            have h3 := (encPut_ok ho hr bit).hi
            omega
          obtain ⟨dz, HZ⟩ : ∃ d, Hid (Two Y w w4 y K q Ab cb bs d) := ⟨_, Lib.hid hT4⟩
          clear hT4 hR4 hF4 HRg HY3 HF3 Hg HTr
          obtain ⟨E, hE⟩ : ∃ E : Int, E = if dz.i = bs.length ∧ dz.rest = 0 then 0 else 41 := ⟨_, rfl⟩
          have hend := fun W (hW : Two Y w W y K q Ab cb bs dz) => Y.ends W y K bs dz hW.de
          have hrend := fun W (hW : Two Y w W y K q Ab cb bs dz) => rend_any q Ab cb bs dz W hW.rd
          simp only [← hE] at hend hrend
          have HEnd := Lib.hid hend
          have HREnd := Lib.hid hrend
          clear hend hrend hE
          go_wp2_with fail
          refine (HEnd.out _ HZ.out).mono ?_
          rintro e w6 ⟨rfl, m6, hm6⟩
          have HZ6 := Lib.hid (HZ.out.fr0 (w' := w6) (by rw [hm6]; exact (Fr.refl _ _).drewN m6))
          clear hm6
          go_wp2_with fail
          refine (HREnd.out _ HZ6.out).mono ?_
          rintro e w7 ⟨rfl, m7, hm7⟩
          have HZ7 := Lib.hid (HZ6.out.fr0 (w' := w7) (by rw [hm7]; exact (Fr.refl _ _).drewN m7))
          clear hm7
          go_wp2_with fail
          exact ⟨⟨i + 1, dz, by omega, by omega, by simp, HZ7.out⟩, by simp [intOf]; omega⟩
        · have HRg := Lib.hid (rget_total q Ab cb bs d rc w3 (HTr.out.rd.fr0 hF3) hr hbo.1 hbo.2.1 (by have := hbo.2.2; have := Hn.out; omega))
          have HT3 := Lib.hid (HTr.out.fr0 hF3)
          have Hg := Lib.hid hg
          clear hF3 hg HGet hbo ka
          go_wp2_with fail
          refine HRg.out.mono ?_
          rintro e w4 (⟨bit2, d2, hg2, -⟩ | ⟨hg2, rfl, hF4⟩)
          · rw [Hg.out] at hg2; cases hg2
          obtain ⟨dz, HZ⟩ : ∃ d, Hid (Two Y w w4 y K q Ab cb bs d) := ⟨_, Lib.hid (HT3.out.fr0 hF4)⟩
          clear hF4 HRg HT3 Hg HTr hg2
          obtain ⟨E, hE⟩ : ∃ E : Int, E = if dz.i = bs.length ∧ dz.rest = 0 then 0 else 41 := ⟨_, rfl⟩
          have hend := fun W (hW : Two Y w W y K q Ab cb bs dz) => Y.ends W y K bs dz hW.de
          have hrend := fun W (hW : Two Y w W y K q Ab cb bs dz) => rend_any q Ab cb bs dz W hW.rd
          simp only [← hE] at hend hrend
          have HEnd := Lib.hid hend
          have HREnd := Lib.hid hrend
          clear hend hrend hE
          go_wp2_with fail
          refine (HEnd.out _ HZ.out).mono ?_
          rintro e w6 ⟨rfl, m6, hm6⟩
          have HZ6 := Lib.hid (HZ.out.fr0 (w' := w6) (by rw [hm6]; exact (Fr.refl _ _).drewN m6))
          clear hm6
          go_wp2_with fail
          refine (HREnd.out _ HZ6.out).mono ?_
          rintro e w7 ⟨rfl, m7, hm7⟩
          have HZ7 := Lib.hid (HZ6.out.fr0 (w' := w7) (by rw [hm7]; exact (Fr.refl _ _).drewN m7))
          clear hm7
          go_wp2_with fail
          exact ⟨⟨i + 1, dz, by omega, by omega, by simp, HZ7.out⟩, by simp [intOf]; omega⟩
      · have HArg := Lib.hid (Y.arg wr y K bs d rc HTr.out.de hrc hr)
        go_wp2_with fail
        refine (HC.out _).mono ?_
        rintro e wC ⟨rfl, rfl⟩
        go_wp2_with fail
        refine HArg.out.mono ?_
        rintro e w3 ⟨rfl, hF3⟩
        have HT3 := Lib.hid (HTr.out.fr0 hF3)
        clear hF3 HArg ka
        go_wp2_with fail
        refine (rget_arg _ rc _ hr).mono ?_
        rintro e w4 ⟨rfl, rfl⟩
        obtain ⟨dz, HZ⟩ : ∃ d, Hid (Two Y w w4 y K q Ab cb bs d) := ⟨_, HT3⟩
        clear HT3 HTr
        obtain ⟨E, hE⟩ : ∃ E : Int, E = if dz.i = bs.length ∧ dz.rest = 0 then 0 else 41 := ⟨_, rfl⟩
        have hend := fun W (hW : Two Y w W y K q Ab cb bs dz) => Y.ends W y K bs dz hW.de
        have hrend := fun W (hW : Two Y w W y K q Ab cb bs dz) => rend_any q Ab cb bs dz W hW.rd
        simp only [← hE] at hend hrend
        have HEnd := Lib.hid hend
        have HREnd := Lib.hid hrend
        clear hend hrend hE
        go_wp2_with fail
        refine (HEnd.out _ HZ.out).mono ?_
        rintro e w6 ⟨rfl, m6, hm6⟩
        have HZ6 := Lib.hid (HZ.out.fr0 (w' := w6) (by rw [hm6]; exact (Fr.refl _ _).drewN m6))
        clear hm6
        go_wp2_with fail
        refine (HREnd.out _ HZ6.out).mono ?_
        rintro e w7 ⟨rfl, m7, hm7⟩
        have HZ7 := Lib.hid (HZ6.out.fr0 (w' := w7) (by rw [hm7]; exact (Fr.refl _ _).drewN m7))
        clear hm7
        go_wp2_with fail
        exact ⟨⟨i + 1, dz, by omega, by omega, by simp, HZ7.out⟩, by simp [intOf]; omega⟩
    · have hex : (decide (i < len) = false) ∨ (decide (i < len) = true ∧ decide ((i : Int) < 400) = false) := by
        by_cases h1 : i < len
        · exact .inr ⟨by simpa using h1, by simp; omega⟩
        · exact .inl (by simpa using h1)
      obtain ⟨E, hE⟩ : ∃ E : Int, E = if d.i = bs.length ∧ d.rest = 0 then 0 else 41 := ⟨_, rfl⟩
      have hend := fun W (hW : Two Y w W y K q Ab cb bs d) => Y.ends W y K bs d hW.de
      have hrend := fun W (hW : Two Y w W y K q Ab cb bs d) => rend_any q Ab cb bs d W hW.rd
      simp only [← hE] at hend hrend
      have HEnd := Lib.hid hend
      have HREnd := Lib.hid hrend
      clear hend hrend hE hlt2
      rcases hex with eg1 | ⟨eg1, eg2⟩
      all_goals
        go_wp2_with fail
        refine (alive4_any X Y N _).mono ?_
        rintro e w5 ⟨rfl, hF5⟩
        have HZ5 := Lib.hid (HTr.out.fr0 hF5)
        clear hF5
        go_wp2_with fail
        refine (HEnd.out _ HZ5.out).mono ?_
        rintro e w6 ⟨rfl, m6, hm6⟩
        have HZ6 := Lib.hid (HZ5.out.fr0 (w' := w6) (by rw [hm6]; exact (Fr.refl _ _).drewN m6))
        clear hm6
        go_wp2_with fail
        refine (HREnd.out _ HZ6.out).mono ?_
        rintro e w7 ⟨rfl, m7, hm7⟩
        have HZ7 := Lib.hid (HZ6.out.fr0 (w' := w7) (by rw [hm7]; exact (Fr.refl _ _).drewN m7))
        clear hm7
        go_wp2_with fail
        go_ret
        exact ⟨rfl, HZ7.out.fr⟩
end Go.Proofs.Ytfnmplipbgdniaa
