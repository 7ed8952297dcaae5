/-
  Contracts of the landed book: get, getBehind, getLength, getLowest. Conditions: the book and the decoder are apart, the chances are right.
-/
import Derived.Test.YtfjlepnodmeaaaaBook2
import Derived.Test.YtfjlepnodmeaaaaBookEye
import Derived.Test.YtfjlepnodmeaaaaBook3
namespace Go.Proofs.Ytfjlepnodmeaaaa
open Go.RowKit

/-- The book and a decoder, apart. -/
structure Look (Y : DecSpec) (w : World) (b : Nat) (B : Chs) (y : Nat) (K : List Nat) (bs : List UInt8) (d : Dec) : Prop where
  bk : Bk w b B
  de : Y.De w y K bs d
  sep : b ∉ y :: K
  ok : Okd bs B d
theorem Look.fr0 {Y : DecSpec} {w w' : World} {b : Nat} {B : Chs} {y : Nat} {K : List Nat} {bs : List UInt8} {d : Dec} (h : Look Y w b B y K bs d) (hf : Fr [] w w') : Look Y w' b B y K bs d :=
  ⟨h.bk.fr hf (by simp), Y.fr h.de hf (by simp), h.sep, h.ok⟩

/-- What getting a bit answers, and does. -/
def BitPost (Y : DecSpec) (b y : Nat) (K : List Nat) (bs : List UInt8) (w : World) (g : Option (Bool × Chs × Dec)) (r : Ending) (w' : World) : Prop :=
  match g with
  | none => r = .returned (.tuple #[.int .i64 0, .int .i64 41]) ∧ Fr [b, y] w w'
  | some (bit, B', d') => r = .returned (.tuple #[.int .i64 (bit.toNat : Int), .int .i64 0]) ∧ Look Y w' b B' y K bs d' ∧ Fr [b, y] w w'

set_option maxRecDepth 20000 in
theorem bget_any (N : NextSpec) (Y : DecSpec) (w : World) (b y t i : Nat) (K : List Nat) (bs : List UInt8) (d : Dec) (B : Chs) (h : Look Y w b B y K bs d) (hn : bs.length ≤ 100000) (ht : t < 16) (hi : i < 37) :
    Calls Try.prog 50 #[pt y, ptc b (t * 37 + i)] w (BitPost Y b y K bs w (getEv bs t B d (some i))) := by
  have hkeep := fun b1 B1 d1 (hg : getEv bs t B d (some i) = some (b1, B1, d1)) => getEv_keeps hg h.ok
  obtain ⟨hb, hD, hs, hok⟩ := h
  obtain ⟨c, hc⟩ : ∃ c, c = B (37 * t + i) := ⟨_, rfl⟩
  have hcr : rightC c := by rw [hc]; exact hok.fine _
  have ka := hb.cell (j := t * 37 + i) (by omega)
  rw [show t * 37 + i = 37 * t + i by omega, ← hc, show 37 * t + i = t * 37 + i by omega] at ka
  have hG := Y.get w y K bs d c hD hcr hok.rest hok.lo hok.hi hok.at_ hn
  have hN := fun W (bit : Bool) => N W c (bit.toNat : Int) (by have := hcr.2; omega) (by omega) (by have := Bool.toNat_le bit; omega)
  have hbb : ∀ bit : Bool, ((bit.toNat : Int) != 0) = bit := by intro bit; cases bit <;> rfl
  have hev : getEv bs t B d (some i) = match decGet bs d c with | none => none | some (b, d') => some (b, upd B (37 * t + i) (nextC c b), d') := by
    unfold getEv
    rw [show chOf B t (some i) = c from hc.symm]
    rw [hc]
    rfl
  rw [hev] at hkeep
  obtain ⟨g, hgg⟩ : ∃ g, g = getEv bs t B d (some i) := ⟨_, rfl⟩
  rw [← hgg]
  rw [hev] at hgg
  have Hgg := Lib.hid hgg
  clear hgg
  have HG := Lib.hid hG; have HN := Lib.hid hN; have Hbb := Lib.hid hbb
  have Hb := Lib.hid hb; have Hs := Lib.hid hs; have Hk := Lib.hid hkeep; have Hc := Lib.hid hc
  clear hG hN hbb hb hD hs hok hkeep hev hc
  go_enter Try.func50, Try.ntmps50
  go_wp2_with fail
  refine HG.out.mono ?_
  rintro r w1 (⟨bit, d', hg, rfl, hD1, hF1⟩ | ⟨hg, rfl, hF1⟩)
  · have hk := Hk.out
    have hgv := Hgg.out
    rw [hg] at hk hgv
    have hok1 := hk bit _ d' rfl
    have Hgv := Lib.hid hgv
    clear hk hgv Hgg
    have hb1 : Bk w1 b B := Hb.out.fr hF1 (fun hm => by simp at hm; exact Hs.out (by rw [hm]; exact List.mem_cons_self ..))
    have kb : w1.cell? ⟨b, t * 37 + i, none⟩ = some (.int .u16 (c : Int)) := by
      have := hb1.cell (j := t * 37 + i) (by omega)
      rw [show t * 37 + i = 37 * t + i by omega, ← Hc.out, show 37 * t + i = t * 37 + i by omega] at this
      exact this
    have hNb := fun W => HN.out W bit
    rw [Hbb.out bit] at hNb
    obtain ⟨x, hx⟩ : ∃ x, x = nextC c bit := ⟨_, rfl⟩
    rw [← hx] at hNb hok1
    have HNb := Lib.hid hNb
    have HD1 := Lib.hid hD1; have HF1 := Lib.hid hF1; have HB1 := Lib.hid hb1; have Hg := Lib.hid hg; have Hok1 := Lib.hid hok1; have Hx := Lib.hid hx
    clear hNb hD1 hF1 hb1 hg hok1 HN HG Hk ka hx
    go_wp2_with fail
    refine (HNb.out _).mono ?_
    rintro r w2 ⟨rfl, hF2⟩
    have hb2 : Bk w2 b B := HB1.out.fr hF2 (by simp)
    have kc : w2.cell? ⟨b, t * 37 + i, none⟩ = some (.int .u16 (c : Int)) := by
      have := hb2.cell (j := t * 37 + i) (by omega)
      rw [show t * 37 + i = 37 * t + i by omega, ← Hc.out, show 37 * t + i = t * 37 + i by omega] at this
      exact this
    have kf : w2.frozen? ⟨b, t * 37 + i, none⟩ = false := Blk.frozen hb2 _
    have HF2 := Lib.hid hF2; have HB2 := Lib.hid hb2
    clear hF2 hb2 kb
    go_wp2_with fail
    go_ret2
    have hF12 : Fr [b] w1 (w2.setCell ⟨b, t * 37 + i, none⟩ (.int .u16 (x : Int))) := (HF2.out.mono (S' := [b]) (by simp)).trans ((Fr.refl [b] w2).setCell (.inl (by simp)) _) (fun x hx => .inl hx)
    rw [Hgv.out]
    refine ⟨rfl, ⟨?_, ?_, Hs.out, ?_⟩, ?_⟩
    · rw [← Hx.out, show 37 * t + i = t * 37 + i by omega]
      exact HB2.out.set _ _
    · exact Y.fr HD1.out hF12 (fun k hk hm => Hs.out (by simp at hm; rw [← hm]; exact hk))
    · rw [← Hx.out]
      exact Hok1.out
    · exact (HF1.out.mono (by simp)).trans hF12 (by simp)
  · have HF1 := Lib.hid hF1; have Hg := Lib.hid hg
    clear hF1 hg HG HN Hk ka
    have hgv := Hgg.out
    rw [Hg.out] at hgv
    have Hgv := Lib.hid hgv
    clear hgv Hgg Hg
    go_wp2_with fail
    go_ret2
    rw [Hgv.out]
    exact ⟨rfl, HF1.out.mono (by simp)⟩

theorem Look.even {Y : DecSpec} {w : World} {b : Nat} {B : Chs} {y t : Nat} {K : List Nat} {bs : List UInt8} {d : Dec} (h : Look Y w b B y K bs d) (hn : bs.length ≤ 100000) :
    Calls Try.prog 61 #[pt y, .int .u16 1024] w (BitPost Y b y K bs w (getEv bs t B d none)) := by
  refine (Y.get w y K bs d 1024 h.de (by decide) h.ok.rest h.ok.lo h.ok.hi h.ok.at_ hn).mono ?_
  have hev : getEv bs t B d none = match decGet bs d 1024 with | none => none | some (b, d') => some (b, B, d') := rfl
  have hkeep := fun b1 B1 d1 (hg : getEv bs t B d none = some (b1, B1, d1)) => getEv_keeps hg h.ok
  rintro r w1 (⟨bit, d', hg, rfl, hD1, hF1⟩ | ⟨hg, rfl, hF1⟩)
  · rw [hg] at hev
    rw [hev] at hkeep ⊢
    exact ⟨rfl, ⟨h.bk.fr hF1 (fun hm => by simp at hm; exact h.sep (by rw [hm]; exact List.mem_cons_self ..)), hD1, h.sep, hkeep _ _ _ rfl⟩, hF1.mono (by simp)⟩
  · rw [hg] at hev
    rw [hev]
    exact ⟨rfl, hF1.mono (by simp)⟩

set_option maxRecDepth 20000 in
theorem bgbehind_any (N : NextSpec) (Y : DecSpec) (w : World) (b y t i a : Nat) (K : List Nat) (bs : List UInt8) (d : Dec) (B : Chs) (h : Look Y w b B y K bs d) (hn : bs.length ≤ 100000) (ht : t < 16) (ha : a < 2 ^ i) (hi : i ≤ 20) :
    Calls Try.prog 62 #[ptc b (t * 37), pt y, .int .i64 ((2 ^ i + a : Nat) : Int)] w (BitPost Y b y K bs w (getEv bs t B d (place i a))) := by
  have HI := Lib.hid (bfirst_any (2 ^ i + a) w)
  by_cases h4 : i < 4
  · have hp : 2 ^ i ≤ 8 := Nat.pow_le_pow_right (n := 2) (i := i) (j := 3) (by omega) (by omega)
    have hp0 := Nat.two_pow_pos i
    have hP := bget_any N Y w b y t (20 + (2 ^ i - 1) + a) K bs d B h hn ht (by omega)
    have hpl : place i a = some (20 + (2 ^ i - 1) + a) := by unfold place; rw [if_pos h4]
    rw [← hpl] at hP
    obtain ⟨W, hW⟩ : ∃ W, W = 2 ^ i + a := ⟨_, rfl⟩
    rw [show t * 37 + (20 + (2 ^ i - 1) + a) = t * 37 + (19 + W) by omega] at hP
    rw [← hW, decide_eq_true (by omega : W < 16)] at HI
    have e1 : (W : Int) < 16 := by omega
    rw [← hW]
    obtain ⟨g, hg⟩ : ∃ g, g = getEv bs t B d (place i a) := ⟨_, rfl⟩
    rw [← hg] at hP ⊢
    have HP := Lib.hid hP
    have hW0 : 1 ≤ W := by omega
    have hW16 : W < 16 := by omega
    have ew : 20 + W - 1 = 19 + W := by omega
    have Hew := Lib.hid ew
    clear hP hW hpl h hn ha h4 hp hp0 ew hg
    go_enter Try.func62, Try.ntmps62
    go_wp2_with fail
    refine HI.out.mono ?_
    rintro r w1 ⟨rfl, rfl⟩
    clear HI
    go_wp2_with fail
    rw [Hew.out]
    refine HP.out.mono ?_
    intro r w2 hQ
    rcases g with _ | ⟨bit, B', d'⟩
    · obtain ⟨rfl, hQ⟩ := hQ
      have HQ := Lib.hid hQ
      clear hQ HP
      go_wp2_with fail
      go_ret2
      exact ⟨rfl, HQ.out⟩
    · obtain ⟨rfl, hQ⟩ := hQ
      have HQ := Lib.hid hQ
      clear hQ HP
      go_wp2_with fail
      go_ret2
      exact ⟨rfl, HQ.out⟩
  · have hp : 16 ≤ 2 ^ i := Nat.pow_le_pow_right (n := 2) (i := 4) (j := i) (by omega) (by omega)
    have hpl : place i a = none := by unfold place; rw [if_neg h4]
    have hE := h.even (t := t) hn
    rw [hpl]
    obtain ⟨W, hW⟩ : ∃ W, W = 2 ^ i + a := ⟨_, rfl⟩
    rw [← hW, decide_eq_false (by omega : ¬ W < 16)] at HI
    rw [← hW]
    obtain ⟨g, hg⟩ : ∃ g, g = getEv bs t B d none := ⟨_, rfl⟩
    rw [← hg] at hE ⊢
    have HE := Lib.hid hE
    clear hE hW hpl h hn ha h4 hp hg
    go_enter Try.func62, Try.ntmps62
    go_wp2_with fail
    refine HI.out.mono ?_
    rintro r w1 ⟨rfl, rfl⟩
    clear HI
    go_wp2_with fail
    refine HE.out.mono ?_
    intro r w2 hQ
    rcases g with _ | ⟨bit, B', d'⟩
    · obtain ⟨rfl, hQ⟩ := hQ
      have HQ := Lib.hid hQ
      clear hQ HE
      go_wp2_with fail
      go_ret2
      exact ⟨rfl, HQ.out⟩
    · obtain ⟨rfl, hQ⟩ := hQ
      have HQ := Lib.hid hQ
      clear hQ HE
      go_wp2_with fail
      go_ret2
      exact ⟨rfl, HQ.out⟩

/-- What getting bits together answers, and does: a number as they make it. -/
def RunPost (Y : DecSpec) (b y : Nat) (K : List Nat) (bs : List UInt8) (w : World) (f : Nat → Nat) (g : Option (Nat × Chs × Dec)) (r : Ending) (w' : World) : Prop :=
  match g with
  | none => r = .returned (.tuple #[.int .i64 0, .int .i64 41]) ∧ Fr [b, y] w w'
  | some (n, B', d') => r = .returned (.tuple #[.int .i64 (f n : Int), .int .i64 0]) ∧ Look Y w' b B' y K bs d' ∧ Fr [b, y] w w'

set_option maxRecDepth 20000 in
theorem bglength_any (N : NextSpec) (Y : DecSpec) (w : World) (b y t : Nat) (K : List Nat) (bs : List UInt8) (d : Dec) (B : Chs) (h : Look Y w b B y K bs d) (hn : bs.length ≤ 100000) (ht : t < 16) :
    Calls Try.prog 52 #[ptc b (t * 37), pt y] w (RunPost Y b y K bs w id (getLen bs t 20 0 B d)) := by
  obtain ⟨g, hg⟩ : ∃ g, g = getLen bs t 20 0 B d := ⟨_, rfl⟩
  rw [← hg]
  have H := Lib.hid h; have Hg := Lib.hid hg
  clear h hg
  go_enter Try.func52, Try.ntmps52
  go_wp2_with fail
  go_loopw [9] (fun s9 wr => ∃ (x : Nat) (B1 : Chs) (d1 : Dec), x ≤ 20 ∧ s9 = .int .i64 (x : Int) ∧ g = getLen bs t (20 - x) x B1 d1 ∧ Look Y wr b B1 y K bs d1 ∧ Fr [b, y] w wr) (fun s9 _ => 20 - (intOf s9).toNat)
  case atStart => exact ⟨0, B, d, by omega, rfl, Hg.out, H.out, Fr.refl _ _⟩
  case round =>
    obtain ⟨x, B1, d1, hx, rfl, hL, hE, hF⟩ := hrel
    have HL := Lib.hid hL; have HE := Lib.hid hE; have HF := Lib.hid hF
    clear hL hE hF H Hg
    rcases Nat.lt_or_ge x 20 with h20 | h20
    · have e1 : decide ((x : Int) < 20) = true := by simp; omega
      have hG := bget_any N Y wr b y t x K bs d1 B1 HE.out hn ht (by omega)
      have hstep : g = match getEv bs t B1 d1 (some x) with | none => none | some (b, B', d') => if b then getLen bs t (20 - (x + 1)) (x + 1) B' d' else some (x, B', d') := by
        rw [HL.out, show 20 - x = (20 - (x + 1)) + 1 by omega]
        rfl
      obtain ⟨v, hv⟩ : ∃ v, v = getEv bs t B1 d1 (some x) := ⟨_, rfl⟩
      rw [← hv] at hstep hG
      have HG := Lib.hid hG; have Hstep := Lib.hid hstep
      clear hG hstep hv HL HE
      go_wp2_with fail
      refine HG.out.mono ?_
      intro r w2 hQ
      rcases v with _ | ⟨bit, B2, d2⟩
      · obtain ⟨rfl, hF2⟩ := hQ
        have HF2 := Lib.hid (HF.out.trans hF2 (fun x hx => .inl hx))
        clear hF2 HG HF
        go_wp2_with fail
        go_ret2
        rw [Hstep.out]
        exact ⟨rfl, HF2.out⟩
      · obtain ⟨rfl, hE2, hF2⟩ := hQ
        have HF2 := Lib.hid (HF.out.trans hF2 (fun x hx => .inl hx)); have HE2 := Lib.hid hE2
        clear hF2 hE2 HG HF
        cases bit with
        | true =>
          go_wp2_with fail
          exact ⟨⟨x + 1, B2, d2, by omega, by simp, Hstep.out, HE2.out, HF2.out⟩, by simp [intOf]; omega⟩
        | false =>
          go_wp2_with fail
          go_ret2
          rw [Hstep.out]
          exact ⟨rfl, HE2.out, HF2.out⟩
    · have e1 : decide ((x : Int) < 20) = false := by simp; omega
      have hgg : g = some (20, B1, d1) := by
        rw [HL.out, show x = 20 by omega]
        rfl
      have Hgg := Lib.hid hgg
      clear hgg HL
      go_wp2_with fail
      go_ret2
      rw [Hgg.out]
      exact ⟨rfl, HE.out, HF.out⟩

theorem i64_or_bit (V : Nat) (bit : Bool) (h : V < 4611686018427387904) : bits .or .i64 (((2 * V : Nat)) : Int) (bit.toNat : Int) = ((2 * V + bit.toNat : Nat) : Int) := by
  show IntKind.i64.wrap ((BitVec.ofInt 64 ((2 * V : Nat) : Int) ||| BitVec.ofInt 64 (bit.toNat : Int)).toNat : Int) = _
  have hb := Bool.toNat_le bit
  have e : (BitVec.ofInt 64 ((2 * V : Nat) : Int) ||| BitVec.ofInt 64 (bit.toNat : Int)).toNat = 2 * V + bit.toNat := by
    rw [BitVec.toNat_or, BitVec.toNat_ofInt, BitVec.toNat_ofInt]
    have h1 : (((2 * V : Nat) : Int) % ((2 ^ 64 : Nat) : Int)).toNat = 2 * V := by omega
    have h2 : (((bit.toNat : Nat) : Int) % ((2 ^ 64 : Nat) : Int)).toNat = bit.toNat := by omega
    rw [h1, h2]
    have := Nat.two_pow_add_eq_or_of_lt (i := 1) (b := bit.toNat) (by omega) V
    rw [show 2 ^ 1 * V = 2 * V by omega] at this
    exact this.symm
  rw [e, IntWalk.i64_in _ (by omega)]

set_option maxRecDepth 20000 in
theorem bglowest_any (N : NextSpec) (Y : DecSpec) (w : World) (b y t n : Nat) (K : List Nat) (bs : List UInt8) (d : Dec) (B : Chs) (h : Look Y w b B y K bs d) (hn : bs.length ≤ 100000) (ht : t < 16) (hn20 : n ≤ 20) :
    Calls Try.prog 51 #[ptc b (t * 37), pt y, .int .i64 (n : Int)] w (RunPost Y b y K bs w (fun a => 2 ^ n + a) (getBits bs t n 0 0 B d)) := by
  obtain ⟨g, hg⟩ : ∃ g, g = getBits bs t n 0 0 B d := ⟨_, rfl⟩
  rw [← hg]
  have H := Lib.hid h; have Hg := Lib.hid hg
  clear h hg
  go_enter Try.func51, Try.ntmps51
  go_wp2_with fail
  go_loopw [8, 12] (fun s8 s12 wr => ∃ (i a V : Nat) (B1 : Chs) (d1 : Dec), i ≤ n ∧ a < 2 ^ i ∧ V = 2 ^ i + a ∧ s8 = .int .i64 (V : Int) ∧ s12 = .int .i64 (i : Int) ∧ g = getBits bs t (n - i) i a B1 d1 ∧ Look Y wr b B1 y K bs d1 ∧ Fr [b, y] w wr) (fun _ s12 _ => 20 - (intOf s12).toNat)
  case atStart => exact ⟨0, 0, 1, B, d, by omega, by decide, rfl, rfl, rfl, Hg.out, H.out, Fr.refl _ _⟩
  case round =>
    obtain ⟨i, a, V, B1, d1, hi, ha, hV, rfl, rfl, hL, hE, hF⟩ := hrel
    have HL := Lib.hid hL; have HE := Lib.hid hE; have HF := Lib.hid hF; have HV := Lib.hid hV; have Ha := Lib.hid ha
    have hP20 : 2 ^ i ≤ 1048576 := Nat.pow_le_pow_right (n := 2) (i := i) (j := 20) (by omega) (by omega)
    have hVb : V ≤ 2097152 := by omega
    clear hL hE hF H Hg hV ha hP20
    rcases Nat.lt_or_ge i n with hin | hin
    · have e1 : decide (i < n) = true := by simpa using hin
      have hG := bgbehind_any N Y wr b y t i a K bs d1 B1 HE.out hn ht Ha.out (by omega)
      rw [← HV.out] at hG
      have hstep : g = match getEv bs t B1 d1 (place i a) with | none => none | some (b, B', d') => getBits bs t (n - (i + 1)) (i + 1) (2 * a + b.toNat) B' d' := by
        rw [HL.out, show n - i = (n - (i + 1)) + 1 by omega]
        rfl
      obtain ⟨v, hv⟩ : ∃ v, v = getEv bs t B1 d1 (place i a) := ⟨_, rfl⟩
      rw [← hv] at hstep hG
      have HG := Lib.hid hG; have Hstep := Lib.hid hstep
      clear hG hstep hv HL HE
      go_wp2_with fail
      refine HG.out.mono ?_
      intro r w2 hQ
      rcases v with _ | ⟨bit, B2, d2⟩
      · obtain ⟨rfl, hF2⟩ := hQ
        have HF2 := Lib.hid (HF.out.trans hF2 (fun x hx => .inl hx))
        clear hF2 HG HF
        go_wp2_with fail
        go_ret2
        rw [Hstep.out]
        exact ⟨rfl, HF2.out⟩
      · obtain ⟨rfl, hE2, hF2⟩ := hQ
        have HF2 := Lib.hid (HF.out.trans hF2 (fun x hx => .inl hx)); have HE2 := Lib.hid hE2
        clear hF2 hE2 HG HF
        have eO := i64_or_bit V bit (by omega)
        obtain ⟨V', hV'⟩ : ∃ V', V' = 2 * V + bit.toNat := ⟨_, rfl⟩
        rw [← hV'] at eO
        have e2V : ((2 * V : Nat) : Int) = (V : Int) * 2 := by omega
        rw [e2V] at eO
        have HV' := Lib.hid hV'
        clear hV' e2V
        go_wp2_with fail
        have hb2 := Bool.toNat_le bit
        refine ⟨⟨i + 1, 2 * a + bit.toNat, V', B2, d2, by omega, ?_, ?_, rfl, by simp, Hstep.out, HE2.out, HF2.out⟩, by simp [intOf]; omega⟩
        · have := Ha.out
          rw [Nat.pow_succ]
          omega
        · have h1 := HV'.out
          have h2 := HV.out
          rw [Nat.pow_succ]
          omega
    · have e1 : decide (i < n) = false := by simp; omega
      have hgg : g = some (a, B1, d1) := by
        rw [HL.out, show n - i = 0 by omega]
        rfl
      have hVn : V = 2 ^ n + a := by rw [HV.out, show i = n by omega]
      have Hgg := Lib.hid hgg
      have HVn := Lib.hid hVn
      clear hgg hVn HL HV Ha
      go_wp2_with fail
      go_ret2
      rw [Hgg.out]
      exact ⟨by show Ending.returned (Value.tuple #[.int .i64 (V : Int), .int .i64 0]) = Ending.returned (Value.tuple #[.int .i64 ((2 ^ n + a : Nat) : Int), .int .i64 0]); rw [← HVn.out], HE.out, HF.out⟩
end Go.Proofs.Ytfjlepnodmeaaaa
