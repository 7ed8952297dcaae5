/-
  Contracts of the landed book: put, putBehind, putLength, putLowest. Conditions: the book and the encoder are apart, the chances are right, the code is not too long.
-/
import Derived.Test.YtfjlepnodmeaaaaBook2
import Derived.Test.YtfjlepnodmeaaaaRef5c
import Derived.Test.YtfjlepnodmeaaaaCodInst
namespace Go.Proofs.Ytfjlepnodmeaaaa
open Go.RowKit

abbrev ptc (b j : Nat) : Value := .pointer (some ⟨b, j, none⟩)

/-- Behind a row of bits, from w0 on. -/
def NibAt (X : EncSpec) (w0 : World) (b p : Nat) (D0 : List Nat) (t : Nat) (B : Chs) (e : Enc) (w : World) (l : List Ev) : Prop :=
  ∃ D, Bk w b (learned t B l) ∧ X.En w p D (puts e (track t B l)) ∧ b ∉ p :: D ∧ Fr (b :: p :: D0) w0 w ∧ ∀ k ∈ D, k ∈ D0 ∨ w0.heap.size ≤ k

section
variable {X : EncSpec} {w0 w : World} {b p : Nat} {D0 : List Nat} {t : Nat} {B : Chs} {e : Enc} {l : List Ev}
theorem NibAt.start (hb : Bk w0 b B) (he : X.En w0 p D0 e) (hs : b ∉ p :: D0) : NibAt X w0 b p D0 t B e w0 [] :=
  ⟨D0, hb, he, hs, Fr.refl _ _, fun k hk => .inl hk⟩
theorem NibAt.fr0 {w' : World} (h : NibAt X w0 b p D0 t B e w l) (hf : Fr [] w w') : NibAt X w0 b p D0 t B e w' l := by
  obtain ⟨D, h1, h2, h3, h4, h5⟩ := h
  exact ⟨D, h1.fr hf (by simp), X.fr h2 hf (by simp), h3, h4.trans hf (by simp), h5⟩
end

set_option maxRecDepth 20000 in
theorem bput_any (N : NextSpec) (X : EncSpec) (w w0 : World) (b p : Nat) (D0 : List Nat) (t i : Nat) (B : Chs) (e : Enc) (l : List Ev) (bit : Bool) (h : NibAt X w0 b p D0 t B e w l) (hB : FineB B) (he : e.Ok) (hn : e.n + l.length ≤ 100000) (ht : t < 16) (hi : i < 37) :
    Calls Try.prog 42 #[pt p, ptc b (t * 37 + i), .int .i64 (bit.toNat : Int)] w fun r w' => r = .returned (.int .i64 0) ∧ NibAt X w0 b p D0 t B e w' (l ++ [(some i, bit)]) := by
  obtain ⟨D, hb, hE, hs, hF, hD⟩ := h
  have hfine := learned_fine t l hB
  have hok := puts_ok he (track_rights t l hB)
  have hn2 := puts_n (track t B l) e
  rw [track_length] at hn2
  obtain ⟨c, hc⟩ : ∃ c, c = learned t B l (37 * t + i) := ⟨_, rfl⟩
  have hcr : rightC c := by rw [hc]; exact hfine _
  have ka := hb.cell (j := t * 37 + i) (by omega)
  rw [show t * 37 + i = 37 * t + i by omega, ← hc, show 37 * t + i = t * 37 + i by omega] at ka
  have hP := X.put w p D _ c bit hE hok hcr (by omega)
  have hN := fun W => N W c (bit.toNat : Int) (by have := hcr.2; omega) (by omega) (by have := Bool.toNat_le bit; omega)
  have hbb : ((bit.toNat : Int) != 0) = bit := by cases bit <;> rfl
  rw [hbb] at hN
  obtain ⟨y, hy⟩ : ∃ y, y = nextC c bit := ⟨_, rfl⟩
  rw [← hy] at hN
  have HP := Lib.hid hP; have HN := Lib.hid hN; have Hc := Lib.hid hc; have Hy := Lib.hid hy
  have Hb := Lib.hid hb; have Hs := Lib.hid hs; have HF := Lib.hid hF; have HD := Lib.hid hD; have HE := Lib.hid hE
  clear hb hE hs hF hD hc hP hN hbb hy hfine hok hn2 he hn hB
  go_enter Try.func42, Try.ntmps42
  go_wp2_with fail
  refine HP.out.mono ?_
  rintro r w1 ⟨rfl, D', hE1, hF1, hD1⟩
  have hb1 : Bk w1 b (learned t B l) := Hb.out.fr hF1 Hs.out
  have kb : w1.cell? ⟨b, t * 37 + i, none⟩ = some (.int .u16 (c : Int)) := by
    have := hb1.cell (j := t * 37 + i) (by omega)
    rw [show t * 37 + i = 37 * t + i by omega, ← Hc.out, show 37 * t + i = t * 37 + i by omega] at this
    exact this
  have HE1 := Lib.hid hE1; have HF1 := Lib.hid hF1; have HD1 := Lib.hid hD1; have HB1 := Lib.hid hb1
  clear hE1 hF1 hD1 hb1 ka HP
  go_wp2_with fail
  refine (HN.out _).mono ?_
  rintro r w2 ⟨rfl, hF2⟩
  have hb2 : Bk w2 b (learned t B l) := HB1.out.fr hF2 (by simp)
  have kc : w2.cell? ⟨b, t * 37 + i, none⟩ = some (.int .u16 (c : Int)) := by
    have := hb2.cell (j := t * 37 + i) (by omega)
    rw [show t * 37 + i = 37 * t + i by omega, ← Hc.out, show 37 * t + i = t * 37 + i by omega] at this
    exact this
  have kf : w2.frozen? ⟨b, t * 37 + i, none⟩ = false := Blk.frozen hb2 _
  have HF2 := Lib.hid hF2; have HB2 := Lib.hid hb2
  clear hF2 hb2 kb
  go_wp2_with fail
  go_ret
  have hbl := Hb.out.lt
  have hF12 : Fr [b] w1 (w2.setCell ⟨b, t * 37 + i, none⟩ (.int .u16 (y : Int))) := (HF2.out.mono (S' := [b]) (by simp)).trans ((Fr.refl [b] w2).setCell (.inl (by simp)) _) (fun x hx => .inl hx)
  have hsep : b ∉ p :: D' := by
    intro hm
    rcases List.mem_cons.1 hm with hm | hm
    · exact Hs.out (by rw [hm]; exact List.mem_cons_self ..)
    · rcases HD1.out b hm with h | h
      · exact Hs.out (List.mem_cons_of_mem _ h)
      · omega
  have hcB : learned t B l (37 * t + i) = c := Hc.out.symm
  refine ⟨rfl, D', ?_, ?_, hsep, ?_, ?_⟩
  · rw [learned_append]
    show Bk _ b (upd (learned t B l) (37 * t + i) (nextC (learned t B l (37 * t + i)) bit))
    rw [hcB, ← Hy.out, show 37 * t + i = t * 37 + i by omega]
    exact HB2.out.set _ _
  · rw [track_append, puts_append]
    have h1 : X.En w1 p D' (encPut (puts e (track t B l)) (learned t B l (37 * t + i)) bit) := by rw [hcB]; exact HE1.out
    exact X.fr h1 hF12 (fun k hk hm => by simp at hm; subst hm; exact hsep hk)
  · refine (HF.out.trans HF1.out ?_).trans hF12 ?_
    · intro x hx
      rcases List.mem_cons.1 hx with rfl | hx
      · exact .inl (List.mem_cons_of_mem _ (List.mem_cons_self ..))
      · rcases HD.out x hx with h | h
        · exact .inl (List.mem_cons_of_mem _ (List.mem_cons_of_mem _ h))
        · exact .inr h
    · intro x hx
      simp at hx
      subst hx
      exact .inl (List.mem_cons_self ..)
  · intro k hk
    rcases HD1.out k hk with h | h
    · exact HD.out k h
    · exact .inr (Nat.le_trans HF.out.size h)

theorem NibAt.even {X : EncSpec} {w w0 : World} {b p : Nat} {D0 : List Nat} {t : Nat} {B : Chs} {e : Enc} {l : List Ev} (h : NibAt X w0 b p D0 t B e w l) (hB : FineB B) (he : e.Ok) (hn : e.n + l.length ≤ 100000) (bit : Bool) :
    Calls Try.prog 57 #[pt p, .int .u16 1024, .int .i64 (bit.toNat : Int)] w fun r w' => r = .returned (.int .i64 0) ∧ NibAt X w0 b p D0 t B e w' (l ++ [(none, bit)]) := by
  obtain ⟨D, hb, hE, hs, hF, hD⟩ := h
  have hn2 := puts_n (track t B l) e
  rw [track_length] at hn2
  refine (X.put w p D _ 1024 bit hE (puts_ok he (track_rights t l hB)) (by decide) (by omega)).mono ?_
  rintro r w' ⟨rfl, D', hE1, hF1, hD1⟩
  have hbl := hb.lt
  refine ⟨rfl, D', ?_, ?_, ?_, ?_, ?_⟩
  · rw [learned_append]
    exact hb.fr hF1 hs
  · rw [track_append, puts_append]
    exact hE1
  · intro hm
    rcases List.mem_cons.1 hm with hm | hm
    · exact hs (by rw [hm]; exact List.mem_cons_self ..)
    · rcases hD1 b hm with h | h
      · exact hs (List.mem_cons_of_mem _ h)
      · omega
  · refine hF.trans hF1 ?_
    intro x hx
    rcases List.mem_cons.1 hx with rfl | hx
    · exact .inl (List.mem_cons_of_mem _ (List.mem_cons_self ..))
    · rcases hD x hx with h | h
      · exact .inl (List.mem_cons_of_mem _ (List.mem_cons_of_mem _ h))
      · exact .inr h
  · intro k hk
    rcases hD1 k hk with h | h
    · exact hD k h
    · exact .inr (Nat.le_trans hF.size h)

set_option maxRecDepth 20000 in
theorem bbehind_any (N : NextSpec) (X : EncSpec) (w w0 : World) (b p : Nat) (D0 : List Nat) (t i a : Nat) (B : Chs) (e : Enc) (l : List Ev) (bit : Bool) (h : NibAt X w0 b p D0 t B e w l) (hB : FineB B) (he : e.Ok) (hn : e.n + l.length ≤ 100000) (ht : t < 16) (ha : a < 2 ^ i) (hi : i ≤ 20) :
    Calls Try.prog 56 #[ptc b (t * 37), pt p, .int .i64 ((2 ^ i + a : Nat) : Int), .int .i64 (bit.toNat : Int)] w fun r w' => r = .returned (.int .i64 0) ∧ NibAt X w0 b p D0 t B e w' (l ++ [(place i a, bit)]) := by
  have HI := Lib.hid (bfirst_any (2 ^ i + a) w)
  by_cases h4 : i < 4
  · have hp : 2 ^ i ≤ 8 := Nat.pow_le_pow_right (n := 2) (i := i) (j := 3) (by omega) (by omega)
    have hp0 := Nat.two_pow_pos i
    have hP := bput_any N X w w0 b p D0 t (20 + (2 ^ i - 1) + a) B e l bit h hB he hn ht (by omega)
    have hpl : place i a = some (20 + (2 ^ i - 1) + a) := by unfold place; rw [if_pos h4]
    rw [← hpl] at hP
    obtain ⟨W, hW⟩ : ∃ W, W = 2 ^ i + a := ⟨_, rfl⟩
    rw [show t * 37 + (20 + (2 ^ i - 1) + a) = t * 37 + (19 + W) by omega] at hP
    rw [← hW, decide_eq_true (by omega : W < 16)] at HI
    have e1 : (W : Int) < 16 := by omega
    rw [← hW]
    have HP := Lib.hid hP
    have hW0 : 1 ≤ W := by omega
    have hW16 : W < 16 := by omega
    clear hP hW hpl h hB he hn ha h4 hp hp0
    go_enter Try.func56, Try.ntmps56
    go_wp2_with fail
    refine HI.out.mono ?_
    rintro r w1 ⟨rfl, rfl⟩
    clear HI
    have ew : 20 + W - 1 = 19 + W := by omega
    have Hew := Lib.hid ew
    clear ew
    go_wp2_with fail
    rw [Hew.out]
    refine HP.out.mono ?_
    rintro r w2 ⟨rfl, hQ⟩
    have HQ := Lib.hid hQ
    clear hQ HP
    go_wp2_with fail
    go_ret
    exact ⟨rfl, HQ.out⟩
  · have hp : 16 ≤ 2 ^ i := Nat.pow_le_pow_right (n := 2) (i := 4) (j := i) (by omega) (by omega)
    have hpl : place i a = none := by unfold place; rw [if_neg h4]
    have hE := h.even hB he hn bit
    rw [hpl]
    obtain ⟨W, hW⟩ : ∃ W, W = 2 ^ i + a := ⟨_, rfl⟩
    rw [← hW, decide_eq_false (by omega : ¬ W < 16)] at HI
    rw [← hW]
    have HE := Lib.hid hE
    clear hE hW hpl h hB he hn ha h4 hp
    go_enter Try.func56, Try.ntmps56
    go_wp2_with fail
    refine HI.out.mono ?_
    rintro r w1 ⟨rfl, rfl⟩
    clear HI
    go_wp2_with fail
    refine HE.out.mono ?_
    rintro r w2 ⟨rfl, hQ⟩
    have HQ := Lib.hid hQ
    clear hQ HE
    go_wp2_with fail
    go_ret
    exact ⟨rfl, HQ.out⟩

set_option maxRecDepth 20000 in
theorem blength_any (N : NextSpec) (X : EncSpec) (w w0 : World) (b p : Nat) (D0 : List Nat) (t n : Nat) (B : Chs) (e : Enc) (l : List Ev) (h : NibAt X w0 b p D0 t B e w l) (hB : FineB B) (he : e.Ok) (hn : e.n + l.length ≤ 90000) (ht : t < 16) (hn20 : n ≤ 20) :
    Calls Try.prog 40 #[ptc b (t * 37), pt p, .int .i64 (n : Int)] w fun r w' => r = .returned (.int .i64 0) ∧ NibAt X w0 b p D0 t B e w' (l ++ (onesEvs 0 n ++ stopEvs n)) := by
  have H0 := Lib.hid h
  have HB := Lib.hid hB; have He := Lib.hid he; have Hn := Lib.hid hn
  clear h hB he hn
  go_enter Try.func40, Try.ntmps40
  go_wp2_with fail
  go_loopw [10] (fun s10 wr => ∃ i : Nat, i ≤ n ∧ s10 = .int .i64 (i : Int) ∧ NibAt X w0 b p D0 t B e wr (l ++ onesEvs 0 i)) (fun s10 _ => 20 - (intOf s10).toNat)
  case atStart => exact ⟨0, by omega, rfl, by rw [show onesEvs 0 0 = [] from rfl, List.append_nil]; exact H0.out⟩
  case round =>
    clear H0
    obtain ⟨i, hi, rfl, hP⟩ := hrel
    have HP := Lib.hid hP; clear hP
    by_cases hin : i < n
    · have e1 : decide (i < n) = true := by simpa using hin
      have hPut := bput_any N X wr w0 b p D0 t i B e _ true HP.out HB.out He.out (by have := Hn.out; simp; omega) ht (by omega)
      rw [show ((true.toNat : Nat) : Int) = 1 from rfl, List.append_assoc, show onesEvs 0 i ++ [(some i, true)] = onesEvs 0 (i + 1) by rw [onesEvs_snoc, Nat.zero_add]] at hPut
      have HPut := Lib.hid hPut
      clear hPut
      go_wp2_with fail
      refine HPut.out.mono ?_
      rintro r w1 ⟨rfl, hQ⟩
      have HQ := Lib.hid hQ
      clear hQ HPut
      go_wp2_with fail
      exact ⟨⟨i + 1, by omega, by simp, HQ.out⟩, by simp [intOf]; omega⟩
    · have e1 : decide (i < n) = false := by simpa using hin
      have hin2 : i = n := by omega
      have hQ := HP.out
      rw [hin2] at hQ
      have HQ := Lib.hid hQ
      clear hQ HP hin2 hin hi
      by_cases h20 : n = 20
      · have e2 : ((n : Int) == 20) = true := by simp; omega
        have hfin : NibAt X w0 b p D0 t B e wr (l ++ (onesEvs 0 n ++ stopEvs n)) := by
          rw [show stopEvs n = [] by unfold stopEvs; rw [if_neg (by omega)], List.append_nil]
          exact HQ.out
        have HFin := Lib.hid hfin
        clear hfin HQ h20
        go_wp2_with fail
        go_ret
        exact ⟨rfl, HFin.out⟩
      · have e2 : ((n : Int) == 20) = false := by simp; omega
        have hPut := bput_any N X wr w0 b p D0 t n B e _ false HQ.out HB.out He.out (by have := Hn.out; simp; omega) ht (by omega)
        rw [show ((false.toNat : Nat) : Int) = 0 from rfl, List.append_assoc, show onesEvs 0 n ++ [(some n, false)] = onesEvs 0 n ++ stopEvs n by unfold stopEvs; rw [if_pos (by omega)]] at hPut
        have HPut := Lib.hid hPut
        clear hPut HQ
        go_wp2_with fail
        refine HPut.out.mono ?_
        rintro r w1 ⟨rfl, hQ⟩
        have HQ := Lib.hid hQ
        clear hQ HPut
        go_wp2_with fail
        go_ret
        exact ⟨rfl, HQ.out⟩

theorem i64_and_one (R : Nat) (h : R < 9223372036854775808) : bits .and .i64 (R : Int) 1 = ((R % 2 : Nat) : Int) := by
  show IntKind.i64.wrap ((BitVec.ofInt 64 (R : Int) &&& BitVec.ofInt 64 1).toNat : Int) = _
  rw [BitVec.toNat_and, BitVec.toNat_ofInt, show (BitVec.ofInt 64 1).toNat = 1 by decide, Nat.and_one_is_mod]
  rw [IntWalk.i64_in _ (by omega)]
  omega
/-! The lowest n bits of V, which has a 1 ahead of them. -/
theorem low_take (V n i : Nat) (h : i ≤ n) : (digits V n).take i = digits (V / 2 ^ (n - i)) i := by
  have e := digits_add V (n - i) i
  rw [show n - i + i = n by omega] at e
  rw [e, List.take_left' (by simp), Nat.shiftRight_eq_div_pow]
theorem low_ahead {V n i : Nat} (h0 : 2 ^ n ≤ V) (h1 : V < 2 ^ (n + 1)) (h : i ≤ n) : V / 2 ^ (n - i) = 2 ^ i + number ((digits V n).take i) := by
  rw [low_take V n i h, number_digits]
  have hp := Nat.two_pow_pos (n - i)
  have h2 : 2 ^ i ≤ V / 2 ^ (n - i) := by
    rw [Nat.le_div_iff_mul_le hp, ← Nat.pow_add, show i + (n - i) = n by omega]
    exact h0
  have h3 : V / 2 ^ (n - i) < 2 ^ (i + 1) := by
    rw [Nat.div_lt_iff_lt_mul hp, ← Nat.pow_add, show i + 1 + (n - i) = n + 1 by omega]
    exact h1
  rw [Nat.pow_succ] at h3
  generalize V / 2 ^ (n - i) = m at h2 h3 ⊢
  generalize 2 ^ i = q at h2 h3 ⊢
  rw [Nat.mod_eq_sub_mod h2, Nat.mod_eq_of_lt (by omega)]
  omega
theorem low_bit {V n i : Nat} (h : i < n) : V / 2 ^ (n - 1 - i) % 2 = ((digits V n).getD i false).toNat := by
  rw [digits_getD, Nat.testBit_eq_decide_div_mod_eq]
  simp only [h, decide_true, Bool.true_and]
  rcases Nat.mod_two_eq_zero_or_one (V / 2 ^ (n - 1 - i)) with h | h <;> rw [h] <;> rfl
theorem low_half {V n i : Nat} (h : i < n) : V / 2 ^ (n - 1 - i) / 2 = V / 2 ^ (n - i) := by
  rw [Nat.div_div_eq_div_mul, ← Nat.pow_succ, show (n - 1 - i).succ = n - i by omega]

set_option maxRecDepth 20000 in
theorem blowest_any (N : NextSpec) (X : EncSpec) (w w0 : World) (b p : Nat) (D0 : List Nat) (t n V : Nat) (B : Chs) (e : Enc) (l : List Ev) (h : NibAt X w0 b p D0 t B e w l) (hB : FineB B) (he : e.Ok) (hn : e.n + l.length ≤ 90000) (ht : t < 16) (hn20 : n ≤ 20) (hV0 : 2 ^ n ≤ V) (hV1 : V < 2 ^ (n + 1)) :
    Calls Try.prog 41 #[ptc b (t * 37), pt p, .int .i64 (V : Int), .int .i64 (n : Int)] w fun r w' => r = .returned (.int .i64 0) ∧ NibAt X w0 b p D0 t B e w' (l ++ bitEvs 0 0 (digits V n)) := by
  have hV : V < 2097152 := Nat.lt_of_lt_of_le hV1 (Nat.pow_le_pow_right (n := 2) (i := n + 1) (j := 21) (by omega) (by omega))
  have H0 := Lib.hid h
  have HB := Lib.hid hB; have He := Lib.hid he; have Hn := Lib.hid hn; have HV0 := Lib.hid hV0; have HV1 := Lib.hid hV1
  clear h hB he hn hV0 hV1
  go_enter Try.func41, Try.ntmps41
  go_wp2_with fail
  go_loopw [13] (fun s13 wr => ∃ i : Nat, i ≤ n ∧ s13 = .int .i64 (i : Int) ∧ NibAt X w0 b p D0 t B e wr (l ++ bitEvs 0 0 ((digits V n).take i))) (fun s13 _ => 20 - (intOf s13).toNat)
  case atStart => exact ⟨0, by omega, rfl, by rw [List.take_zero, show bitEvs 0 0 [] = [] from rfl, List.append_nil]; exact H0.out⟩
  case round =>
    clear H0
    obtain ⟨i, hi, rfl, hP⟩ := hrel
    have HP := Lib.hid hP; clear hP
    by_cases hin : i < n
    · have e1 : decide (i < n) = true := by simpa using hin
      have hs : (0 : Int) ≤ (n : Int) - 1 - (i : Int) := by omega
      go_upto_region 5 with fail
      obtain ⟨R, hR⟩ : ∃ R, R = V / 2 ^ (n - 1 - i) := ⟨_, rfl⟩
      have eR : (V : Int) / 2 ^ (n - 1 - i) = (R : Int) := by rw [hR]; simp
      rw [eR]
      have hRV : R ≤ V := by rw [hR]; exact Nat.div_le_self _ _
      have h2 := low_half (V := V) hin
      rw [← hR, low_ahead HV0.out HV1.out (by omega)] at h2
      have h3 := low_bit (V := V) hin
      rw [← hR] at h3
      obtain ⟨bit, hbit⟩ : ∃ bit, bit = (digits V n).getD i false := ⟨_, rfl⟩
      rw [← hbit] at h3
      have hPut := bbehind_any N X wr w0 b p D0 t i (number ((digits V n).take i)) B e _ bit HP.out HB.out He.out (by have := Hn.out; simp; omega) ht (by have := number_lt ((digits V n).take i); rw [List.length_take, digits_length, Nat.min_eq_left (by omega)] at this; exact this) (by omega)
      rw [← h2, List.append_assoc, hbit, ← bitEvs_take (by simpa using hin), ← hbit] at hPut
      have hA : bits .and .i64 (R : Int) 1 = (bit.toNat : Int) := by rw [i64_and_one R (by omega), h3]
      obtain ⟨Q, hQ⟩ : ∃ Q, Q = R / 2 := ⟨_, rfl⟩
      have hD : (R : Int) / 2 = (Q : Int) := by omega
      rw [← hQ] at hPut h2
      have HPut := Lib.hid hPut
      clear hPut hR eR h2 h3 hbit HP hQ
      go_wp2_with fail
      refine HPut.out.mono ?_
      rintro r w1 ⟨rfl, hQ⟩
      have HQ := Lib.hid hQ
      clear hQ HPut
      go_wp2_with fail
      exact ⟨⟨i + 1, by omega, by simp, HQ.out⟩, by simp [intOf]; omega⟩
    · have e1 : decide (i < n) = false := by simpa using hin
      have hin2 : i = n := by omega
      have hQ := HP.out
      rw [hin2, List.take_of_length_le (by simp)] at hQ
      have HQ := Lib.hid hQ
      clear hQ HP hin2 hin hi
      go_wp2_with fail
      go_ret
      exact ⟨rfl, HQ.out⟩
end Go.Proofs.Ytfjlepnodmeaaaa
