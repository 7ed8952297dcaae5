/-
  What several laws' proofs lean on, part 3; each part says its conditions below.
-/
import Derived.Laws.BitsAllLaws
import Derived.Test.YtendcmdpmohacaaAll1
import Derived.Test.YtendcmdpmohacaaAll2
/-
  Contracts of math/bits.Len64 and math/bits.Len below 2^32. No other condition.
-/
namespace Go.Proofs.Ytendcmdpmohacaa
open Go.RowKit

theorem bitLen_div (x k : Nat) (h : 1 ≤ x / 2 ^ k) : bitLen x = bitLen (x / 2 ^ k) + k := by
  have hp : 0 < 2 ^ k := Nat.two_pow_pos k
  have hx : x ≠ 0 := by intro h0; subst h0; simp at h
  have h1 := Nat.log2_self_le (show x / 2 ^ k ≠ 0 by omega)
  have h2 : x / 2 ^ k < 2 ^ ((x / 2 ^ k).log2 + 1) := Nat.lt_log2_self
  have h3 : x.log2 = (x / 2 ^ k).log2 + k := (Nat.log2_eq_iff hx).2 ⟨by rw [Nat.pow_add]; exact (Nat.le_div_iff_mul_le hp).1 h1, by rw [show (x / 2 ^ k).log2 + k + 1 = ((x / 2 ^ k).log2 + 1) + k by omega, Nat.pow_add]; exact (Nat.div_lt_iff_lt_mul hp).1 h2⟩
  unfold bitLen
  rw [if_neg hx, if_neg (by omega), h3]
  omega

set_option maxHeartbeats 4000000 in
set_option maxRecDepth 100000 in
theorem mlen64_any (x : Nat) (w : World) (h1 : x < 4294967296) :
    Calls Try.prog 80 #[.int .u64 (x : Int)] w fun e w' => e = .returned (.int .i64 (bitLen x : Int)) ∧ w' = w := by
  go_enter Try.func80, Try.ntmps80
  generalize hX : ByteArray.mk (List.toArray (List.append (List.append _ _) (List.append _ _))) = s
  have hidx : ∀ (z : Int) (k : Nat), z = ((x / 2 ^ k : Nat) : Int) → (k = 0 ∨ 1 ≤ x / 2 ^ k) → x / 2 ^ k < 256 → ∃ n : Nat, n ≤ 8 ∧ Hid (k + n = bitLen x) ∧ (Instr.index 9 (.string s) (.int .u8 z)).run Try.prog w = .ok (.int .u8 (n : Int)) w := by
    intro z k hz b0 b1
    have hsz : s.size = 256 := by subst hX; decide +kernel
    have all : ∀ n : Fin 256, (s[n.val]?).map UInt8.toNat = some (bitLen n.val) ∧ bitLen n.val ≤ 8 := by subst hX; decide +kernel
    have d : bitLen x = bitLen (x / 2 ^ k) + k := by
      rcases b0 with b0 | b0
      · subst b0; simp
      · exact bitLen_div x k b0
    generalize x / 2 ^ k = b at *
    subst hz
    obtain ⟨hb, hl⟩ := all ⟨b, b1⟩
    simp only at hl d
    refine ⟨bitLen b, hl, Lib.hid (by omega), ?_⟩
    rw [run_index_string w 9 s .u8 b Try.underlying9, dif_pos ⟨by omega, by rw [hsz]; omega⟩]
    simp only [Int.toNat_natCast] at hb ⊢
    rw [getElem?_pos s b (by rw [hsz]; exact b1)] at hb
    simp only [Option.map_some, Option.some.injEq] at hb
    rw [hb]
  clear hX
  have e0 : decide ((4294967296 : Int) ≤ (x : Int)) = false := by simp; omega
  obtain ⟨L, hL⟩ : ∃ L, L = bitLen x := ⟨_, rfl⟩
  rw [← hL] at hidx ⊢
  clear hL
  by_cases ha : 65536 ≤ x
  · have e1 : decide ((65536 : Int) ≤ (x : Int)) = true := by simp; omega
    by_cases hb : 16777216 ≤ x
    · have e2 : decide ((256 : Int) ≤ (x : Int) / 65536) = true := by simp; omega
      obtain ⟨n, hn, HN, hi⟩ := hidx ((x : Int) / 65536 / 256 % 256) 24 (by omega) (by omega) (by omega)
      clear hidx h1 ha hb
      go_wp2_with fail
      go_ret
      exact ⟨by have := HN.out; show Ending.returned (.int .i64 (24 + (n : Int))) = _; congr 2; omega, rfl⟩
    · have e2 : decide ((256 : Int) ≤ (x : Int) / 65536) = false := by simp; omega
      obtain ⟨n, hn, HN, hi⟩ := hidx ((x : Int) / 65536 % 256) 16 (by omega) (by omega) (by omega)
      clear hidx h1 ha hb
      go_wp2_with fail
      go_ret
      exact ⟨by have := HN.out; show Ending.returned (.int .i64 (16 + (n : Int))) = _; congr 2; omega, rfl⟩
  · have e1 : decide ((65536 : Int) ≤ (x : Int)) = false := by simp; omega
    by_cases hb : 256 ≤ x
    · have e2 : decide ((256 : Int) ≤ (x : Int)) = true := by simp; omega
      obtain ⟨n, hn, HN, hi⟩ := hidx ((x : Int) / 256 % 256) 8 (by omega) (by omega) (by omega)
      clear hidx h1 ha hb
      go_wp2_with fail
      go_ret
      exact ⟨by have := HN.out; show Ending.returned (.int .i64 (8 + (n : Int))) = _; congr 2; omega, rfl⟩
    · have e2 : decide ((256 : Int) ≤ (x : Int)) = false := by simp; omega
      obtain ⟨n, hn, HN, hi⟩ := hidx ((x : Int) % 256) 0 (by omega) (by omega) (by omega)
      clear hidx h1 ha hb
      go_wp2_with fail
      go_ret
      exact ⟨by have := HN.out; show Ending.returned (.int .i64 (n : Int)) = _; congr 2; omega, rfl⟩

theorem mlen_any (x : Nat) (w : World) (h1 : x < 4294967296) :
    Calls Try.prog 64 #[.int .u64 (x : Int)] w fun e w' => e = .returned (.int .i64 (bitLen x : Int)) ∧ w' = w := by
  have HL := Lib.hid (mlen64_any x w h1)
  obtain ⟨L, hL⟩ : ∃ L, L = bitLen x := ⟨_, rfl⟩
  rw [← hL] at HL ⊢
  clear hL
  go_enter Try.func64, Try.ntmps64
  go_wp2_with fail
  refine HL.out.mono ?_
  rintro e w' ⟨rfl, rfl⟩
  go_wp2_with fail
  go_ret
  exact ⟨rfl, rfl⟩
end Go.Proofs.Ytendcmdpmohacaa

/-
  Contracts of the landed book: Put, PutSigned, PutOne. Conditions: the book and the encoder are apart, the chances are right, the code is not too long.
-/
namespace Go.Proofs.Ytendcmdpmohacaa
open Go.RowKit

theorem NibAt.done {X : EncSpec} {w w0 : World} {b p : Nat} {D0 : List Nat} {t : Nat} {B : Chs} {e : Enc} {l : List Ev} (h : NibAt X w0 b p D0 t B e w l) :
    ∃ D', Bk w b (learned t B l) ∧ X.En w p D' (puts e (track t B l)) ∧ Fr (b :: p :: D0) w0 w ∧ ∀ k ∈ D', k ∈ D0 ∨ w0.heap.size ≤ k := by
  obtain ⟨D, h1, h2, -, h4, h5⟩ := h
  exact ⟨D, h1, h2, h4, h5⟩

/-- Not put: whatever is at the book and at the encoder. -/
theorem bPut_bad (t v : Int) (a c : Option Addr) (w : World) (h : a = none ∨ c = none ∨ ¬ (0 ≤ t ∧ t ≤ 15) ∨ v < 0 ∨ 1048576 < v) :
    Calls Try.prog 45 #[.pointer a, .pointer c, .int .i64 t, .int .i64 v] w fun r w' => r = .returned (.int .i64 1) ∧ w' = w := by
  have HT := Lib.hid (btopic_any t w)
  cases a with
  | none =>
    clear h
    go_enter Try.func45, Try.ntmps45
    go_wp2_with fail
    go_ret
    exact ⟨rfl, rfl⟩
  | some a =>
  cases c with
  | none =>
    clear h
    go_enter Try.func45, Try.ntmps45
    go_wp2_with fail
    go_ret
    exact ⟨rfl, rfl⟩
  | some c =>
  have h : ¬ (0 ≤ t ∧ t ≤ 15) ∨ v < 0 ∨ 1048576 < v := by simpa using h
  by_cases h1 : 0 ≤ t ∧ t ≤ 15
  · rw [decide_eq_true h1] at HT
    by_cases h2 : v < 0
    · have e1 : decide (v < 0) = true := by simpa using h2
      go_enter Try.func45, Try.ntmps45
      go_wp2_with fail
      refine HT.out.mono ?_
      rintro r w1 ⟨rfl, rfl⟩
      go_wp2_with fail
      go_ret
      exact ⟨rfl, rfl⟩
    · have e1 : decide (v < 0) = false := by simpa using h2
      have e2 : decide (1048576 < v) = true := by simp; omega
      go_enter Try.func45, Try.ntmps45
      go_wp2_with fail
      refine HT.out.mono ?_
      rintro r w1 ⟨rfl, rfl⟩
      go_wp2_with fail
      go_ret
      exact ⟨rfl, rfl⟩
  · rw [decide_eq_false h1] at HT
    go_enter Try.func45, Try.ntmps45
    go_wp2_with fail
    refine HT.out.mono ?_
    rintro r w1 ⟨rfl, rfl⟩
    go_wp2_with fail
    go_ret
    exact ⟨rfl, rfl⟩

theorem bPut_ok (N : NextSpec) (X : EncSpec) (w : World) (b p t n : Nat) (D : List Nat) (B : Chs) (e : Enc) (hb : Bk w b B) (hE : X.En w p D e) (hs : b ∉ p :: D) (hB : FineB B) (he : e.Ok) (hn : e.n ≤ 60000) (ht : t < 16) (hv : n ≤ 1048576) :
    Calls Try.prog 45 #[pt b, pt p, .int .i64 (t : Int), .int .i64 (n : Int)] w fun r w' => r = .returned (.int .i64 0) ∧ NibAt X w b p D t B e w' (numEvs n) := by
  have HT := btopic_any (t : Int) w
  rw [decide_eq_true (by omega : 0 ≤ (t : Int) ∧ (t : Int) ≤ 15)] at HT
  have HT := Lib.hid HT
  have e1 : decide (1048576 < (n : Int)) = false := by simp; omega
  obtain ⟨k, hk⟩ : ∃ k, k = (n + 1).log2 := ⟨_, rfl⟩
  have hbl : bitLen (n + 1) = k + 1 := by unfold bitLen; rw [if_neg (by omega), hk]
  have hk20 : k ≤ 20 := by rw [hk]; exact log2_level hv
  have hL := mlen_any (n + 1) w (by omega)
  rw [hbl] at hL
  have hP := blength_any N X w w b p D t k B e [] (NibAt.start hb hE hs) hB he (by simp; omega) ht hk20
  have hQ := fun w1 (h : NibAt X w b p D t B e w1 (onesEvs 0 k ++ stopEvs k)) => blowest_any N X w1 w b p D t k (n + 1) B e _ h hB he (by
    have h2 : (stopEvs k).length ≤ 1 := by unfold stopEvs; split <;> simp
    simp; omega) ht hk20 (by rw [hk]; exact Nat.log2_self_le (by omega)) (by rw [hk]; exact Nat.lt_log2_self)
  rw [List.nil_append] at hP
  have en : numEvs n = onesEvs 0 k ++ stopEvs k ++ bitEvs 0 0 (digits (n + 1) k) := by unfold numEvs; rw [← hk, List.append_assoc]
  rw [en]
  have eU : IntKind.u64.wrap ((n : Int) + 1) = (n : Int) + 1 := IntWalk.u64_in _ (by omega)
  rw [show ((n + 1 : Nat) : Int) = (n : Int) + 1 by simp] at hL
  have HL := Lib.hid hL; have HP := Lib.hid hP; have HQ := Lib.hid hQ
  clear hL hP hQ en hk hbl hb hE hs hB he hn
  go_enter Try.func45, Try.ntmps45
  go_wp2_with fail
  refine HT.out.mono ?_
  rintro r w1 ⟨rfl, rfl⟩
  go_wp2_with fail
  refine HL.out.mono ?_
  rintro r w1 ⟨rfl, rfl⟩
  clear HL HT
  go_wp2_with fail
  refine HP.out.mono ?_
  rintro r w2 ⟨rfl, h2⟩
  have HQ2 := Lib.hid (HQ.out w2 h2)
  clear h2 HQ HP
  go_wp2_with fail
  refine HQ2.out.mono ?_
  rintro r w3 ⟨rfl, h3⟩
  have H3 := Lib.hid h3
  clear h3 HQ2
  go_wp2_with fail
  go_ret
  exact ⟨rfl, H3.out⟩

theorem wrap_neg {v : Int} (hv : InI v) : ∃ m : Int, wrap64 (-v) = m ∧ (m = -v ∨ (v = -9223372036854775808 ∧ m = v)) := by
  obtain ⟨hv1, hv2⟩ := hv
  by_cases h0 : v = -9223372036854775808
  · exact ⟨v, by subst h0; decide +kernel, .inr ⟨h0, rfl⟩⟩
  · exact ⟨-v, IntWalk.wrap64_in _ (by omega), .inl rfl⟩

theorem bPutS_bad (t v : Int) (a c : Option Addr) (w : World) (hv : InI v) (h : a = none ∨ c = none ∨ ¬ (0 ≤ t ∧ t ≤ 15) ∨ v < -1048576 ∨ 1048576 < v) :
    Calls Try.prog 46 #[.pointer a, .pointer c, .int .i64 t, .int .i64 v] w fun r w' => r = .returned (.int .i64 1) ∧ w' = w := by
  obtain ⟨m, hm1, hm2⟩ := wrap_neg hv
  have h' : a = none ∨ c = none ∨ ¬ (0 ≤ t ∧ t ≤ 15) ∨ v < -1048576 ∨ 1048576 < v := h
  clear h
  by_cases hl : v < m
  · have HP := Lib.hid (bPut_bad t m a c w (by
      rcases h' with h | h | h | h
      · exact .inl h
      · exact .inr (.inl h)
      · exact .inr (.inr (.inl h))
      · exact .inr (.inr (.inr (by omega)))))
    clear h' hm2 hv
    go_enter Try.func46, Try.ntmps46
    go_wp2_with fail
    refine HP.out.mono ?_
    rintro r w1 ⟨rfl, rfl⟩
    go_wp2_with fail
    go_ret
    exact ⟨rfl, rfl⟩
  · have HP := Lib.hid (bPut_bad t v a c w (by
      rcases h' with h | h | h | h
      · exact .inl h
      · exact .inr (.inl h)
      · exact .inr (.inr (.inl h))
      · exact .inr (.inr (.inr (by omega)))))
    clear h' hm2 hv
    go_enter Try.func46, Try.ntmps46
    go_wp2_with fail
    refine HP.out.mono ?_
    rintro r w1 ⟨rfl, rfl⟩
    go_wp2_with fail
    go_ret
    exact ⟨rfl, rfl⟩

set_option maxRecDepth 20000 in
theorem bPutS_ok (N : NextSpec) (X : EncSpec) (w : World) (b p t : Nat) (v : Int) (D : List Nat) (B : Chs) (e : Enc) (hb : Bk w b B) (hE : X.En w p D e) (hs : b ∉ p :: D) (hB : FineB B) (he : e.Ok) (hn : e.n ≤ 60000) (ht : t < 16) (hv : -1048576 ≤ v ∧ v ≤ 1048576) :
    Calls Try.prog 46 #[pt b, pt p, .int .i64 (t : Int), .int .i64 v] w fun r w' => r = .returned (.int .i64 0) ∧ NibAt X w b p D t B e w' (sgnEvs v) := by
  obtain ⟨m, hm1, hm2⟩ := wrap_neg (v := v) ⟨by omega, by omega⟩
  have hm : m = -v := by omega
  clear hm2
  have hP := bPut_ok N X w b p t v.natAbs D B e hb hE hs hB he hn ht (by omega)
  have hQ := fun w1 (bit : Bool) (h : NibAt X w b p D t B e w1 (numEvs v.natAbs)) => bput_any N X w1 w b p D t 36 B e _ bit h hB he (by have := numEvs_length (v := v.natAbs) (by omega); omega) ht (by omega)
  clear hb hE hs hB he hn
  rcases Int.lt_trichotomy v 0 with h0 | h0 | h0
  · have en : ((v.natAbs : Nat) : Int) = m := by omega
    have hl : v < m := by omega
    have es : sgnEvs v = numEvs v.natAbs ++ [(some 36, true)] := by
      unfold sgnEvs signEvs
      rw [if_neg (by omega), decide_eq_true (by omega)]
    rw [en] at hP
    rw [es]
    have e1 : (v == 0) = false := by simp; omega
    have e2 : decide (v < 0) = true := by simp; omega
    have HP := Lib.hid hP
    have HQ := Lib.hid hQ
    clear hP hQ es h0 hm hv en
    go_enter Try.func46, Try.ntmps46
    go_wp2_with fail
    refine HP.out.mono ?_
    rintro r w1 ⟨rfl, h1⟩
    have HQ1 := Lib.hid (HQ.out w1 true h1)
    rw [show ((true.toNat : Nat) : Int) = 1 from rfl] at HQ1
    clear h1 HP HQ
    go_wp2_with fail
    refine HQ1.out.mono ?_
    rintro r w2 ⟨rfl, h2⟩
    have H2 := Lib.hid h2
    clear h2 HQ1
    go_wp2_with fail
    go_ret
    exact ⟨rfl, H2.out⟩
  · have en : ((v.natAbs : Nat) : Int) = v := by omega
    have hl : ¬ v < m := by omega
    have es : sgnEvs v = numEvs v.natAbs := by
      unfold sgnEvs signEvs
      rw [if_pos h0, List.append_nil]
    rw [en] at hP
    rw [es]
    have e1 : (v == 0) = true := by simp; omega
    have HP := Lib.hid hP
    clear hP hQ es h0 hm hv en
    go_enter Try.func46, Try.ntmps46
    go_wp2_with fail
    refine HP.out.mono ?_
    rintro r w1 ⟨rfl, h1⟩
    have H1 := Lib.hid h1
    clear h1 HP
    go_wp2_with fail
    go_ret
    exact ⟨rfl, H1.out⟩
  · have en : ((v.natAbs : Nat) : Int) = v := by omega
    have hl : ¬ v < m := by omega
    have es : sgnEvs v = numEvs v.natAbs ++ [(some 36, false)] := by
      unfold sgnEvs signEvs
      rw [if_neg (by omega), decide_eq_false (by omega)]
    rw [en] at hP
    rw [es]
    have e1 : (v == 0) = false := by simp; omega
    have e2 : decide (v < 0) = false := by simp; omega
    have HP := Lib.hid hP
    have HQ := Lib.hid hQ
    clear hP hQ es h0 hm hv en
    go_enter Try.func46, Try.ntmps46
    go_wp2_with fail
    refine HP.out.mono ?_
    rintro r w1 ⟨rfl, h1⟩
    have HQ1 := Lib.hid (HQ.out w1 false h1)
    rw [show ((false.toNat : Nat) : Int) = 0 from rfl] at HQ1
    clear h1 HP HQ
    go_wp2_with fail
    refine HQ1.out.mono ?_
    rintro r w2 ⟨rfl, h2⟩
    have H2 := Lib.hid h2
    clear h2 HQ1
    go_wp2_with fail
    go_ret
    exact ⟨rfl, H2.out⟩

theorem digits_ahead (n v : Nat) (_h : v < 2 ^ n) : digits (2 ^ n + v) n = digits v n := by
  have h1 : number (digits (2 ^ n + v) n) = number (digits v n) := by
    rw [number_digits, number_digits, Nat.add_mod_left]
  have h2 := digits_number (digits (2 ^ n + v) n)
  have h3 := digits_number (digits v n)
  rw [digits_length] at h2 h3
  rw [← h2, h1, h3]

end Go.Proofs.Ytendcmdpmohacaa

/-
  The document's decoder: its frame, and Get whole; conditions: the range and the place are bounded as named.
-/
namespace Go.Proofs.Ytendcmdpmohacaa
open Go.RowKit

theorem Rd.fr {w w' : World} {p : Nat} {A : Option Addr} {c : Nat} {bs : List UInt8} {d : Dec} {S : List Nat} (h : Rd w p A c bs d) (hf : Fr S w w') (h1 : p ∉ S) (h2 : ∀ ad, A = some ad → ad.block ∉ S) : Rd w' p A c bs d := by
  refine ⟨h.1.fr hf h1, h.2.1.fr hf (fun k hk => ?_), h.2.2⟩
  cases A with
  | none => simp [Value.ownBlock] at hk
  | some ad =>
    have : k = ad.block := by simpa [Value.ownBlock] using hk.symm
    rw [this]
    exact h2 ad rfl

theorem rget_total (p : Nat) (A : Option Addr) (cc : Nat) (bs : List UInt8) (d : Dec) (c : Nat) (w : World) (h : Rd w p A cc bs d) (hc : rightC c) (hr1 : 16777216 ≤ d.r) (hr2 : d.r ≤ 4294967295) (hi : d.i ≤ 1000000) :
    Calls Try.prog 88 #[pt p, .int .i64 (c : Int)] w fun e w' =>
      (∃ bit d', decGet bs d c = some (bit, d') ∧ e = .returned (.tuple #[.int .i64 (bit.toNat : Int), .int .i64 0]) ∧ Rd w' p A cc bs d' ∧ Fr [p] w w') ∨
      (decGet bs d c = none ∧ e = .returned (.tuple #[.int .i64 0, .int .i64 41]) ∧ Fr [] w w') := by
  by_cases hr : d.rest < d.r
  · exact rget_any p A cc bs d c w h hc hr hr1 hr2 hi
  · refine (rget_great p A cc bs d c w h hc (by omega)).mono ?_
    rintro e w' ⟨he, m, hw⟩
    exact .inr ⟨by unfold decGet; rw [if_neg hr], he, by rw [hw]; exact (Fr.refl _ _).drewN m⟩

/-- What getting keeps. -/
theorem got_keeps {bs : List UInt8} {d d' : Dec} {c : Nat} {b : Bool} (hg : decGet bs d c = some (b, d')) (hc : rightC c) (h1 : 16777216 ≤ d.r) (h2 : d.r ≤ 4294967295) (h3 : d.i ≤ bs.length) : 16777216 ≤ d'.r ∧ d'.r ≤ 4294967295 ∧ d'.i ≤ bs.length := by
  have b1 := bnd_lo h1 hc
  have b2 := bnd_hi h1 hc
  unfold decGet decScale decBit at hg
  by_cases hr : d.rest < bnd d.r c
  · simp only [if_pos hr] at hg
    split at hg
    · split at hg
      · split at hg
        · injection hg with hg; injection hg with _ hg; subst hg; simp only; omega
        · cases hg
      · injection hg with hg; injection hg with _ hg; subst hg; simp only; omega
    · cases hg
  · simp only [if_neg hr] at hg
    split at hg
    · split at hg
      · split at hg
        · injection hg with hg; injection hg with _ hg; subst hg; simp only; omega
        · cases hg
      · injection hg with hg; injection hg with _ hg; subst hg; simp only; omega
    · cases hg
end Go.Proofs.Ytendcmdpmohacaa

/-
  Contracts of the document's book: get.
-/
namespace Go.Proofs.Ytendcmdpmohacaa
open Go.RowKit

/-- The document's book and decoder, apart. -/
structure Eye (w : World) (q : Nat) (B : Chs) (p : Nat) (A : Option Addr) (cc : Nat) (bs : List UInt8) (d : Dec) : Prop where
  bk : Rb w q B
  de : Rd w p A cc bs d
  qp : q ≠ p
  qa : ∀ ad, A = some ad → ad.block ≠ q
  fine : FineB B
  lo : 16777216 ≤ d.r
  hi : d.r ≤ 4294967295
  at_ : d.i ≤ bs.length
theorem Eye.fr0 {w w' : World} {q p cc : Nat} {B : Chs} {A : Option Addr} {bs : List UInt8} {d : Dec} (h : Eye w q B p A cc bs d) (hf : Fr [] w w') : Eye w' q B p A cc bs d :=
  ⟨h.bk.fr hf (by simp), h.de.fr0 hf, h.qp, h.qa, h.fine, h.lo, h.hi, h.at_⟩

set_option maxRecDepth 20000 in
theorem rgetB_any (w : World) (q p t cc : Nat) (A : Option Addr) (bs : List UInt8) (d : Dec) (B : Chs) (i : Option Nat) (h : Eye w q B p A cc bs d) (ht : t < 16) (hi : ∀ j, i = some j → j < 37) (hn : bs.length ≤ 100000) :
    Calls Try.prog 78 #[pt q, pt p, .int .i64 (t : Int), .int .i64 (plI i)] w fun r w' =>
      (∃ b B' d', getEv bs t B d i = some (b, B', d') ∧ r = .returned (.tuple #[.int .i64 (b.toNat : Int), .int .i64 0]) ∧ Eye w' q B' p A cc bs d' ∧ Fr [q, p] w w') ∨
      (getEv bs t B d i = none ∧ r = .returned (.tuple #[.int .i64 0, .int .i64 41]) ∧ Fr [q, p] w w') := by
  have hc := chOf_right h.fine t i
  have hil := h.at_
  cases i with
  | none =>
    have HG := Lib.hid (rget_total p A cc bs d 1024 w h.de hc h.lo h.hi (by omega))
    have H := Lib.hid h
    clear h
    show Calls Try.prog 78 #[pt q, pt p, .int .i64 (t : Int), .int .i64 (-1)] w _
    go_enter Try.func78, Try.ntmps78
    go_wp2_with fail
    refine HG.out.mono ?_
    rintro r w1 (⟨bit, d', hg, rfl, hD, hF⟩ | ⟨hg, rfl, hF⟩)
    · have hk := got_keeps hg hc H.out.lo H.out.hi H.out.at_
      have HD := Lib.hid hD; have HF := Lib.hid hF; have Hg := Lib.hid hg
      clear hD hF hg HG
      go_wp2_with fail
      go_ret2
      refine .inl ⟨bit, B, d', ?_, rfl, ⟨H.out.bk.fr HF.out (by simp; exact H.out.qp), HD.out, H.out.qp, H.out.qa, H.out.fine, hk.1, hk.2.1, hk.2.2⟩, HF.out.mono (by simp)⟩
      unfold getEv chOf
      rw [Hg.out]
      rfl
    · have HF := Lib.hid hF; have Hg := Lib.hid hg
      clear hF hg HG
      go_wp2_with fail
      go_ret2
      refine .inr ⟨?_, rfl, HF.out.mono (by simp)⟩
      unfold getEv chOf
      rw [Hg.out]
  | some i =>
    have hi37 := hi i rfl
    obtain ⟨c, hcc⟩ : ∃ c, c = B (37 * t + i) := ⟨_, rfl⟩
    have hcr : rightC c := by rw [hcc]; exact hc
    have hG := rget_total p A cc bs d c w h.de hcr h.lo h.hi (by omega)
    have hb := h.bk.cell (j := t * 37 + i) (by omega)
    have ka : w.cell? ⟨q, t * 37 + i, none⟩ = some (.int .i64 (c : Int)) := by rw [hb, hcc, show t * 37 + i = 37 * t + i by omega]
    have e1 : decide ((i : Int) < 0) = false := by simp
    have HG := Lib.hid hG
    have H := Lib.hid h
    have Hc := Lib.hid hcc
    clear h hG hb hcc hc hi
    show Calls Try.prog 78 #[pt q, pt p, .int .i64 (t : Int), .int .i64 (i : Int)] w _
    go_enter Try.func78, Try.ntmps78
    go_wp2_with fail
    refine HG.out.mono ?_
    rintro r w1 (⟨bit, d', hg, rfl, hD, hF⟩ | ⟨hg, rfl, hF⟩)
    · have hk := got_keeps hg hcr H.out.lo H.out.hi H.out.at_
      have hbk1 : Rb w1 q B := H.out.bk.fr hF (by simp; exact H.out.qp)
      have kb1 : w1.drew.cell? ⟨q, t * 37 + i, none⟩ = some (.int .i64 (c : Int)) := by
        have := hbk1.cell (j := t * 37 + i) (by omega)
        rw [show t * 37 + i = 37 * t + i by omega, ← Hc.out] at this
        rw [show t * 37 + i = 37 * t + i by omega]
        exact this
      have kf1 : w1.drew.frozen? ⟨q, t * 37 + i, none⟩ = false := Blk.frozen hbk1 _
      have hN := fun W => rnext_any c (bit.toNat : Int) W (by have := hcr.2; omega)
      have hbb : ((bit.toNat : Int) != 0) = bit := by cases bit <;> rfl
      rw [hbb] at hN
      obtain ⟨y, hy⟩ : ∃ y, y = nextC c bit := ⟨_, rfl⟩
      rw [← hy] at hN
      have HN := Lib.hid hN
      have Hy := Lib.hid hy
      have Hk := Lib.hid hk
      have HD := Lib.hid hD; have HF := Lib.hid hF; have Hg := Lib.hid hg; have HB1 := Lib.hid hbk1
      clear hD hF hg HG hk hbk1 hN hy hbb ka
      go_upto_region 5 with fail
      have q1 : (t : Int) < 16 := by omega
      have q2 : (i : Int) < 37 := by omega
      refine wp_region_held_drew (S := fun _ => True) (by kernel_rfl) ?_ (fun hHeld => ?_)
      · trivial
      refine wpAnyH_pick 0 (v := ?_) rfl (by kernel_rfl) (by kernel_rfl) (by kernel_rfl) (fun _ _ _ h => h) (by assumption) (by rfl) ?_ ?_
      rotate_left
      · (intro w hSw; (try dsimp only at hSw); go_simp) <;> (with_reducible rfl)
      (try simp only [Act.put, List.setIfInBounds_toArray, List.set_cons_zero, List.set_cons_succ])
      refine wpAnyH_pick 1 (v := ?_) rfl (by kernel_rfl) (by kernel_rfl) (by kernel_rfl) (fun _ _ _ h => h) (by assumption) (by rfl) ?_ ?_
      rotate_left
      · (intro w hSw; (try dsimp only at hSw); go_simp) <;> (with_reducible rfl)
      (try simp only [Act.put, List.setIfInBounds_toArray, List.set_cons_zero, List.set_cons_succ])
      refine wpAnyH_pick 2 (v := ?_) rfl (by kernel_rfl) (by kernel_rfl) (by kernel_rfl) (fun _ _ _ h => h) (by assumption) (by rfl) ?_ ?_
      rotate_left
      · (intro w hSw; (try dsimp only at hSw); go_simp) <;> (with_reducible rfl)
      (try simp only [Act.put, List.setIfInBounds_toArray, List.set_cons_zero, List.set_cons_succ])
      refine wpAnyH_pick 3 (v := ?_) rfl (by kernel_rfl) (by kernel_rfl) (by kernel_rfl) (fun _ _ _ h => h) (by assumption) (by rfl) ?_ ?_
      rotate_left
      · (intro w hSw; (try dsimp only at hSw); go_simp) <;> (with_reducible rfl)
      (try simp only [Act.put, List.setIfInBounds_toArray, List.set_cons_zero, List.set_cons_succ])
      refine wpAnyH_pick 4 (v := ?_) rfl (by kernel_rfl) (by kernel_rfl) (by kernel_rfl) (fun _ _ _ h => h) (by assumption) (by rfl) ?_ ?_
      rotate_left
      · (intro w hSw; (try dsimp only at hSw); go_simp) <;> (with_reducible rfl)
      (try simp only [Act.put, List.setIfInBounds_toArray, List.set_cons_zero, List.set_cons_succ])
      refine wpAnyH_pick 5 (v := ?_) rfl (by kernel_rfl) (by kernel_rfl) (by kernel_rfl) (fun _ _ _ h => h) (by assumption) (by rfl) ?_ ?_
      rotate_left
      · (intro w hSw; (try dsimp only at hSw); go_simp) <;> (with_reducible rfl)
      (try simp only [Act.put, List.setIfInBounds_toArray, List.set_cons_zero, List.set_cons_succ])
      refine wpAnyH_pick 6 (v := ?_) rfl (by kernel_rfl) (by kernel_rfl) (by kernel_rfl) (fun _ _ _ h => h) (by assumption) (by rfl) ?_ ?_
      rotate_left
      · (intro w hSw; (try dsimp only at hSw); go_simp) <;> (with_reducible rfl)
      (try simp only [Act.put, List.setIfInBounds_toArray, List.set_cons_zero, List.set_cons_succ])
      refine wpAnyH_pick 7 (v := ?_) rfl (by kernel_rfl) (by kernel_rfl) (by kernel_rfl) (fun _ _ _ h => h) (by assumption) (by rfl) ?_ ?_
      rotate_left
      · (intro w hSw; (try dsimp only at hSw); go_simp) <;> (with_reducible rfl)
      (try simp only [Act.put, List.setIfInBounds_toArray, List.set_cons_zero, List.set_cons_succ])
      refine wpAnyH_pick 8 (v := ?_) rfl (by kernel_rfl) (by kernel_rfl) (by kernel_rfl) (fun _ _ _ h => h) (by assumption) (by rfl) ?_ ?_
      rotate_left
      · (intro w hSw; (try dsimp only at hSw); go_simp) <;> (with_reducible rfl)
      (try simp only [Act.put, List.setIfInBounds_toArray, List.set_cons_zero, List.set_cons_succ])
      refine wpAnyH_pick 9 (v := ?_) rfl (by kernel_rfl) (by kernel_rfl) (by kernel_rfl) (fun _ _ _ h => h) (by assumption) (by rfl) ?_ ?_
      rotate_left
      · (intro w hSw; (try dsimp only at hSw); go_simp) <;> (with_reducible rfl)
      (try simp only [Act.put, List.setIfInBounds_toArray, List.set_cons_zero, List.set_cons_succ])
      refine wpAnyH_pick 11 (v := ?_) rfl (by kernel_rfl) (by kernel_rfl) (by kernel_rfl) (fun _ _ _ h => h) (by assumption) (by rfl) ?_ ?_
      rotate_left
      · (intro w hSw; (try dsimp only at hSw); go_simp) <;> (with_reducible rfl)
      (try simp only [Act.put, List.setIfInBounds_toArray, List.set_cons_zero, List.set_cons_succ])
      refine wpAnyH_pick 13 (v := ?_) rfl (by kernel_rfl) (by kernel_rfl) (by kernel_rfl) (fun _ _ _ h => h) (by assumption) (by rfl) ?_ ?_
      rotate_left
      · (intro w hSw; (try dsimp only at hSw); go_simp) <;> (with_reducible rfl)
      (try simp only [Act.put, List.setIfInBounds_toArray, List.set_cons_zero, List.set_cons_succ])
      refine wpAnyH_pick 14 (v := ?_) rfl (by kernel_rfl) (by kernel_rfl) (by kernel_rfl) (fun _ _ _ h => h) (by assumption) (by rfl) ?_ ?_
      rotate_left
      · (intro w hSw; (try dsimp only at hSw); go_simp) <;> (with_reducible rfl)
      (try simp only [Act.put, List.setIfInBounds_toArray, List.set_cons_zero, List.set_cons_succ])
      refine wpAnyH_pick 15 (v := ?_) rfl (by kernel_rfl) (by kernel_rfl) (by kernel_rfl) (fun _ _ _ h => h) (by assumption) (by rfl) ?_ ?_
      rotate_left
      · (intro w hSw; (try dsimp only at hSw); go_simp) <;> (with_reducible rfl)
      (try simp only [Act.put, List.setIfInBounds_toArray, List.set_cons_zero, List.set_cons_succ])
      refine wpAnyH_ready (rs := [10]) (by kernel_rfl) (by simp) ?_
      refine AllReadyH_pick rfl (fun K hK => ?_) (AllReadyH.nil)
      skip
      go_simp
      refine hK.out _ _ ?_ (fun hHeld => ?_)
      · trivial
      clear hK K
      (try simp only [Act.put, List.setIfInBounds_toArray, List.set_cons_zero, List.set_cons_succ])
      refine wpAnyH_ready (rs := [12]) (by kernel_rfl) (by simp) ?_
      refine AllReadyH_pick rfl (fun K hK => ?_) (AllReadyH.nil)
      go_simp
      refine (HN.out _).mono ?_
      rintro r1 wN ⟨rfl, rfl⟩
      go_wp2_with fail
      refine hK.out _ _ ?_ (fun hHeld => ?_)
      · trivial
      clear hK K
      (try simp only [Act.put, List.setIfInBounds_toArray, List.set_cons_zero, List.set_cons_succ])
      refine wpAnyH_pick 16 (v := ?_) rfl (by kernel_rfl) (by kernel_rfl) (by kernel_rfl) (fun _ _ _ h => h) (by assumption) (by rfl) ?_ ?_
      rotate_left
      · (intro w hSw; (try dsimp only at hSw); go_simp) <;> (with_reducible rfl)
      (try simp only [Act.put, List.setIfInBounds_toArray, List.set_cons_zero, List.set_cons_succ])
      refine wpAnyH_ready (rs := [17]) (by kernel_rfl) (by simp) ?_
      refine AllReadyH_pick rfl (fun K hK => ?_) (AllReadyH.nil)
      skip
      go_simp
      refine hK.out _ _ ?_ (fun hHeld => ?_)
      · trivial
      clear hK K
      (try simp only [Act.put, List.setIfInBounds_toArray, List.set_cons_zero, List.set_cons_succ])
      refine wpAnyH_done (by kernel_rfl) ?_ _
      skip
      go_wp2_with fail
      go_ret2
      have hF2 : Fr [q] w1 (w1.setCell ⟨q, t * 37 + i, none⟩ (.int .i64 (y : Int))).drew := ((Fr.refl [q] w1).setCell (.inl (by simp)) _).drew
      have hl : learn B t (some i) bit = upd B (t * 37 + i) y := by
        show upd B (37 * t + i) (nextC (B (37 * t + i)) bit) = _
        rw [Hy.out, Hc.out, show t * 37 + i = 37 * t + i by omega]
      refine .inl ⟨bit, learn B t (some i) bit, d', ?_, rfl, ⟨?_, ?_, H.out.qp, H.out.qa, learn_fine H.out.fine t _ bit, Hk.out.1, Hk.out.2.1, Hk.out.2.2⟩, ?_⟩
      · unfold getEv
        rw [show chOf B t (some i) = c from Hc.out.symm, Hg.out]
      · rw [hl]
        exact (HB1.out.set (t * 37 + i) y).drew
      · exact HD.out.fr hF2 (by simp; exact fun e => H.out.qp e.symm) (fun ad had => by simp; exact H.out.qa ad had)
      · exact (HF.out.mono (by simp)).trans hF2 (by simp)
    · have HF := Lib.hid hF; have Hg := Lib.hid hg
      clear hF hg HG ka
      go_wp2_with fail
      go_ret2
      refine .inr ⟨?_, rfl, HF.out.mono (by simp)⟩
      unfold getEv
      rw [show chOf B t (some i) = c from Hc.out.symm, Hg.out]
end Go.Proofs.Ytendcmdpmohacaa

/-
  Contracts of the document's book: Get.
-/
namespace Go.Proofs.Ytendcmdpmohacaa
open Go.RowKit

def GotPost (q p : Nat) (A : Option Addr) (cc : Nat) (bs : List UInt8) (w : World) (g : Got) (r : Ending) (w' : World) : Prop :=
  match g with
  | .bad e => r = .returned (.tuple #[.int .i64 0, .int .i64 e]) ∧ Fr [q, p] w w'
  | .ok v B d => r = .returned (.tuple #[.int .i64 v, .int .i64 0]) ∧ Eye w' q B p A cc bs d ∧ Fr [q, p] w w'

theorem rGet_bad (t : Int) (a b : Value) (w : World) (h : ¬ (0 ≤ t ∧ t ≤ 15)) :
    Calls Try.prog 55 #[a, b, .int .i64 t] w fun r w' => r = .returned (.tuple #[.int .i64 0, .int .i64 1]) ∧ w' = w := by
  have HT := rtopic_any t w
  rw [decide_eq_false h] at HT
  have HT := Lib.hid HT
  go_enter Try.func55, Try.ntmps55
  go_wp2_with fail
  refine HT.out.mono ?_
  rintro r w1 ⟨rfl, rfl⟩
  go_wp2_with fail
  go_ret2
  exact ⟨rfl, rfl⟩

set_option maxRecDepth 20000 in
set_option maxHeartbeats 4000000 in
theorem rGet_any (w : World) (q p t cc : Nat) (A : Option Addr) (bs : List UInt8) (d : Dec) (B : Chs) (h : Eye w q B p A cc bs d) (ht : t < 16) (hn : bs.length ≤ 100000) :
    Calls Try.prog 55 #[pt q, pt p, .int .i64 (t : Int)] w (GotPost q p A cc bs w (getNum bs t B d)) := by
  have HT := rtopic_any t w
  rw [decide_eq_true (by omega : 0 ≤ (t : Int) ∧ (t : Int) ≤ 15)] at HT
  have HT := Lib.hid HT
  obtain ⟨g, hg⟩ : ∃ g, g = getNum bs t B d := ⟨_, rfl⟩
  rw [← hg]
  have Hg := Lib.hid hg
  have H := Lib.hid h
  clear h hg
  go_enter Try.func55, Try.ntmps55
  go_wp2_with fail
  refine HT.out.mono ?_
  rintro r w1 ⟨rfl, rfl⟩
  clear HT
  go_wp2_with fail
  go_loopw [9] (fun s9 wr => ∃ (x : Nat) (B1 : Chs) (d1 : Dec), 1 ≤ x ∧ x ≤ 21 ∧ s9 = .int .i64 (x : Int) ∧ getLen bs t (21 - x) (x - 1) B1 d1 = getLen bs t 20 0 B d ∧ Eye wr q B1 p A cc bs d1 ∧ Fr [q, p] w1 wr) (fun s9 _ => 21 - (intOf s9).toNat)
  case atStart => exact ⟨1, B, d, by omega, by omega, rfl, rfl, H.out, Fr.refl _ _⟩
  case round =>
    obtain ⟨x, B1, d1, hx1, hx2, rfl, hL, hE, hF⟩ := hrel
    have HL := Lib.hid hL; have HE := Lib.hid hE; have HF := Lib.hid hF
    clear hL hE hF H
    rcases Nat.lt_or_ge x 21 with h21 | h21
    case' inl =>
      have e1 : decide ((x : Int) < 21) = true := by simp; omega
      have hG := rgetB_any wr q p t cc A bs d1 B1 (some (x - 1)) HE.out ht (fun j hj => by injection hj with hj; omega) hn
      rw [show plI (some (x - 1)) = (x : Int) - 1 from (by show ((x - 1 : Nat) : Int) = _; omega)] at hG
      have HG := Lib.hid hG
      have hstep : getLen bs t (21 - x) (x - 1) B1 d1 = match getEv bs t B1 d1 (some (x - 1)) with | none => none | some (b, B', d') => if b then getLen bs t (21 - (x + 1)) (x + 1 - 1) B' d' else some (x - 1, B', d') := by
        rw [show 21 - x = (21 - (x + 1)) + 1 by omega, show x + 1 - 1 = (x - 1) + 1 by omega]
        rfl
      have Hstep := Lib.hid hstep
      clear hG hstep
      go_wp2_with fail
      refine HG.out.mono ?_
      rintro r1 w2 (⟨bit, B2, d2, hge, rfl, hE2, hF2⟩ | ⟨hge, rfl, hF2⟩)
      rotate_left
      · have HF2 := Lib.hid (HF.out.trans hF2 (by simp))
        have hgb : g = .bad 41 := by
          rw [Hg.out]
          unfold getNum
          rw [← HL.out, Hstep.out, hge]
        have Hgb := Lib.hid hgb
        clear hF2 hge hgb HG
        go_wp2_with fail
        go_ret2
        rw [Hgb.out]
        exact ⟨rfl, HF2.out⟩
      have hLs := Hstep.out
      rw [hge, HL.out] at hLs
      have hF3 := HF.out.trans hF2 (by simp)
      have hEW := hE2
      cases bit with
      | true =>
        have HLs := Lib.hid hLs; have HF3 := Lib.hid hF3; have HE2 := Lib.hid hE2
        clear hge hLs hF3 hE2 hEW hF2 HG
        go_wp2_with fail
        exact ⟨⟨x + 1, B2, d2, by omega, by omega, by simp, HLs.out.symm, HE2.out, HF3.out⟩, by simp [intOf]; omega⟩
      | false => ?_
      have hres : getLen bs t 20 0 B d = some (x - 1, B2, d2) := hLs
      clear hLs hge hEW hF2
      have HR := Lib.hid hres; have HF3 := Lib.hid hF3; have HE3 := Lib.hid hE2
      clear hres hF3 hE2 HG Hstep HL HE HF
      go_upto_region 11 with fail
    case' inr =>
      have e1 : decide ((x : Int) < 21) = false := by simp; omega
      have hres : getLen bs t 20 0 B d = some (x - 1, B1, d1) := by
        have := HL.out
        rw [show 21 - x = 0 by omega] at this
        exact this.symm
      have HR := Lib.hid hres; have HF3 := HF; have HE3 := HE
      clear hres HL HE HF
      go_upto_region 11 with fail
      generalize wr = w2 at HF3 HE3 ⊢
      generalize B1 = B2 at HR HE3
      generalize d1 = d2 at HR HE3
    all_goals
      clear e1 h21 HT
      go_wp2_with fail
      go_loopw [12, 13] (fun s12 s13 wx => ∃ (i a V : Nat) (B3 : Chs) (d3 : Dec), i ≤ x - 1 ∧ a < 2 ^ i ∧ V = 2 ^ i + a ∧ s12 = .int .i64 (V : Int) ∧ s13 = .int .i64 (i : Int) ∧ getBits bs t (x - 1 - i) i a B3 d3 = getBits bs t (x - 1) 0 0 B2 d2 ∧ Eye wx q B3 p A cc bs d3 ∧ Fr [q, p] w1 wx) (fun _ s13 _ => 20 - (intOf s13).toNat)
      case atStart => exact ⟨0, 0, 1, B2, d2, by omega, by decide, rfl, rfl, rfl, rfl, HE3.out, HF3.out⟩
      case round =>
        obtain ⟨i, a, V, B3, d3, hi, ha, hV, rfl, rfl, hL, hE, hF⟩ := hrel
        have HL := Lib.hid hL; have HE := Lib.hid hE; have HF := Lib.hid hF; have HV := Lib.hid hV; have Ha := Lib.hid ha
        have hP20 : 2 ^ i ≤ 1048576 := Nat.pow_le_pow_right (n := 2) (i := i) (j := 20) (by omega) (by omega)
        obtain ⟨P, hP⟩ : ∃ P, P = 2 ^ i := ⟨_, rfl⟩
        have hVb : V ≤ 2097152 := by omega
        have hPV : P ≤ V := by omega
        rw [← hP] at hP20
        have HP := Lib.hid hP
        clear hL hE hF HF3 HE3 hV ha hP
        rcases Nat.lt_or_ge i (x - 1) with hix | hix
        · have e2 : decide ((i : Int) < (x : Int) - 1) = true := by simp; omega
          have eP : wrap64 ((2 : Int) ^ i) = (P : Int) := by
            rw [HP.out, show ((2 ^ i : Nat) : Int) = (2 : Int) ^ i by simp]
            have h1 : ((2 ^ i : Nat) : Int) = (2 : Int) ^ i := by simp
            have h2 := HP.out
            exact IntWalk.wrap64_in _ (by omega)
          have eVa : wrap64 ((V : Int) - (P : Int)) = (a : Int) := by
            have h1 := HV.out
            have h2 := HP.out
            have : (V : Int) - (P : Int) = (a : Int) := by omega
            rw [this]
            exact IntWalk.wrap64_in _ (by have := Ha.out; omega)
          have hPl := rplace_any i a wr (by omega) (by have := Ha.out; have := HP.out; omega)
          have hG := rgetB_any wr q p t cc A bs d3 B3 (place i a) HE.out ht (place_lt Ha.out) hn
          have hstep : getBits bs t (x - 1 - i) i a B3 d3 = match getEv bs t B3 d3 (place i a) with | none => none | some (b, B', d') => getBits bs t (x - 1 - (i + 1)) (i + 1) (2 * a + b.toNat) B' d' := by
            rw [show x - 1 - i = (x - 1 - (i + 1)) + 1 by omega]
            rfl
          obtain ⟨z, hz⟩ : ∃ z, z = plI (place i a) := ⟨_, rfl⟩
          rw [← hz] at hPl hG
          have HPl := Lib.hid hPl; have HG := Lib.hid hG; have Hstep := Lib.hid hstep
          have HeP := Lib.hid eP; have HeV := Lib.hid eVa
          clear hPl hG hstep hz eP eVa
          go_wp2_with fail
          rw [HeP.out, HeV.out]
          refine HPl.out.mono ?_
          rintro r1 w3 ⟨rfl, rfl⟩
          go_wp2_with fail
          refine HG.out.mono ?_
          rintro r1 w4 (⟨bit, B4, d4, hge, rfl, hE4, hF4⟩ | ⟨hge, rfl, hF4⟩)
          · have hLs := HL.out
            rw [Hstep.out, hge] at hLs
            have HLs := Lib.hid hLs
            have HF4 := Lib.hid (HF.out.trans hF4 (by simp))
            have HE4 := Lib.hid hE4
            have hb2 := Bool.toNat_le bit
            have hbV : ∃ V' : Nat, V' = 2 * V + bit.toNat := ⟨_, rfl⟩
            obtain ⟨V', hV'⟩ := hbV
            have HV' := Lib.hid hV'
            have eV' : 2 * (V : Int) + (bit.toNat : Int) = (V' : Int) := by omega
            clear hLs hge hE4 hF4 HG HPl hV'
            go_wp2_with fail
            refine ⟨⟨i + 1, 2 * a + bit.toNat, V', B4, d4, by omega, ?_, ?_, rfl, by simp, HLs.out, HE4.out, HF4.out⟩, by simp [intOf]; omega⟩
            · have := Ha.out
              rw [Nat.pow_succ]
              omega
            · have h1 := HV'.out
              have h2 := HV.out
              rw [Nat.pow_succ]
              omega
          · have HF4 := Lib.hid (HF.out.trans hF4 (by simp))
            have hgb : g = .bad 41 := by
              have hLs := HL.out
              rw [Hstep.out, hge] at hLs
              rw [Hg.out]
              unfold getNum
              rw [HR.out]
              simp only
              rw [← hLs]
            have Hgb := Lib.hid hgb
            clear hF4 hge hgb HG HPl
            go_wp2_with fail
            go_ret2
            rw [Hgb.out]
            exact ⟨rfl, HF4.out⟩
        · have e2 : decide ((i : Int) < (x : Int) - 1) = false := by simp; omega
          have hix2 : i = x - 1 := by omega
          have hLs := HL.out
          rw [hix2, Nat.sub_self] at hLs
          have hgn : g = if 1048576 < V - 1 then .bad 51 else .ok ((V - 1 : Nat) : Int) B3 d3 := by
            rw [Hg.out]
            unfold getNum
            rw [HR.out]
            simp only
            rw [← hLs]
            have h2 := HV.out
            rw [hix2] at h2
            rw [h2]
            rfl
          have hV1 : 1 ≤ V := by
            have := HV.out
            have := Nat.two_pow_pos i
            omega
          rcases Nat.lt_or_ge 1048576 (V - 1) with hb | hb
          · have e3 : decide (1048576 < (V : Int) - 1) = true := by simp; omega
            rw [if_pos hb] at hgn
            have Hgn := Lib.hid hgn
            clear hgn hLs hix2 hix hb
            go_wp2_with fail
            go_ret2
            rw [Hgn.out]
            exact ⟨rfl, HF.out⟩
          · have e3 : decide (1048576 < (V : Int) - 1) = false := by simp; omega
            rw [if_neg (by omega)] at hgn
            have Hgn := Lib.hid hgn
            have eV1 : ((V - 1 : Nat) : Int) = (V : Int) - 1 := by omega
            have HeV1 := Lib.hid eV1
            clear hgn hLs hix2 hix hb eV1
            go_wp2_with fail
            go_ret2
            rw [Hgn.out]
            refine ⟨?_, HE.out, HF.out⟩
            rw [HeV1.out]
            rfl
end Go.Proofs.Ytendcmdpmohacaa

/-
  Contracts of the document's book: GetOne.
-/
namespace Go.Proofs.Ytendcmdpmohacaa
open Go.RowKit

end Go.Proofs.Ytendcmdpmohacaa

/-
  The laws' acts of a book, and of the document's: which function an act calls. No condition.
-/
namespace Go.Proofs.Ytendcmdpmohacaa
open Go.RowKit

end Go.Proofs.Ytendcmdpmohacaa

/-
  Contracts of the document's book: PutSigned, PutOne.
-/
namespace Go.Proofs.Ytendcmdpmohacaa
open Go.RowKit

theorem rPutSigned_bad (t v : Int) (a b : Value) (w : World) (h : ¬ (0 ≤ t ∧ t ≤ 15) ∨ v < -1048576 ∨ 1048576 < v) (hv1 : -9223372036854775808 ≤ v) (hv2 : v ≤ 9223372036854775807) :
    Calls Try.prog 49 #[a, b, .int .i64 t, .int .i64 v] w fun r w' => r = .returned (.int .i64 1) ∧ w' = w := by
  by_cases h1 : v < -1048576
  · have e1 : decide (v < -1048576) = true := by simpa using h1
    go_enter Try.func49, Try.ntmps49
    go_wp2_with fail
    go_ret
    exact ⟨rfl, rfl⟩
  · have e1 : decide (v < -1048576) = false := by simpa using h1
    by_cases h2 : 1048576 < v
    · have e2 : decide (1048576 < v) = true := by simpa using h2
      go_enter Try.func49, Try.ntmps49
      go_wp2_with fail
      go_ret
      exact ⟨rfl, rfl⟩
    · have e2 : decide (1048576 < v) = false := by simpa using h2
      by_cases h3 : 0 ≤ v
      · have q1 : -v ≤ v := by omega
        have HB := Lib.hid (rPut_bad t v a b w (by omega))
        go_enter Try.func49, Try.ntmps49
        go_wp2_with fail
        refine HB.out.mono ?_
        rintro r w1 ⟨rfl, rfl⟩
        go_wp2_with fail
        go_ret
        exact ⟨rfl, rfl⟩
      · have q1 : ¬ (-v ≤ v) := by omega
        have HB := Lib.hid (rPut_bad t (-v) a b w (by omega))
        go_enter Try.func49, Try.ntmps49
        go_wp2_with fail
        refine HB.out.mono ?_
        rintro r w1 ⟨rfl, rfl⟩
        go_wp2_with fail
        go_ret
        exact ⟨rfl, rfl⟩

theorem PenAt.len {w0 W : World} {q p t : Nat} {v0 : Value} {B : Chs} {e : Enc} {l m : List Ev} (h : PenAt w0 q p t v0 B e W l) (k : m = l) : PenAt w0 q p t v0 B e W m := k ▸ h

theorem rPutSigned_ok (w : World) (q p t : Nat) (x : Int) (v : Value) (B : Chs) (e : Enc) (h : Pen w q B p v e) (ht : t < 16) (h1 : -1048576 ≤ x) (h2 : x ≤ 1048576) (he : e.n ≤ 90000) :
    Calls Try.prog 49 #[pt q, pt p, .int .i64 (t : Int), .int .i64 x] w fun r w' => r = .returned (.int .i64 0) ∧ PenAt w q p t v B e w' (sgnEvs x) := by
  have e1 : decide (x < -1048576) = false := by simp; omega
  have e2 : decide (1048576 < x) = false := by simp; omega
  have hlen := numEvs_length (v := x.natAbs) (by omega)
  have HP := rPut_ok w q p t x.natAbs v B e h ht (by omega) he
  by_cases h3 : 0 ≤ x
  · have q1 : -x ≤ x := by omega
    rw [show ((x.natAbs : Nat) : Int) = x by omega] at HP
    have HP := Lib.hid HP
    by_cases h4 : 0 < x
    · have e3 : decide (0 < x) = true := by simpa using h4
      have e4 : decide (x < 0) = false := by simp; omega
      have hs : sgnEvs x = numEvs x.natAbs ++ [(some 36, false)] := by
        unfold sgnEvs signEvs
        rw [if_neg (by omega), e4]
      have Hs := Lib.hid hs
      clear hs h
      go_enter Try.func49, Try.ntmps49
      go_wp2_with fail
      refine HP.out.mono ?_
      rintro r w1 ⟨rfl, hA⟩
      have HPut := Lib.hid (hA.put (some 36) false ht (fun j hj => by injection hj with hj; omega) (by omega))
      have hpl : plI (some 36) = 36 := rfl
      rw [hpl, show ((false.toNat : Nat) : Int) = 0 from rfl, ← Hs.out] at HPut
      clear hpl hA HP
      go_wp2_with fail
      refine HPut.out.mono ?_
      rintro r1 w2 ⟨rfl, hA2⟩
      have HA2 := Lib.hid hA2
      clear hA2 HPut
      go_wp2_with fail
      go_ret
      exact ⟨rfl, HA2.out⟩
    · have e3 : decide (0 < x) = false := by simpa using h4
      have e4 : decide (x < 0) = false := by simp; omega
      have hs : sgnEvs x = numEvs x.natAbs := by
        unfold sgnEvs signEvs
        rw [if_pos (by omega), List.append_nil]
      have Hs := Lib.hid hs
      clear hs h
      go_enter Try.func49, Try.ntmps49
      go_wp2_with fail
      refine HP.out.mono ?_
      rintro r w1 ⟨rfl, hA⟩
      have HA := Lib.hid (hA.len Hs.out)
      clear hA HP
      go_wp2_with fail
      go_ret
      exact ⟨rfl, HA.out⟩
  · have q1 : ¬ (-x ≤ x) := by omega
    rw [show ((x.natAbs : Nat) : Int) = -x by omega] at HP
    have HP := Lib.hid HP
    have e3 : decide (0 < x) = false := by simp; omega
    have e4 : decide (x < 0) = true := by simp; omega
    have hs : sgnEvs x = numEvs x.natAbs ++ [(some 36, true)] := by
      unfold sgnEvs signEvs
      rw [if_neg (by omega), e4]
    have Hs := Lib.hid hs
    clear hs h
    go_enter Try.func49, Try.ntmps49
    go_wp2_with fail
    refine HP.out.mono ?_
    rintro r w1 ⟨rfl, hA⟩
    have HPut := Lib.hid (hA.put (some 36) true ht (fun j hj => by injection hj with hj; omega) (by omega))
    have hpl : plI (some 36) = 36 := rfl
    rw [hpl, show ((true.toNat : Nat) : Int) = 1 from rfl, ← Hs.out] at HPut
    clear hpl hA HP
    go_wp2_with fail
    refine HPut.out.mono ?_
    rintro r1 w2 ⟨rfl, hA2⟩
    have HA2 := Lib.hid hA2
    clear hA2 HPut
    go_wp2_with fail
    go_ret
    exact ⟨rfl, HA2.out⟩
end Go.Proofs.Ytendcmdpmohacaa

/-
  A book and an encoder in memory that is new since the law's beginning; what an act makes of them, out of the book's contracts; the document's likewise.
-/
namespace Go.Proofs.Ytendcmdpmohacaa
open Go.RowKit

/-! What an act answers, and what it makes of the chances and of the code. -/
def errOf (a : Act5) : Int := match evsOf a with | none => 1 | some _ => 0
def bkAct (a : Act5) (B : Chs) : Chs := match evsOf a with | none => B | some l => learned (topicOf a) B l
def enAct (a : Act5) (B : Chs) (e : Enc) : Enc := match evsOf a with | none => e | some l => puts e (track (topicOf a) B l)
theorem bkAct_fine {a : Act5} {B : Chs} (h : FineB B) : FineB (bkAct a B) := by
  unfold bkAct
  split
  · exact h
  · exact learned_fine _ _ h
theorem enAct_ok {a : Act5} {B : Chs} {e : Enc} (h : FineB B) (he : e.Ok) : (enAct a B e).Ok := by
  unfold enAct
  split
  · exact he
  · exact puts_ok he (track_rights _ _ h)
theorem enAct_n (a : Act5) (B : Chs) (e : Enc) : (enAct a B e).n ≤ e.n + 42 := by
  unfold enAct
  split
  · omega
  · rename_i l h
    have h1 := puts_n (track (topicOf a) B l) e
    have h2 := actEvs_length h
    rw [track_length] at h1
    omega
theorem errOf_cases (a : Act5) : (errOf a = 0 ∧ ∃ l, evsOf a = some l) ∨ (errOf a = 1 ∧ evsOf a = none ∧ ∀ B e, bkAct a B = B ∧ enAct a B e = e) := by
  unfold errOf bkAct enAct
  cases h : evsOf a with
  | none => exact .inr ⟨rfl, rfl, fun _ _ => ⟨rfl, rfl⟩⟩
  | some l => exact .inl ⟨rfl, l, rfl⟩
theorem evsOf_topic {a : Act5} {l : List Ev} (h : evsOf a = some l) : topicOf a < 16 ∧ (a.2.1 = (topicOf a : Int)) := by
  unfold evsOf actEvs at h
  unfold topicOf
  split at h
  · cases h
  · omega

section
variable {X : EncSpec} {Y : DecSpec} {w0 w w1 w' : World} {b : Nat} {B B' : Chs} {p : Nat} {D D' : List Nat} {e e' : Enc}
end

/-- An act put by the document's book. -/
def PenPost (w : World) (q m : Nat) (v : Value) (B : Chs) (e : Enc) (a : Act5) (r : Ending) (w' : World) : Prop :=
  r = .returned (.int .i64 (errOf a)) ∧ ∃ v', Pen w' q (bkAct a B) m v' (enAct a B e) ∧ PenFr q m v v' w w'
theorem PenAt.posted {w w1 w' : World} {q m : Nat} {v : Value} {B : Chs} {e : Enc} {a : Act5} {r : Ending} {l : List Ev} (hf : Fr [] w w1) (hl : evsOf a = some l) (hr : r = .returned (.int .i64 0)) (h : PenAt w1 q m (topicOf a) v B e w' l) : PenPost w q m v B e a r w' := by
  unfold PenPost errOf bkAct enAct
  rw [hl]
  obtain ⟨v', h1, h2⟩ := h
  refine ⟨hr, v', h1, (hf.mono (by simp)).trans h2.1 (fun x hx => .inl hx), ?_⟩
  rcases h2.2 with h3 | ⟨g, h3, h4⟩
  · exact .inl h3
  · exact .inr ⟨g, h3, Nat.le_trans hf.size h4⟩
theorem Pen.refused {w w1 : World} {q m : Nat} {v : Value} {B : Chs} {e : Enc} {a : Act5} {r : Ending} (h : Pen w q B m v e) (hf : Fr [] w w1) (hl : evsOf a = none) (hr : r = .returned (.int .i64 1)) : PenPost w q m v B e a r w1 := by
  unfold PenPost errOf bkAct enAct
  rw [hl]
  exact ⟨hr, v, h.fr0 hf, hf.mono (by simp), .inl rfl⟩
section
variable {X : EncSpec} {Y : DecSpec} {w0 w w' w2 : World} {b : Nat} {B : Chs} {p : Nat} {D : List Nat} {e : Enc} {q m : Nat} {v : Value} {a : Act5} {r : Ending}
theorem Pen.frS {S : List Nat} (h : Pen w q B m v e) (hf : Fr S w w') (h1 : q ∉ S) (h2 : m ∉ S) (h3 : ∀ k, v.ownBlock = some k → k ∉ S) : Pen w' q B m v e :=
  ⟨h.bk.fr hf h1, h.en.fr hf h2 h3, h.qp, h.qv, h.fine, h.ok⟩
end
end Go.Proofs.Ytendcmdpmohacaa

/-
  What getting keeps of a decoder and its book. Plain.
-/
namespace Go.Proofs.Ytendcmdpmohacaa


/-! What getting keeps. -/
structure Okd (bs : List UInt8) (B : Chs) (d : Dec) : Prop where
  fine : FineB B
  lo : 16777216 ≤ d.r
  hi : d.r ≤ 4294967295
  at_ : d.i ≤ bs.length
  rest : d.rest < 4294967296
section
variable {bs : List UInt8} {t : Nat} {B B' : Chs} {d d' : Dec}
theorem getEv_keeps {i : Option Nat} {b : Bool} (h : getEv bs t B d i = some (b, B', d')) (k : Okd bs B d) : Okd bs B' d' := by
  unfold getEv at h
  split at h
  · cases h
  · rename_i b1 d1 hg
    injection h with h
    injection h with h1 h
    injection h with h2 h3
    subst h1 h2 h3
    obtain ⟨k1, k2, k3⟩ := got_keeps hg (chOf_right k.fine t i) k.lo k.hi k.at_
    have k4 := got_rest hg
    exact ⟨learn_fine k.fine t i b1, k1, k2, k3, by omega⟩
theorem getLen_keeps : ∀ (k n : Nat) {n' : Nat} {B : Chs} {d : Dec}, getLen bs t k n B d = some (n', B', d') → Okd bs B d → Okd bs B' d'
  | 0, n, n', B, d, h, hk => by
    unfold getLen at h
    injection h with h
    injection h with h1 h
    injection h with h2 h3
    subst h2 h3
    exact hk
  | k + 1, n, n', B, d, h, hk => by
    unfold getLen at h
    split at h
    · cases h
    · rename_i b1 B1 d1 hg
      have hk1 := getEv_keeps hg hk
      split at h
      · exact getLen_keeps k (n + 1) h hk1
      · injection h with h
        injection h with h1 h
        injection h with h2 h3
        subst h2 h3
        exact hk1
theorem getBits_keeps : ∀ (k i a : Nat) {a' : Nat} {B : Chs} {d : Dec}, getBits bs t k i a B d = some (a', B', d') → Okd bs B d → Okd bs B' d'
  | 0, i, a, a', B, d, h, hk => by
    unfold getBits at h
    injection h with h
    injection h with h1 h
    injection h with h2 h3
    subst h2 h3
    exact hk
  | k + 1, i, a, a', B, d, h, hk => by
    unfold getBits at h
    split at h
    · cases h
    · rename_i b1 B1 d1 hg
      exact getBits_keeps k (i + 1) _ h (getEv_keeps hg hk)
def Got.Fine (bs : List UInt8) : Got → Prop
  | .bad e => e = 41 ∨ e = 51
  | .ok _ B d => Okd bs B d
theorem getNum_keeps (k : Okd bs B d) : (getNum bs t B d).Fine bs := by
  unfold getNum
  split
  · exact .inl rfl
  · rename_i n B1 d1 h1
    have k1 := getLen_keeps _ _ h1 k
    split
    · exact .inl rfl
    · rename_i a B2 d2 h2
      have k2 := getBits_keeps _ _ _ h2 k1
      split
      · exact .inr rfl
      · exact k2
theorem getSgn_keeps (k : Okd bs B d) : (getSgn bs t B d).Fine bs := by
  have h := getNum_keeps (t := t) k
  unfold getSgn
  split
  · rename_i e he
    rw [he] at h
    exact h
  · rename_i v B1 d1 he
    rw [he] at h
    have k1 : Okd bs B1 d1 := h
    unfold getSign
    split
    · exact k1
    · split
      · exact .inl rfl
      · rename_i b B2 d2 hg
        exact getEv_keeps hg k1
theorem getOne_keeps {n : Nat} (k : Okd bs B d) : (getOne bs t n B d).Fine bs := by
  unfold getOne
  split
  · exact .inl rfl
  · rename_i a B2 d2 h2
    have k2 := getBits_keeps _ _ _ h2 k
    split
    · exact .inr rfl
    · exact k2
end
end Go.Proofs.Ytendcmdpmohacaa

/-
  Contracts of the document's book: GetSigned.
-/
namespace Go.Proofs.Ytendcmdpmohacaa
open Go.RowKit

theorem rGetSigned_bad (t : Int) (a b : Value) (w : World) (h : ¬ (0 ≤ t ∧ t ≤ 15)) :
    Calls Try.prog 56 #[a, b, .int .i64 t] w fun r w' => r = .returned (.tuple #[.int .i64 0, .int .i64 1]) ∧ w' = w := by
  have HG := Lib.hid (rGet_bad t a b w h)
  go_enter Try.func56, Try.ntmps56
  go_wp2_with fail
  refine HG.out.mono ?_
  rintro r w1 ⟨rfl, rfl⟩
  go_wp2_with fail
  go_ret2
  exact ⟨rfl, rfl⟩

theorem getNum_range {bs : List UInt8} {t : Nat} {B B' : Chs} {d d' : Dec} {v : Int} (h : getNum bs t B d = .ok v B' d') : 0 ≤ v ∧ v ≤ 1048576 := by
  unfold getNum at h
  split at h
  · cases h
  · split at h
    · cases h
    · split at h
      · cases h
      · rename_i hle
        injection h with h1 h2 h3
        omega

set_option maxRecDepth 20000 in
set_option maxHeartbeats 4000000 in
theorem rGetSigned_any (w : World) (q p t cc : Nat) (A : Option Addr) (bs : List UInt8) (d : Dec) (B : Chs) (h : Eye w q B p A cc bs d) (ht : t < 16) (hn : bs.length ≤ 100000) :
    Calls Try.prog 56 #[pt q, pt p, .int .i64 (t : Int)] w (GotPost q p A cc bs w (getSgn bs t B d)) := by
  have hG := rGet_any w q p t cc A bs d B h ht hn
  clear h
  unfold getSgn
  cases hN : getNum bs t B d with
  | bad e =>
    rw [hN] at hG
    simp only
    have he : e = 41 ∨ e = 51 := by
      unfold getNum at hN
      split at hN
      · injection hN with hN; exact .inl hN.symm
      · split at hN
        · injection hN with hN; exact .inl hN.symm
        · split at hN
          · injection hN with hN; exact .inr hN.symm
          · cases hN
    have HG := Lib.hid hG
    clear hG hN
    rcases he with rfl | rfl
    all_goals
      go_enter Try.func56, Try.ntmps56
      go_wp2_with fail
      refine HG.out.mono ?_
      rintro r w1 ⟨rfl, hF⟩
      have HF := Lib.hid hF
      clear hF HG
      go_wp2_with fail
      go_ret2
      exact ⟨rfl, HF.out⟩
  | ok v B1 d1 =>
    have hv := getNum_range hN
    rw [hN] at hG
    have HG := Lib.hid hG
    clear hG hN
    simp only
    by_cases h0 : v = 0
    · subst h0
      unfold getSign
      rw [if_pos rfl]
      go_enter Try.func56, Try.ntmps56
      go_wp2_with fail
      refine HG.out.mono ?_
      rintro r w1 ⟨rfl, hE, hF⟩
      have HF := Lib.hid hF; have HE := Lib.hid hE
      clear hF hE HG
      go_wp2_with fail
      go_ret2
      exact ⟨rfl, HE.out, HF.out⟩
    · have e0 : (v == 0) = false := by simpa using h0
      obtain ⟨g, hg⟩ : ∃ g, g = getSign bs t v B1 d1 := ⟨_, rfl⟩
      rw [← hg]
      unfold getSign at hg
      rw [if_neg h0] at hg
      have Hg := Lib.hid hg
      clear hg h0
      go_enter Try.func56, Try.ntmps56
      go_wp2_with fail
      refine HG.out.mono ?_
      rintro r w1 ⟨rfl, hE, hF⟩
      have hb := rgetB_any w1 q p t cc A bs d1 B1 (some 36) hE ht (fun j hj => by injection hj with hj; omega) hn
      rw [show plI (some 36) = 36 from rfl] at hb
      have HB := Lib.hid hb; have HF := Lib.hid hF
      clear hb hE hF HG
      go_wp2_with fail
      refine HB.out.mono ?_
      rintro r1 w2 (⟨bit, B2, d2, hge, rfl, hE2, hF2⟩ | ⟨hge, rfl, hF2⟩)
      · have HF2 := Lib.hid (HF.out.trans hF2 (by simp)); have HE2 := Lib.hid hE2
        have hgg : g = .ok (if bit then -v else v) B2 d2 := by rw [Hg.out, hge]
        cases bit with
        | true =>
          have Hgg := Lib.hid hgg
          clear hge hE2 hF2 hgg HB
          go_wp2_with fail
          go_ret2
          rw [Hgg.out]
          exact ⟨rfl, HE2.out, HF2.out⟩
        | false =>
          have Hgg := Lib.hid hgg
          clear hge hE2 hF2 hgg HB
          go_wp2_with fail
          go_ret2
          rw [Hgg.out]
          exact ⟨rfl, HE2.out, HF2.out⟩
      · have HF2 := Lib.hid (HF.out.trans hF2 (by simp))
        have hgg : g = .bad 41 := by rw [Hg.out, hge]
        have Hgg := Lib.hid hgg
        clear hge hF2 hgg HB
        go_wp2_with fail
        go_ret2
        rw [Hgg.out]
        exact ⟨rfl, HF2.out⟩
end Go.Proofs.Ytendcmdpmohacaa

/-
  A book and a decoder in memory that is new since the law's beginning; what getting an act makes of them, out of the book's contracts; the document's likewise.
-/
namespace Go.Proofs.Ytendcmdpmohacaa
open Go.RowKit
section
variable {bs : List UInt8} {t : Nat} {B B' : Chs} {d d' : Dec}
theorem gotOf_keeps {a : Act5} (k : Okd bs B d) : (gotOf bs a B d = .bad 1 ∧ ∀ B d, gotOf bs a B d = .bad 1) ∨ (gotOf bs a B d).Fine bs := by
  unfold gotOf getAct
  by_cases h1 : a.2.1 < 0 ∨ 15 < a.2.1
  · simp only [if_pos h1]
    exact .inl ⟨trivial, fun _ _ => trivial⟩
  · by_cases h2 : a.1 = 1
    · simp only [if_neg h1, if_pos h2]
      exact .inr (getNum_keeps k)
    · by_cases h3 : a.1 = 2
      · simp only [if_neg h1, if_neg h2, if_pos h3]
        exact .inr (getSgn_keeps k)
      · by_cases h4 : a.2.2.1 < 1 ∨ 16 < a.2.2.1
        · simp only [if_neg h1, if_neg h2, if_neg h3, if_pos h4]
          exact .inl ⟨trivial, fun _ _ => trivial⟩
        · simp only [if_neg h1, if_neg h2, if_neg h3, if_neg h4]
          exact .inr (getOne_keeps k)
end

section
variable {X : EncSpec} {Y : DecSpec} {w0 w w1 w' : World} {b : Nat} {B B' : Chs} {y : Nat} {K : List Nat} {bs : List UInt8} {d d' : Dec} {a : Act5} {r : Ending}
end

/-- An act got by the document's book. -/
def EyePost (q p : Nat) (A : Option Addr) (cc : Nat) (bs : List UInt8) (w : World) (g : Got) (r : Ending) (w' : World) : Prop :=
  match g with
  | .bad e => r = .returned (.tuple #[.int .i64 0, .int .i64 e]) ∧ Fr [q, p] w w' ∧ (e = 1 → Fr [] w w')
  | .ok v B d => r = .returned (.tuple #[.int .i64 v, .int .i64 0]) ∧ Eye w' q B p A cc bs d ∧ Fr [q, p] w w'
section
variable {w w1 w' : World} {q p cc : Nat} {A : Option Addr} {B : Chs} {bs : List UInt8} {d : Dec} {a : Act5} {r : Ending} {g : Got}
theorem EyePost.shape (h : EyePost q p A cc bs w g r w') : ∃ z y : Int, r = .returned (.tuple #[.int .i64 z, .int .i64 y]) := by
  cases g with
  | bad e => exact ⟨_, _, h.1⟩
  | ok v B d => exact ⟨_, _, h.1⟩
theorem GotPost.eye (hf : Fr [] w w1) (hg : g.Fine bs) (h : GotPost q p A cc bs w1 g r w') : EyePost q p A cc bs w g r w' := by
  cases g with
  | bad e =>
    obtain ⟨hr, h1⟩ := h
    refine ⟨hr, (hf.mono (by simp)).trans h1 (fun x hx => .inl hx), fun he => ?_⟩
    rcases hg with hg | hg <;> omega
  | ok v B d =>
    obtain ⟨hr, h1, h2⟩ := h
    exact ⟨hr, h1, (hf.mono (by simp)).trans h2 (fun x hx => .inl hx)⟩
end
end Go.Proofs.Ytendcmdpmohacaa

/-
  Contracts of the landed book: get, getBehind, getLength, getLowest. Conditions: the book and the decoder are apart, the chances are right.
-/
namespace Go.Proofs.Ytendcmdpmohacaa
open Go.RowKit

/-- The book and a decoder, apart. -/
structure Look (Y : DecSpec) (w : World) (b : Nat) (B : Chs) (y : Nat) (K : List Nat) (bs : List UInt8) (d : Dec) : Prop where
  bk : Bk w b B
  de : Y.De w y K bs d
  sep : b ∉ y :: K
  ok : Okd bs B d
theorem Look.fr0 {Y : DecSpec} {w w' : World} {b : Nat} {B : Chs} {y : Nat} {K : List Nat} {bs : List UInt8} {d : Dec} (h : Look Y w b B y K bs d) (hf : Fr [] w w') : Look Y w' b B y K bs d :=
  ⟨h.bk.fr hf (by simp), Y.fr h.de hf (by simp), h.sep, h.ok⟩

/-- What getting a bit answers, and does. -/
def BitPost (Y : DecSpec) (b y : Nat) (K : List Nat) (bs : List UInt8) (w : World) (g : Option (Bool × Chs × Dec)) (r : Ending) (w' : World) : Prop :=
  match g with
  | none => r = .returned (.tuple #[.int .i64 0, .int .i64 41]) ∧ Fr [b, y] w w'
  | some (bit, B', d') => r = .returned (.tuple #[.int .i64 (bit.toNat : Int), .int .i64 0]) ∧ Look Y w' b B' y K bs d' ∧ Fr [b, y] w w'

set_option maxRecDepth 20000 in
theorem bget_any (N : NextSpec) (Y : DecSpec) (w : World) (b y t i : Nat) (K : List Nat) (bs : List UInt8) (d : Dec) (B : Chs) (h : Look Y w b B y K bs d) (hn : bs.length ≤ 100000) (ht : t < 16) (hi : i < 37) :
    Calls Try.prog 77 #[pt y, ptc b (t * 37 + i)] w (BitPost Y b y K bs w (getEv bs t B d (some i))) := by
  have hkeep := fun b1 B1 d1 (hg : getEv bs t B d (some i) = some (b1, B1, d1)) => getEv_keeps hg h.ok
  obtain ⟨hb, hD, hs, hok⟩ := h
  obtain ⟨c, hc⟩ : ∃ c, c = B (37 * t + i) := ⟨_, rfl⟩
  have hcr : rightC c := by rw [hc]; exact hok.fine _
  have ka := hb.cell (j := t * 37 + i) (by omega)
  rw [show t * 37 + i = 37 * t + i by omega, ← hc, show 37 * t + i = t * 37 + i by omega] at ka
  have hG := Y.get w y K bs d c hD hcr hok.rest hok.lo hok.hi hok.at_ hn
  have hN := fun W (bit : Bool) => N W c (bit.toNat : Int) (by have := hcr.2; omega) (by omega) (by have := Bool.toNat_le bit; omega)
  have hbb : ∀ bit : Bool, ((bit.toNat : Int) != 0) = bit := by intro bit; cases bit <;> rfl
  have hev : getEv bs t B d (some i) = match decGet bs d c with | none => none | some (b, d') => some (b, upd B (37 * t + i) (nextC c b), d') := by
    unfold getEv
    rw [show chOf B t (some i) = c from hc.symm]
    rw [hc]
    rfl
  rw [hev] at hkeep
  obtain ⟨g, hgg⟩ : ∃ g, g = getEv bs t B d (some i) := ⟨_, rfl⟩
  rw [← hgg]
  rw [hev] at hgg
  have Hgg := Lib.hid hgg
  clear hgg
  have HG := Lib.hid hG; have HN := Lib.hid hN; have Hbb := Lib.hid hbb
  have Hb := Lib.hid hb; have Hs := Lib.hid hs; have Hk := Lib.hid hkeep; have Hc := Lib.hid hc
  clear hG hN hbb hb hD hs hok hkeep hev hc
  go_enter Try.func77, Try.ntmps77
  go_wp2_with fail
  refine HG.out.mono ?_
  rintro r w1 (⟨bit, d', hg, rfl, hD1, hF1⟩ | ⟨hg, rfl, hF1⟩)
  · have hk := Hk.out
    have hgv := Hgg.out
    rw [hg] at hk hgv
    have hok1 := hk bit _ d' rfl
    have Hgv := Lib.hid hgv
    clear hk hgv Hgg
    have hb1 : Bk w1 b B := Hb.out.fr hF1 (fun hm => by simp at hm; exact Hs.out (by rw [hm]; exact List.mem_cons_self ..))
    have kb : w1.cell? ⟨b, t * 37 + i, none⟩ = some (.int .u16 (c : Int)) := by
      have := hb1.cell (j := t * 37 + i) (by omega)
      rw [show t * 37 + i = 37 * t + i by omega, ← Hc.out, show 37 * t + i = t * 37 + i by omega] at this
      exact this
    have hNb := fun W => HN.out W bit
    rw [Hbb.out bit] at hNb
    obtain ⟨x, hx⟩ : ∃ x, x = nextC c bit := ⟨_, rfl⟩
    rw [← hx] at hNb hok1
    have HNb := Lib.hid hNb
    have HD1 := Lib.hid hD1; have HF1 := Lib.hid hF1; have HB1 := Lib.hid hb1; have Hg := Lib.hid hg; have Hok1 := Lib.hid hok1; have Hx := Lib.hid hx
    clear hNb hD1 hF1 hb1 hg hok1 HN HG Hk ka hx
    go_wp2_with fail
    refine (HNb.out _).mono ?_
    rintro r w2 ⟨rfl, hF2⟩
    have hb2 : Bk w2 b B := HB1.out.fr hF2 (by simp)
    have kc : w2.cell? ⟨b, t * 37 + i, none⟩ = some (.int .u16 (c : Int)) := by
      have := hb2.cell (j := t * 37 + i) (by omega)
      rw [show t * 37 + i = 37 * t + i by omega, ← Hc.out, show 37 * t + i = t * 37 + i by omega] at this
      exact this
    have kf : w2.frozen? ⟨b, t * 37 + i, none⟩ = false := Blk.frozen hb2 _
    have HF2 := Lib.hid hF2; have HB2 := Lib.hid hb2
    clear hF2 hb2 kb
    go_wp2_with fail
    go_ret2
    have hF12 : Fr [b] w1 (w2.setCell ⟨b, t * 37 + i, none⟩ (.int .u16 (x : Int))) := (HF2.out.mono (S' := [b]) (by simp)).trans ((Fr.refl [b] w2).setCell (.inl (by simp)) _) (fun x hx => .inl hx)
    rw [Hgv.out]
    refine ⟨rfl, ⟨?_, ?_, Hs.out, ?_⟩, ?_⟩
    · rw [← Hx.out, show 37 * t + i = t * 37 + i by omega]
      exact HB2.out.set _ _
    · exact Y.fr HD1.out hF12 (fun k hk hm => Hs.out (by simp at hm; rw [← hm]; exact hk))
    · rw [← Hx.out]
      exact Hok1.out
    · exact (HF1.out.mono (by simp)).trans hF12 (by simp)
  · have HF1 := Lib.hid hF1; have Hg := Lib.hid hg
    clear hF1 hg HG HN Hk ka
    have hgv := Hgg.out
    rw [Hg.out] at hgv
    have Hgv := Lib.hid hgv
    clear hgv Hgg Hg
    go_wp2_with fail
    go_ret2
    rw [Hgv.out]
    exact ⟨rfl, HF1.out.mono (by simp)⟩

theorem Look.even {Y : DecSpec} {w : World} {b : Nat} {B : Chs} {y t : Nat} {K : List Nat} {bs : List UInt8} {d : Dec} (h : Look Y w b B y K bs d) (hn : bs.length ≤ 100000) :
    Calls Try.prog 87 #[pt y, .int .u16 1024] w (BitPost Y b y K bs w (getEv bs t B d none)) := by
  refine (Y.get w y K bs d 1024 h.de (by decide) h.ok.rest h.ok.lo h.ok.hi h.ok.at_ hn).mono ?_
  have hev : getEv bs t B d none = match decGet bs d 1024 with | none => none | some (b, d') => some (b, B, d') := rfl
  have hkeep := fun b1 B1 d1 (hg : getEv bs t B d none = some (b1, B1, d1)) => getEv_keeps hg h.ok
  rintro r w1 (⟨bit, d', hg, rfl, hD1, hF1⟩ | ⟨hg, rfl, hF1⟩)
  · rw [hg] at hev
    rw [hev] at hkeep ⊢
    exact ⟨rfl, ⟨h.bk.fr hF1 (fun hm => by simp at hm; exact h.sep (by rw [hm]; exact List.mem_cons_self ..)), hD1, h.sep, hkeep _ _ _ rfl⟩, hF1.mono (by simp)⟩
  · rw [hg] at hev
    rw [hev]
    exact ⟨rfl, hF1.mono (by simp)⟩

set_option maxRecDepth 20000 in
theorem bgbehind_any (N : NextSpec) (Y : DecSpec) (w : World) (b y t i a : Nat) (K : List Nat) (bs : List UInt8) (d : Dec) (B : Chs) (h : Look Y w b B y K bs d) (hn : bs.length ≤ 100000) (ht : t < 16) (ha : a < 2 ^ i) (hi : i ≤ 20) :
    Calls Try.prog 86 #[ptc b (t * 37), pt y, .int .i64 ((2 ^ i + a : Nat) : Int)] w (BitPost Y b y K bs w (getEv bs t B d (place i a))) := by
  have HI := Lib.hid (bfirst_any (2 ^ i + a) w)
  by_cases h4 : i < 4
  · have hp : 2 ^ i ≤ 8 := Nat.pow_le_pow_right (n := 2) (i := i) (j := 3) (by omega) (by omega)
    have hp0 := Nat.two_pow_pos i
    have hP := bget_any N Y w b y t (20 + (2 ^ i - 1) + a) K bs d B h hn ht (by omega)
    have hpl : place i a = some (20 + (2 ^ i - 1) + a) := by unfold place; rw [if_pos h4]
    rw [← hpl] at hP
    obtain ⟨W, hW⟩ : ∃ W, W = 2 ^ i + a := ⟨_, rfl⟩
    rw [show t * 37 + (20 + (2 ^ i - 1) + a) = t * 37 + (19 + W) by omega] at hP
    rw [← hW, decide_eq_true (by omega : W < 16)] at HI
    have e1 : (W : Int) < 16 := by omega
    rw [← hW]
    obtain ⟨g, hg⟩ : ∃ g, g = getEv bs t B d (place i a) := ⟨_, rfl⟩
    rw [← hg] at hP ⊢
    have HP := Lib.hid hP
    have hW0 : 1 ≤ W := by omega
    have hW16 : W < 16 := by omega
    have ew : 20 + W - 1 = 19 + W := by omega
    have Hew := Lib.hid ew
    clear hP hW hpl h hn ha h4 hp hp0 ew hg
    go_enter Try.func86, Try.ntmps86
    go_wp2_with fail
    refine HI.out.mono ?_
    rintro r w1 ⟨rfl, rfl⟩
    clear HI
    go_wp2_with fail
    rw [Hew.out]
    refine HP.out.mono ?_
    intro r w2 hQ
    rcases g with _ | ⟨bit, B', d'⟩
    · obtain ⟨rfl, hQ⟩ := hQ
      have HQ := Lib.hid hQ
      clear hQ HP
      go_wp2_with fail
      go_ret2
      exact ⟨rfl, HQ.out⟩
    · obtain ⟨rfl, hQ⟩ := hQ
      have HQ := Lib.hid hQ
      clear hQ HP
      go_wp2_with fail
      go_ret2
      exact ⟨rfl, HQ.out⟩
  · have hp : 16 ≤ 2 ^ i := Nat.pow_le_pow_right (n := 2) (i := 4) (j := i) (by omega) (by omega)
    have hpl : place i a = none := by unfold place; rw [if_neg h4]
    have hE := h.even (t := t) hn
    rw [hpl]
    obtain ⟨W, hW⟩ : ∃ W, W = 2 ^ i + a := ⟨_, rfl⟩
    rw [← hW, decide_eq_false (by omega : ¬ W < 16)] at HI
    rw [← hW]
    obtain ⟨g, hg⟩ : ∃ g, g = getEv bs t B d none := ⟨_, rfl⟩
    rw [← hg] at hE ⊢
    have HE := Lib.hid hE
    clear hE hW hpl h hn ha h4 hp hg
    go_enter Try.func86, Try.ntmps86
    go_wp2_with fail
    refine HI.out.mono ?_
    rintro r w1 ⟨rfl, rfl⟩
    clear HI
    go_wp2_with fail
    refine HE.out.mono ?_
    intro r w2 hQ
    rcases g with _ | ⟨bit, B', d'⟩
    · obtain ⟨rfl, hQ⟩ := hQ
      have HQ := Lib.hid hQ
      clear hQ HE
      go_wp2_with fail
      go_ret2
      exact ⟨rfl, HQ.out⟩
    · obtain ⟨rfl, hQ⟩ := hQ
      have HQ := Lib.hid hQ
      clear hQ HE
      go_wp2_with fail
      go_ret2
      exact ⟨rfl, HQ.out⟩

/-- What getting bits together answers, and does: a number as they make it. -/
def RunPost (Y : DecSpec) (b y : Nat) (K : List Nat) (bs : List UInt8) (w : World) (f : Nat → Nat) (g : Option (Nat × Chs × Dec)) (r : Ending) (w' : World) : Prop :=
  match g with
  | none => r = .returned (.tuple #[.int .i64 0, .int .i64 41]) ∧ Fr [b, y] w w'
  | some (n, B', d') => r = .returned (.tuple #[.int .i64 (f n : Int), .int .i64 0]) ∧ Look Y w' b B' y K bs d' ∧ Fr [b, y] w w'

set_option maxRecDepth 20000 in
theorem bglength_any (N : NextSpec) (Y : DecSpec) (w : World) (b y t : Nat) (K : List Nat) (bs : List UInt8) (d : Dec) (B : Chs) (h : Look Y w b B y K bs d) (hn : bs.length ≤ 100000) (ht : t < 16) :
    Calls Try.prog 75 #[ptc b (t * 37), pt y] w (RunPost Y b y K bs w id (getLen bs t 20 0 B d)) := by
  obtain ⟨g, hg⟩ : ∃ g, g = getLen bs t 20 0 B d := ⟨_, rfl⟩
  rw [← hg]
  have H := Lib.hid h; have Hg := Lib.hid hg
  clear h hg
  go_enter Try.func75, Try.ntmps75
  go_wp2_with fail
  go_loopw [9] (fun s9 wr => ∃ (x : Nat) (B1 : Chs) (d1 : Dec), x ≤ 20 ∧ s9 = .int .i64 (x : Int) ∧ g = getLen bs t (20 - x) x B1 d1 ∧ Look Y wr b B1 y K bs d1 ∧ Fr [b, y] w wr) (fun s9 _ => 20 - (intOf s9).toNat)
  case atStart => exact ⟨0, B, d, by omega, rfl, Hg.out, H.out, Fr.refl _ _⟩
  case round =>
    obtain ⟨x, B1, d1, hx, rfl, hL, hE, hF⟩ := hrel
    have HL := Lib.hid hL; have HE := Lib.hid hE; have HF := Lib.hid hF
    clear hL hE hF H Hg
    rcases Nat.lt_or_ge x 20 with h20 | h20
    · have e1 : decide ((x : Int) < 20) = true := by simp; omega
      have hG := bget_any N Y wr b y t x K bs d1 B1 HE.out hn ht (by omega)
      have hstep : g = match getEv bs t B1 d1 (some x) with | none => none | some (b, B', d') => if b then getLen bs t (20 - (x + 1)) (x + 1) B' d' else some (x, B', d') := by
        rw [HL.out, show 20 - x = (20 - (x + 1)) + 1 by omega]
        rfl
      obtain ⟨v, hv⟩ : ∃ v, v = getEv bs t B1 d1 (some x) := ⟨_, rfl⟩
      rw [← hv] at hstep hG
      have HG := Lib.hid hG; have Hstep := Lib.hid hstep
      clear hG hstep hv HL HE
      go_wp2_with fail
      refine HG.out.mono ?_
      intro r w2 hQ
      rcases v with _ | ⟨bit, B2, d2⟩
      · obtain ⟨rfl, hF2⟩ := hQ
        have HF2 := Lib.hid (HF.out.trans hF2 (fun x hx => .inl hx))
        clear hF2 HG HF
        go_wp2_with fail
        go_ret2
        rw [Hstep.out]
        exact ⟨rfl, HF2.out⟩
      · obtain ⟨rfl, hE2, hF2⟩ := hQ
        have HF2 := Lib.hid (HF.out.trans hF2 (fun x hx => .inl hx)); have HE2 := Lib.hid hE2
        clear hF2 hE2 HG HF
        cases bit with
        | true =>
          go_wp2_with fail
          exact ⟨⟨x + 1, B2, d2, by omega, by simp, Hstep.out, HE2.out, HF2.out⟩, by simp [intOf]; omega⟩
        | false =>
          go_wp2_with fail
          go_ret2
          rw [Hstep.out]
          exact ⟨rfl, HE2.out, HF2.out⟩
    · have e1 : decide ((x : Int) < 20) = false := by simp; omega
      have hgg : g = some (20, B1, d1) := by
        rw [HL.out, show x = 20 by omega]
        rfl
      have Hgg := Lib.hid hgg
      clear hgg HL
      go_wp2_with fail
      go_ret2
      rw [Hgg.out]
      exact ⟨rfl, HE.out, HF.out⟩

theorem i64_or_bit (V : Nat) (bit : Bool) (h : V < 4611686018427387904) : bits .or .i64 (((2 * V : Nat)) : Int) (bit.toNat : Int) = ((2 * V + bit.toNat : Nat) : Int) := by
  show IntKind.i64.wrap ((BitVec.ofInt 64 ((2 * V : Nat) : Int) ||| BitVec.ofInt 64 (bit.toNat : Int)).toNat : Int) = _
  have hb := Bool.toNat_le bit
  have e : (BitVec.ofInt 64 ((2 * V : Nat) : Int) ||| BitVec.ofInt 64 (bit.toNat : Int)).toNat = 2 * V + bit.toNat := by
    rw [BitVec.toNat_or, BitVec.toNat_ofInt, BitVec.toNat_ofInt]
    have h1 : (((2 * V : Nat) : Int) % ((2 ^ 64 : Nat) : Int)).toNat = 2 * V := by omega
    have h2 : (((bit.toNat : Nat) : Int) % ((2 ^ 64 : Nat) : Int)).toNat = bit.toNat := by omega
    rw [h1, h2]
    have := Nat.two_pow_add_eq_or_of_lt (i := 1) (b := bit.toNat) (by omega) V
    rw [show 2 ^ 1 * V = 2 * V by omega] at this
    exact this.symm
  rw [e, IntWalk.i64_in _ (by omega)]

set_option maxRecDepth 20000 in
theorem bglowest_any (N : NextSpec) (Y : DecSpec) (w : World) (b y t n : Nat) (K : List Nat) (bs : List UInt8) (d : Dec) (B : Chs) (h : Look Y w b B y K bs d) (hn : bs.length ≤ 100000) (ht : t < 16) (hn20 : n ≤ 20) :
    Calls Try.prog 76 #[ptc b (t * 37), pt y, .int .i64 (n : Int)] w (RunPost Y b y K bs w (fun a => 2 ^ n + a) (getBits bs t n 0 0 B d)) := by
  obtain ⟨g, hg⟩ : ∃ g, g = getBits bs t n 0 0 B d := ⟨_, rfl⟩
  rw [← hg]
  have H := Lib.hid h; have Hg := Lib.hid hg
  clear h hg
  go_enter Try.func76, Try.ntmps76
  go_wp2_with fail
  go_loopw [8, 12] (fun s8 s12 wr => ∃ (i a V : Nat) (B1 : Chs) (d1 : Dec), i ≤ n ∧ a < 2 ^ i ∧ V = 2 ^ i + a ∧ s8 = .int .i64 (V : Int) ∧ s12 = .int .i64 (i : Int) ∧ g = getBits bs t (n - i) i a B1 d1 ∧ Look Y wr b B1 y K bs d1 ∧ Fr [b, y] w wr) (fun _ s12 _ => 20 - (intOf s12).toNat)
  case atStart => exact ⟨0, 0, 1, B, d, by omega, by decide, rfl, rfl, rfl, Hg.out, H.out, Fr.refl _ _⟩
  case round =>
    obtain ⟨i, a, V, B1, d1, hi, ha, hV, rfl, rfl, hL, hE, hF⟩ := hrel
    have HL := Lib.hid hL; have HE := Lib.hid hE; have HF := Lib.hid hF; have HV := Lib.hid hV; have Ha := Lib.hid ha
    have hP20 : 2 ^ i ≤ 1048576 := Nat.pow_le_pow_right (n := 2) (i := i) (j := 20) (by omega) (by omega)
    have hVb : V ≤ 2097152 := by omega
    clear hL hE hF H Hg hV ha hP20
    rcases Nat.lt_or_ge i n with hin | hin
    · have e1 : decide (i < n) = true := by simpa using hin
      have hG := bgbehind_any N Y wr b y t i a K bs d1 B1 HE.out hn ht Ha.out (by omega)
      rw [← HV.out] at hG
      have hstep : g = match getEv bs t B1 d1 (place i a) with | none => none | some (b, B', d') => getBits bs t (n - (i + 1)) (i + 1) (2 * a + b.toNat) B' d' := by
        rw [HL.out, show n - i = (n - (i + 1)) + 1 by omega]
        rfl
      obtain ⟨v, hv⟩ : ∃ v, v = getEv bs t B1 d1 (place i a) := ⟨_, rfl⟩
      rw [← hv] at hstep hG
      have HG := Lib.hid hG; have Hstep := Lib.hid hstep
      clear hG hstep hv HL HE
      go_wp2_with fail
      refine HG.out.mono ?_
      intro r w2 hQ
      rcases v with _ | ⟨bit, B2, d2⟩
      · obtain ⟨rfl, hF2⟩ := hQ
        have HF2 := Lib.hid (HF.out.trans hF2 (fun x hx => .inl hx))
        clear hF2 HG HF
        go_wp2_with fail
        go_ret2
        rw [Hstep.out]
        exact ⟨rfl, HF2.out⟩
      · obtain ⟨rfl, hE2, hF2⟩ := hQ
        have HF2 := Lib.hid (HF.out.trans hF2 (fun x hx => .inl hx)); have HE2 := Lib.hid hE2
        clear hF2 hE2 HG HF
        have eO := i64_or_bit V bit (by omega)
        obtain ⟨V', hV'⟩ : ∃ V', V' = 2 * V + bit.toNat := ⟨_, rfl⟩
        rw [← hV'] at eO
        have e2V : ((2 * V : Nat) : Int) = (V : Int) * 2 := by omega
        rw [e2V] at eO
        have HV' := Lib.hid hV'
        clear hV' e2V
        go_wp2_with fail
        have hb2 := Bool.toNat_le bit
        refine ⟨⟨i + 1, 2 * a + bit.toNat, V', B2, d2, by omega, ?_, ?_, rfl, by simp, Hstep.out, HE2.out, HF2.out⟩, by simp [intOf]; omega⟩
        · have := Ha.out
          rw [Nat.pow_succ]
          omega
        · have h1 := HV'.out
          have h2 := HV.out
          rw [Nat.pow_succ]
          omega
    · have e1 : decide (i < n) = false := by simp; omega
      have hgg : g = some (a, B1, d1) := by
        rw [HL.out, show n - i = 0 by omega]
        rfl
      have hVn : V = 2 ^ n + a := by rw [HV.out, show i = n by omega]
      have Hgg := Lib.hid hgg
      have HVn := Lib.hid hVn
      clear hgg hVn HL HV Ha
      go_wp2_with fail
      go_ret2
      rw [Hgg.out]
      exact ⟨by show Ending.returned (Value.tuple #[.int .i64 (V : Int), .int .i64 0]) = Ending.returned (Value.tuple #[.int .i64 ((2 ^ n + a : Nat) : Int), .int .i64 0]); rw [← HVn.out], HE.out, HF.out⟩
end Go.Proofs.Ytendcmdpmohacaa

/-
  Contracts of the landed book: Get, GetSigned, GetOne. Conditions: the book and the decoder are apart, the chances are right.
-/
namespace Go.Proofs.Ytendcmdpmohacaa
open Go.RowKit

/-- What getting a number answers, and does. -/
def NumPost (Y : DecSpec) (b y : Nat) (K : List Nat) (bs : List UInt8) (w : World) (g : Got) (r : Ending) (w' : World) : Prop :=
  match g with
  | .bad e => r = .returned (.tuple #[.int .i64 0, .int .i64 e]) ∧ Fr [b, y] w w'
  | .ok v B d => r = .returned (.tuple #[.int .i64 v, .int .i64 0]) ∧ Look Y w' b B y K bs d ∧ Fr [b, y] w w'

theorem bGet_bad (t : Int) (a c : Option Addr) (w : World) (h : a = none ∨ c = none ∨ ¬ (0 ≤ t ∧ t ≤ 15)) :
    Calls Try.prog 52 #[.pointer a, .pointer c, .int .i64 t] w fun r w' => r = .returned (.tuple #[.int .i64 0, .int .i64 1]) ∧ w' = w := by
  have HT := Lib.hid (btopic_any t w)
  cases a with
  | none =>
    clear h
    go_enter Try.func52, Try.ntmps52
    go_wp2_with fail
    go_ret2
    exact ⟨rfl, rfl⟩
  | some a =>
  cases c with
  | none =>
    clear h
    go_enter Try.func52, Try.ntmps52
    go_wp2_with fail
    go_ret2
    exact ⟨rfl, rfl⟩
  | some c =>
  have h : ¬ (0 ≤ t ∧ t ≤ 15) := by simpa using h
  rw [decide_eq_false h] at HT
  go_enter Try.func52, Try.ntmps52
  go_wp2_with fail
  refine HT.out.mono ?_
  rintro r w1 ⟨rfl, rfl⟩
  go_wp2_with fail
  go_ret2
  exact ⟨rfl, rfl⟩

theorem getLen_le {bs : List UInt8} {t : Nat} : ∀ (k n : Nat) {n' : Nat} {B B' : Chs} {d d' : Dec}, getLen bs t k n B d = some (n', B', d') → n' ≤ n + k
  | 0, n, n', B, B', d, d', h => by
    unfold getLen at h
    injection h with h
    injection h with h1 h
    omega
  | k + 1, n, n', B, B', d, d', h => by
    unfold getLen at h
    split at h
    · cases h
    · split at h
      · have := getLen_le k (n + 1) h
        omega
      · injection h with h
        injection h with h1 h
        omega
theorem getBits_lt {bs : List UInt8} {t : Nat} : ∀ (k i a : Nat) {a' : Nat} {B B' : Chs} {d d' : Dec}, getBits bs t k i a B d = some (a', B', d') → a < 2 ^ i → a' < 2 ^ (i + k)
  | 0, i, a, a', B, B', d, d', h, ha => by
    unfold getBits at h
    injection h with h
    injection h with h1 h
    rw [← h1]
    exact ha
  | k + 1, i, a, a', B, B', d, d', h, ha => by
    unfold getBits at h
    split at h
    · cases h
    · rename_i b1 B1 d1 _
      have := getBits_lt k (i + 1) _ h (by rw [Nat.pow_succ]; have := Bool.toNat_le b1; omega)
      rw [show i + (k + 1) = i + 1 + k by omega]
      exact this

set_option maxRecDepth 20000 in
theorem bGet_any (N : NextSpec) (Y : DecSpec) (w : World) (b y t : Nat) (K : List Nat) (bs : List UInt8) (d : Dec) (B : Chs) (h : Look Y w b B y K bs d) (hn : bs.length ≤ 100000) (ht : t < 16) :
    Calls Try.prog 52 #[pt b, pt y, .int .i64 (t : Int)] w (NumPost Y b y K bs w (getNum bs t B d)) := by
  have HT := btopic_any (t : Int) w
  rw [decide_eq_true (by omega : 0 ≤ (t : Int) ∧ (t : Int) ≤ 15)] at HT
  have HT := Lib.hid HT
  have hL := bglength_any N Y w b y t K bs d B h hn ht
  obtain ⟨g, hg⟩ : ∃ g, g = getNum bs t B d := ⟨_, rfl⟩
  rw [← hg]
  unfold getNum at hg
  obtain ⟨u, hu⟩ : ∃ u, u = getLen bs t 20 0 B d := ⟨_, rfl⟩
  have hule := fun n B1 d1 (e : u = some (n, B1, d1)) => getLen_le 20 0 (hu ▸ e)
  rw [← hu] at hL hg
  have HL := Lib.hid hL; have Hg := Lib.hid hg; have Hule := Lib.hid hule
  clear h hL hg hu hule
  go_enter Try.func52, Try.ntmps52
  go_wp2_with fail
  refine HT.out.mono ?_
  rintro r w1 ⟨rfl, rfl⟩
  clear HT
  go_wp2_with fail
  refine HL.out.mono ?_
  intro r w2 hQ
  rcases u with _ | ⟨n, B1, d1⟩
  · obtain ⟨rfl, hF⟩ := hQ
    have hgg : g = .bad 41 := Hg.out
    have Hgg := Lib.hid hgg
    have HF := Lib.hid hF
    clear hF HL hgg Hg Hule
    go_wp2_with fail
    go_ret2
    rw [Hgg.out]
    exact ⟨rfl, HF.out⟩
  · obtain ⟨hr, hE, hF⟩ := hQ
    have hr : r = .returned (.tuple #[.int .i64 (n : Int), .int .i64 0]) := hr
    subst hr
    have hn20 : n ≤ 20 := by have := Hule.out n B1 d1 rfl; omega
    have hP := bglowest_any N Y w2 b y t n K bs d1 B1 hE hn ht hn20
    have hg2 := Hg.out
    obtain ⟨u, hu⟩ : ∃ u, u = getBits bs t n 0 0 B1 d1 := ⟨_, rfl⟩
    have hult := fun a B2 d2 (e : u = some (a, B2, d2)) => getBits_lt n 0 0 (hu ▸ e) (by decide)
    simp only at hg2
    rw [← hu] at hP hg2
    have HP := Lib.hid hP; have Hg2 := Lib.hid hg2; have Hult := Lib.hid hult; have HF := Lib.hid hF
    clear hP hg2 hu hult hE hF HL Hg Hule
    go_wp2_with fail
    refine HP.out.mono ?_
    intro r w3 hQ
    rcases u with _ | ⟨a, B2, d2⟩
    · obtain ⟨rfl, hF3⟩ := hQ
      have hgg : g = .bad 41 := Hg2.out
      have Hgg := Lib.hid hgg
      have HF3 := Lib.hid (HF.out.trans hF3 (fun x hx => .inl hx))
      clear hF3 hgg Hg2 Hult HP HF
      go_wp2_with fail
      go_ret2
      rw [Hgg.out]
      exact ⟨rfl, HF3.out⟩
    · obtain ⟨hr, hE3, hF3⟩ := hQ
      obtain ⟨V, hV⟩ : ∃ V, V = 2 ^ n + a := ⟨_, rfl⟩
      have hr : r = .returned (.tuple #[.int .i64 (V : Int), .int .i64 0]) := by rw [hV]; exact hr
      subst hr
      have hVb : V < 2097152 := by
        have h1 := Hult.out a B2 d2 rfl
        have h2 : 2 ^ n ≤ 1048576 := Nat.pow_le_pow_right (n := 2) (i := n) (j := 20) (by omega) (by omega)
        rw [Nat.zero_add] at h1
        omega
      have hV1 : 1 ≤ V := by have := Nat.two_pow_pos n; omega
      have hgg : g = if 1048576 < V - 1 then .bad 51 else .ok ((V - 1 : Nat) : Int) B2 d2 := by rw [hV]; exact Hg2.out
      have HF3 := Lib.hid (HF.out.trans hF3 (fun x hx => .inl hx)); have HE3 := Lib.hid hE3
      clear hF3 hE3 hV Hg2 Hult HP HF
      by_cases hb : 1048576 < V - 1
      · have e3 : decide (1048576 < (V : Int) - 1) = true := by simp; omega
        rw [if_pos hb] at hgg
        have Hgg := Lib.hid hgg
        clear hgg hb
        go_wp2_with fail
        go_ret2
        rw [Hgg.out]
        exact ⟨rfl, HF3.out⟩
      · have e3 : decide (1048576 < (V : Int) - 1) = false := by simp; omega
        rw [if_neg hb] at hgg
        have eV1 : ((V - 1 : Nat) : Int) = (V : Int) - 1 := by omega
        rw [eV1] at hgg
        have Hgg := Lib.hid hgg
        clear hgg hb eV1
        go_wp2_with fail
        go_ret2
        rw [Hgg.out]
        exact ⟨rfl, HE3.out, HF3.out⟩

theorem bGetS_bad (t : Int) (a c : Option Addr) (w : World) (h : a = none ∨ c = none ∨ ¬ (0 ≤ t ∧ t ≤ 15)) :
    Calls Try.prog 53 #[.pointer a, .pointer c, .int .i64 t] w fun r w' => r = .returned (.tuple #[.int .i64 0, .int .i64 1]) ∧ w' = w := by
  have HG := Lib.hid (bGet_bad t a c w h)
  clear h
  go_enter Try.func53, Try.ntmps53
  go_wp2_with fail
  refine HG.out.mono ?_
  rintro r w1 ⟨rfl, rfl⟩
  go_wp2_with fail
  go_ret2
  exact ⟨rfl, rfl⟩

set_option maxRecDepth 20000 in
theorem bGetS_any (N : NextSpec) (Y : DecSpec) (w : World) (b y t : Nat) (K : List Nat) (bs : List UInt8) (d : Dec) (B : Chs) (h : Look Y w b B y K bs d) (hn : bs.length ≤ 100000) (ht : t < 16) :
    Calls Try.prog 53 #[pt b, pt y, .int .i64 (t : Int)] w (NumPost Y b y K bs w (getSgn bs t B d)) := by
  have hG := bGet_any N Y w b y t K bs d B h hn ht
  have hfine := getNum_keeps (t := t) h.ok
  clear h
  unfold getSgn
  cases hN : getNum bs t B d with
  | bad e =>
    rw [hN] at hG hfine
    simp only
    have he : e = 41 ∨ e = 51 := hfine
    have HG := Lib.hid hG
    clear hG hN hfine
    rcases he with rfl | rfl
    all_goals
      go_enter Try.func53, Try.ntmps53
      go_wp2_with fail
      refine HG.out.mono ?_
      rintro r w1 ⟨rfl, hF⟩
      have HF := Lib.hid hF
      clear hF HG
      go_wp2_with fail
      go_ret2
      exact ⟨rfl, HF.out⟩
  | ok v B1 d1 =>
    have hv := getNum_range hN
    rw [hN] at hG
    have HG := Lib.hid hG
    clear hG hN hfine
    simp only
    by_cases h0 : v = 0
    · subst h0
      unfold getSign
      rw [if_pos rfl]
      go_enter Try.func53, Try.ntmps53
      go_wp2_with fail
      refine HG.out.mono ?_
      rintro r w1 ⟨rfl, hE, hF⟩
      have HF := Lib.hid hF; have HE := Lib.hid hE
      clear hF hE HG
      go_wp2_with fail
      go_ret2
      exact ⟨rfl, HE.out, HF.out⟩
    · have e0 : (v == 0) = false := by simpa using h0
      obtain ⟨g, hg⟩ : ∃ g, g = getSign bs t v B1 d1 := ⟨_, rfl⟩
      rw [← hg]
      unfold getSign at hg
      rw [if_neg h0] at hg
      obtain ⟨u, hu⟩ : ∃ u, u = getEv bs t B1 d1 (some 36) := ⟨_, rfl⟩
      have hB := fun w1 (h : Look Y w1 b B1 y K bs d1) => bget_any N Y w1 b y t 36 K bs d1 B1 h hn ht (by omega)
      rw [← hu] at hg hB
      have Hg := Lib.hid hg; have HB := Lib.hid hB
      clear hg h0 hu hB
      go_enter Try.func53, Try.ntmps53
      go_wp2_with fail
      refine HG.out.mono ?_
      rintro r w1 ⟨rfl, hE, hF⟩
      have HB1 := Lib.hid (HB.out w1 hE); have HF := Lib.hid hF
      clear hE hF HG HB
      go_wp2_with fail
      refine HB1.out.mono ?_
      intro r1 w2 hQ
      rcases u with _ | ⟨bit, B2, d2⟩
      · obtain ⟨rfl, hF2⟩ := hQ
        have hgg : g = .bad 41 := Hg.out
        have HF2 := Lib.hid (HF.out.trans hF2 (fun x hx => .inl hx)); have Hgg := Lib.hid hgg
        clear hF2 hgg HB1 HF Hg
        go_wp2_with fail
        go_ret2
        rw [Hgg.out]
        exact ⟨rfl, HF2.out⟩
      · obtain ⟨rfl, hE2, hF2⟩ := hQ
        have hgg : g = .ok (if bit then -v else v) B2 d2 := Hg.out
        have HF2 := Lib.hid (HF.out.trans hF2 (fun x hx => .inl hx)); have HE2 := Lib.hid hE2
        cases bit with
        | true =>
          have Hgg := Lib.hid hgg
          clear hE2 hF2 hgg HB1 HF Hg
          go_wp2_with fail
          go_ret2
          rw [Hgg.out]
          exact ⟨rfl, HE2.out, HF2.out⟩
        | false =>
          have Hgg := Lib.hid hgg
          clear hE2 hF2 hgg HB1 HF Hg
          go_wp2_with fail
          go_ret2
          rw [Hgg.out]
          exact ⟨rfl, HE2.out, HF2.out⟩

end Go.Proofs.Ytendcmdpmohacaa

/-
  The landed book keeps the contracts that blocks of levels lean on. No condition.
-/
namespace Go.Proofs.Ytendcmdpmohacaa
open Go.RowKit

/-- The book's contracts but those of PutOne and GetOne. -/
structure BookLite (X : EncSpec) (Y : DecSpec) where
  Bo : World → Nat → Chs → Prop
  lt : ∀ {w b B}, Bo w b B → b < w.heap.size
  fr : ∀ {w w' b B S}, Bo w b B → Fr S w w' → b ∉ S → Bo w' b B
  new : ∀ w, Calls Try.prog 20 #[] w fun r w' => ∃ b, r = .returned (pt b) ∧ Bo w' b newBook ∧ Fr [] w w' ∧ w.heap.size ≤ b
  put : ∀ w b B p D e (t v : Int), Bo w b B → X.En w p D e → b ∉ p :: D → FineB B → e.Ok → e.n ≤ 60000 → InI t → InI v →
    Calls Try.prog 45 #[pt b, pt p, .int .i64 t, .int .i64 v] w (PutPost Bo X.En w b B p D e 1 t 0 v)
  putS : ∀ w b B p D e (t v : Int), Bo w b B → X.En w p D e → b ∉ p :: D → FineB B → e.Ok → e.n ≤ 60000 → InI t → InI v →
    Calls Try.prog 46 #[pt b, pt p, .int .i64 t, .int .i64 v] w (PutPost Bo X.En w b B p D e 2 t 0 v)
  get : ∀ w b B y K bs d (t : Int), Bo w b B → Y.De w y K bs d → b ∉ y :: K → FineB B → d.rest < 4294967296 → 16777216 ≤ d.r → d.r ≤ 4294967295 → d.i ≤ bs.length → bs.length ≤ 100000 → InI t →
    Calls Try.prog 52 #[pt b, pt y, .int .i64 t] w (GetPost Bo Y.De w b y K bs (getAct bs 1 t 0 B d))
  getS : ∀ w b B y K bs d (t : Int), Bo w b B → Y.De w y K bs d → b ∉ y :: K → FineB B → d.rest < 4294967296 → 16777216 ≤ d.r → d.r ≤ 4294967295 → d.i ≤ bs.length → bs.length ≤ 100000 → InI t →
    Calls Try.prog 53 #[pt b, pt y, .int .i64 t] w (GetPost Bo Y.De w b y K bs (getAct bs 2 t 0 B d))
  same : ∀ w b B c C, Bo w b B → Bo w c C → Calls Try.prog 33 #[pt b, pt c] w fun r w' => r = .returned (.bool (sameB B C)) ∧ Fr [] w w'
  copy : ∀ w b B, Bo w b B → Calls Try.prog 32 #[pt b] w fun r w' => ∃ c, r = .returned (pt c) ∧ Bo w' c B ∧ Fr [] w w' ∧ w.heap.size ≤ c
  putNilB : ∀ w p D e (t v : Int), X.En w p D e → InI t → InI v → Calls Try.prog 45 #[.pointer none, pt p, .int .i64 t, .int .i64 v] w fun r w' => r = .returned (.int .i64 1) ∧ Fr [] w w'
  putNilX : ∀ w b B (t v : Int), Bo w b B → InI t → InI v → Calls Try.prog 45 #[pt b, .pointer none, .int .i64 t, .int .i64 v] w fun r w' => r = .returned (.int .i64 1) ∧ Fr [] w w'
  putSNilB : ∀ w p D e (t v : Int), X.En w p D e → InI t → InI v → Calls Try.prog 46 #[.pointer none, pt p, .int .i64 t, .int .i64 v] w fun r w' => r = .returned (.int .i64 1) ∧ Fr [] w w'
  putSNilX : ∀ w b B (t v : Int), Bo w b B → InI t → InI v → Calls Try.prog 46 #[pt b, .pointer none, .int .i64 t, .int .i64 v] w fun r w' => r = .returned (.int .i64 1) ∧ Fr [] w w'
  getNilX : ∀ w b B (t : Int), Bo w b B → InI t → Calls Try.prog 52 #[pt b, .pointer none, .int .i64 t] w fun r w' => r = .returned (.tuple #[.int .i64 0, .int .i64 1]) ∧ Fr [] w w'
theorem NibAt.postL {X : EncSpec} {w : World} {b p : Nat} {D : List Nat} {t : Nat} {B : Chs} {e : Enc} {l : List Ev} {k n v : Int} {r : Ending} {w' : World} (ha : actEvs k (t : Int) n v = some l) (hr : r = .returned (.int .i64 0)) (h : NibAt X w b p D t B e w' l) : PutPost Bk X.En w b B p D e k (t : Int) n v r w' := by
  unfold PutPost
  rw [ha]
  obtain ⟨D', h1, h2, h3, h4⟩ := h.done
  exact ⟨hr, D', h1, h2, h3, h4⟩
theorem put_badL {X : EncSpec} {w : World} {b p : Nat} {D : List Nat} {B : Chs} {e : Enc} {k t n v : Int} {r : Ending} {w' : World} (ha : actEvs k t n v = none) (h : r = .returned (.int .i64 1) ∧ w' = w) : PutPost Bk X.En w b B p D e k t n v r w' := by
  unfold PutPost
  rw [ha]
  obtain ⟨rfl, rfl⟩ := h
  exact ⟨rfl, Fr.refl _ _⟩
theorem num_postL {Y : DecSpec} {b y : Nat} {K : List Nat} {bs : List UInt8} {w : World} {g : Got} {r : Ending} {w' : World} (hg : ∀ e, g = .bad e → e ≠ 1) (h : NumPost Y b y K bs w g r w') : GetPost Bk Y.De w b y K bs g r w' := by
  cases g with
  | bad e =>
    obtain ⟨rfl, hF⟩ := h
    exact ⟨rfl, hF, fun he => absurd he (hg e rfl)⟩
  | ok v B d =>
    obtain ⟨rfl, hE, hF⟩ := h
    exact ⟨rfl, hE.bk, hE.de, hF⟩
theorem get_badL {Y : DecSpec} {b y : Nat} {K : List Nat} {bs : List UInt8} {w : World} {g : Got} {r : Ending} {w' : World} (hg : g = .bad 1) (h : r = .returned (.tuple #[.int .i64 0, .int .i64 1]) ∧ w' = w) : GetPost Bk Y.De w b y K bs g r w' := by
  subst hg
  obtain ⟨rfl, rfl⟩ := h
  exact ⟨rfl, Fr.refl _ _, fun _ => Fr.refl _ _⟩
theorem getNum_badL {bs : List UInt8} {t : Nat} {B : Chs} {d : Dec} {e : Int} (h : getNum bs t B d = .bad e) : e ≠ 1 := by
  unfold getNum at h
  split at h
  · injection h with h; omega
  · split at h
    · injection h with h; omega
    · split at h
      · injection h with h; omega
      · cases h
theorem getSgn_badL {bs : List UInt8} {t : Nat} {B : Chs} {d : Dec} {e : Int} (h : getSgn bs t B d = .bad e) : e ≠ 1 := by
  unfold getSgn at h
  split at h
  · rename_i e' he
    injection h with h
    subst h
    exact getNum_badL he
  · unfold getSign at h
    split at h
    · cases h
    · split at h
      · injection h with h; omega
      · cases h
def bookL : BookLite encI decI where
  Bo := Bk
  lt := fun h => h.lt
  fr := fun h hf hs => h.fr hf hs
  new := bnew_any
  put := by
    intro w b B p D e t v hb hE hs hB he hn ht hv
    by_cases h1 : t < 0 ∨ 15 < t
    · have ha : actEvs 1 t 0 v = none := by unfold actEvs; rw [if_pos h1]
      exact (bPut_bad t v _ _ w (by omega)).mono fun r w' h => put_badL ha h
    · obtain ⟨T, rfl⟩ : ∃ T : Nat, t = (T : Int) := ⟨t.toNat, by omega⟩
      by_cases h2 : 0 ≤ v ∧ v ≤ 1048576
      · obtain ⟨V, rfl⟩ : ∃ V : Nat, v = (V : Int) := ⟨v.toNat, by omega⟩
        have ha : actEvs 1 (T : Int) 0 (V : Int) = some (numEvs V) := by
          unfold actEvs
          rw [if_neg h1, if_pos rfl, if_pos h2]
          rfl
        exact (bPut_ok nextI encI w b p T V D B e hb hE hs hB he (by omega) (by omega) (by omega)).mono fun r w' h => h.2.postL ha h.1
      · have ha : actEvs 1 (T : Int) 0 v = none := by
          unfold actEvs
          rw [if_neg h1, if_pos rfl, if_neg h2]
        exact (bPut_bad T v _ _ w (by omega)).mono fun r w' h => put_badL ha h
  putS := by
    intro w b B p D e t v hb hE hs hB he hn ht hv
    by_cases h1 : t < 0 ∨ 15 < t
    · have ha : actEvs 2 t 0 v = none := by unfold actEvs; rw [if_pos h1]
      exact (bPutS_bad t v _ _ w hv (by omega)).mono fun r w' h => put_badL ha h
    · obtain ⟨T, rfl⟩ : ∃ T : Nat, t = (T : Int) := ⟨t.toNat, by omega⟩
      by_cases h2 : -1048576 ≤ v ∧ v ≤ 1048576
      · have ha : actEvs 2 (T : Int) 0 v = some (sgnEvs v) := by
          unfold actEvs
          rw [if_neg h1, if_neg (by decide), if_pos rfl, if_pos h2]
        exact (bPutS_ok nextI encI w b p T v D B e hb hE hs hB he (by omega) (by omega) h2).mono fun r w' h => h.2.postL ha h.1
      · have ha : actEvs 2 (T : Int) 0 v = none := by
          unfold actEvs
          rw [if_neg h1, if_neg (by decide), if_pos rfl, if_neg h2]
        exact (bPutS_bad T v _ _ w hv (by omega)).mono fun r w' h => put_badL ha h
  get := by
    intro w b B y K bs d t hb hD hs hB h1 h2 h3 h4 hn ht
    by_cases h0 : t < 0 ∨ 15 < t
    · exact (bGet_bad t _ _ w (by omega)).mono fun r w' h => get_badL (by unfold getAct; rw [if_pos h0]) h
    · obtain ⟨T, rfl⟩ : ∃ T : Nat, t = (T : Int) := ⟨t.toNat, by omega⟩
      have ha : getAct bs 1 (T : Int) 0 B d = getNum bs T B d := by unfold getAct; rw [if_neg h0, if_pos rfl]; rfl
      rw [ha]
      exact (bGet_any nextI decI w b y T K bs d B ⟨hb, hD, hs, hB, h2, h3, h4, h1⟩ hn (by omega)).mono fun r w' h => num_postL (fun e he => getNum_badL he) h
  getS := by
    intro w b B y K bs d t hb hD hs hB h1 h2 h3 h4 hn ht
    by_cases h0 : t < 0 ∨ 15 < t
    · exact (bGetS_bad t _ _ w (by omega)).mono fun r w' h => get_badL (by unfold getAct; rw [if_pos h0]) h
    · obtain ⟨T, rfl⟩ : ∃ T : Nat, t = (T : Int) := ⟨t.toNat, by omega⟩
      have ha : getAct bs 2 (T : Int) 0 B d = getSgn bs T B d := by unfold getAct; rw [if_neg h0, if_neg (by decide), if_pos rfl]; rfl
      rw [ha]
      exact (bGetS_any nextI decI w b y T K bs d B ⟨hb, hD, hs, hB, h2, h3, h4, h1⟩ hn (by omega)).mono fun r w' h => num_postL (fun e he => getSgn_badL he) h
  same := bsame_any
  copy := bcopy_any
  putNilB := fun w p D e t v _ _ _ => (bPut_bad t v none _ w (.inl rfl)).mono fun r w' h => ⟨h.1, by rw [h.2]; exact Fr.refl _ _⟩
  putNilX := fun w b B t v _ _ _ => (bPut_bad t v _ none w (.inr (.inl rfl))).mono fun r w' h => ⟨h.1, by rw [h.2]; exact Fr.refl _ _⟩
  putSNilB := fun w p D e t v _ _ hv => (bPutS_bad t v none _ w hv (.inl rfl)).mono fun r w' h => ⟨h.1, by rw [h.2]; exact Fr.refl _ _⟩
  putSNilX := fun w b B t v _ _ hv => (bPutS_bad t v _ none w hv (.inr (.inl rfl))).mono fun r w' h => ⟨h.1, by rw [h.2]; exact Fr.refl _ _⟩
  getNilX := fun w b B t _ _ => (bGet_bad t _ none w (.inr (.inl rfl))).mono fun r w' h => ⟨h.1, by rw [h.2]; exact Fr.refl _ _⟩
end Go.Proofs.Ytendcmdpmohacaa

/-
  Numbers that a call made for itself: their cells, what is appended. No program text here but the type []int.
-/
namespace Go.Proofs.Ytendcmdpmohacaa
open Go.RowKit

theorem info_num : (Try.prog.info? 3).map (fun i => (i.zero, i.size, i.bytes)) = some (some (.int .i64 0), 1, 8) := by kernel_rfl

/-- Numbers in memory that is new since w0. -/
structure MineN (w0 w : World) (v : Value) (ns : List Int) : Prop where
  own : Own w 3 v (ns.map I64)
  fr : Fr [] w0 w
  new : ∀ k, v.ownBlock = some k → w0.heap.size ≤ k
section
variable {w0 w w' : World} {v : Value} {ns : List Int}
theorem MineN.fr0 (h : MineN w0 w v ns) (hf : Fr [] w w') : MineN w0 w' v ns := ⟨h.own.fr hf (by simp), h.fr.trans hf (by simp), h.new⟩
theorem MineN.src (h : MineN w0 w v ns) : Src w v (ns.map I64) := h.own.src
theorem MineN.nil (hf : Fr [] w0 w) : MineN w0 w (.slice none 0 0) [] := ⟨Own.nil _ _, hf, by simp [Value.ownBlock]⟩
theorem MineN.slice (h : MineN w0 w v ns) : ∃ A c, v = .slice A ns.length c := by
  rcases h.own.form with ⟨rfl, h0⟩ | ⟨g, cap, cur, rfl, -⟩
  · exact ⟨none, 0, by have := congrArg List.length h0; simp at this; rw [this]; rfl⟩
  · exact ⟨_, _, by simp; exact ⟨rfl, rfl⟩⟩
theorem MineN.appended {v' : Value} {ms : List Int} (h : MineN w0 w v ns) (hO : Own w' 3 v' ((ns ++ ms).map I64)) (hG : Own1 v v' w w') : MineN w0 w' v' (ns ++ ms) := by
  refine ⟨hO, h.fr.trans hG.1 (by intro x hx; exact .inr (h.new x (by simpa using hx))), ?_⟩
  intro k hk
  have := h.fr.size
  rcases hG.2 with e | ⟨g, e, hg⟩
  · rw [e] at hk; exact h.new k hk
  · rw [e] at hk; injection hk with hk; subst hk; omega
/-- What was written by an append is not another's row. -/
theorem MineN.beside {v' u : Value} {ms : List Int} (h : MineN w0 w u ms) (hG : Own1 v v' w w') (hn : ∀ k, u.ownBlock = some k → v.ownBlock ≠ some k) (hw : ∀ k, v.ownBlock = some k → w0.heap.size ≤ k) : MineN w0 w' u ms :=
  ⟨h.own.fr hG.1 (fun k hk hm => hn k hk (by simpa using hm)), h.fr.trans hG.1 (fun x hx => .inr (hw x (by simpa using hx))), h.new⟩
end
theorem I64_one (ns : List Int) : ∀ u ∈ ns.map I64, u.oneCell' = true := by
  intro u hu
  obtain ⟨b, _, rfl⟩ := List.mem_map.1 hu
  rfl
/-- append onto numbers of the call's own. -/
theorem wp_append_num {w : World} {ops : Array Oper} {rest : List Oper} {o : Oper} {a : Act} {Q : Exit → Act → World → Prop} (s x : Operand) (v : Value) (ns : List Int) (src : Value) (ms : List Int)
    (hgd : o.guard = none) (ho : o.op = .call { callee := .builtin .append, args := #[s, x], argTypes := #[29, 29] })
    (hv : a.eval s = v) (hsv : a.eval x = src) (hown : Own w 3 v (ns.map I64)) (hs : Src w src (ms.map I64)) (hlen : ns.length + ms.length ≤ 1000000)
    (h : ∀ A c w', Own w' 3 (.slice A (ns.length + ms.length) c) ((ns ++ ms).map I64) → Own1 v (.slice A (ns.length + ms.length) c) w w' → wpList Try.prog ops Q rest (a.put o.dst (.slice A (ns.length + ms.length) c)) w') : wpList Try.prog ops Q (o :: rest) a w := by
  obtain ⟨i, hi, hz, h1, h2⟩ := info_parts info_num
  refine wpList_append_mine s x 29 3 i _ 8 hgd ho Try.underlying29 hi hz h1 h2 rfl v _ src _ hv hsv hown hs (I64_one ms) ?_ ?_ ?_
  · simp only [List.length_map, maxLen]; omega
  · simp only [List.length_map]; omega
  · intro v' w' k1 k2
    rw [← List.map_append] at k1
    obtain ⟨A, c, rfl⟩ : ∃ A c, v' = .slice A (ns.length + ms.length) c := by
      rcases k1.form with ⟨rfl, h0⟩ | ⟨g, cap, cur, rfl, -⟩
      · have := congrArg List.length h0
        simp at this
        exact ⟨none, 0, by simp [this]⟩
      · exact ⟨_, _, by rw [List.length_map, List.length_append]⟩
    exact h A c w' k1 k2
/-- The same as one step of a region whose order is open. -/
theorem step_append_num {w : World} {ops : Array Oper} {o : Oper} {a : Act} {K : Act → World → Prop} {Q : Exit → Act → World → Prop} {E : Prop} (s x : Operand) (v : Value) (ns : List Int) (src : Value) (ms : List Int)
    (hw : Region.wanted o (yielded ops a.tmps) = true) (ho : o.op = .call { callee := .builtin .append, args := #[s, x], argTypes := #[29, 29] })
    (hv : a.eval s = v) (hsv : a.eval x = src) (hown : Own w 3 v (ns.map I64)) (hs : Src w src (ms.map I64)) (hlen : ns.length + ms.length ≤ 1000000)
    (h : ∀ A c w', Own w' 3 (.slice A (ns.length + ms.length) c) ((ns ++ ms).map I64) → Own1 v (.slice A (ns.length + ms.length) c) w w' → K (a.put o.dst (.slice A (ns.length + ms.length) c)) w') : if Region.wanted o (yielded ops a.tmps) = true then Oper.wp Try.prog o a w K Q else E := by
  rw [if_pos hw]
  obtain ⟨i, hi, hz, h1, h2⟩ := info_parts info_num
  refine wp_append_mine s x 29 3 i _ 8 ho Try.underlying29 hi hz h1 h2 rfl v _ src _ hv hsv hown hs (I64_one ms) ?_ ?_ ?_
  · simp only [List.length_map, maxLen]; omega
  · simp only [List.length_map]; omega
  · intro A c w' k1 k2
    simp only [List.length_map] at k1 k2 ⊢
    rw [← List.map_append] at k1
    exact h A c w' k1 k2
/-- Numbers answered. -/
def NumsPost (w : World) (l : List Int) (e : Ending) (w' : World) : Prop :=
  ∃ A c, e = .returned (.slice A l.length c) ∧ Src w' (.slice A l.length c) (l.map I64) ∧ Fr [] w w'
theorem Src.num {w : World} {ad : Option Addr} {n c k : Nat} {ns : List Int} (h : Src w (.slice ad n c) (ns.map I64)) (hk : k < ns.length) : ∃ a, ad = some a ∧ w.cell? (a.add k) = some (.int .i64 (ns.getD k 0)) := by
  obtain ⟨a, e, hc⟩ := h.cellAt (f := I64) (x := ns.getD k 0) (k := k) (by rw [List.getD_eq_getElem?_getD, List.getElem?_eq_getElem hk]; rfl)
  exact ⟨a, e, hc⟩
/-- A part of a slice. -/
theorem Src.part {w : World} {ad : Addr} {n c k m : Nat} {ns : List Int} (h : Src w (.slice (some ad) n c) (ns.map I64)) (hn : n = ns.length) (hk : k + m ≤ n) (hm : 1 ≤ m) : Src w (.slice (some (ad.add k)) m (c - k)) (((ns.drop k).take m).map I64) := by
  rcases h with ⟨e, -⟩ | ⟨ad', c', e, hle, hcell⟩
  · cases e
  · injection e with q1 q2 q3
    injection q1 with q1
    subst q1 q3
    rw [List.length_map] at hle
    have hl : (((ns.drop k).take m).map I64).length = m := by simp; omega
    refine .inr ⟨ad.add k, c - k, by rw [hl], by rw [hl]; omega, fun j u hu => ?_⟩
    have hj : j < m := by have := (List.getElem?_eq_some_iff.1 hu).1; omega
    rw [addr_add_add]
    refine hcell (k + j) u ?_
    rw [← hu, List.getElem?_map, List.getElem?_map, List.getElem?_take, if_pos hj, List.getElem?_drop]
theorem Src.numS {w : World} {a : Addr} {n c k : Nat} {ns : List Int} (h : Src w (.slice (some a) n c) (ns.map I64)) (hk : k < ns.length) : w.cell? (a.add k) = some (.int .i64 (ns.getD k 0)) := by
  obtain ⟨a', e, hc⟩ := h.num hk
  injection e with e
  subst e
  exact hc
end Go.Proofs.Ytendcmdpmohacaa

/-
  Blocks of numbers and their transform, by their places; the order of a block's places. Plain: no program text.
-/
namespace Go.Proofs.Ytendcmdpmohacaa

/-- A row's transform at a place: 2^k numbers. -/
def rowAt : Nat → (Nat → Int) → Nat → Int
  | 0, r, x => r x
  | k + 1, r, x => if x < 2 ^ k then rowAt k (fun j => (r (2 * j) + r (2 * j + 1)) / 2) x else r (2 * (x - 2 ^ k)) - r (2 * (x - 2 ^ k) + 1)
/-- What was transformed into a row, at a place. -/
def unrowAt : Nat → (Nat → Int) → Nat → Int
  | 0, r, x => r x
  | k + 1, r, x => unrowAt k r (x / 2) - r (2 ^ k + x / 2) / 2 + (if x % 2 = 0 then r (2 ^ k + x / 2) else 0)
theorem rowAt_succ (k : Nat) (r : Nat → Int) (x : Nat) : rowAt (k + 1) r x = if x < 2 ^ k then rowAt k (fun j => (r (2 * j) + r (2 * j + 1)) / 2) x else r (2 * (x - 2 ^ k)) - r (2 * (x - 2 ^ k) + 1) := rfl
theorem unrowAt_succ (k : Nat) (r : Nat → Int) (x : Nat) : unrowAt (k + 1) r x = unrowAt k r (x / 2) - r (2 ^ k + x / 2) / 2 + (if x % 2 = 0 then r (2 ^ k + x / 2) else 0) := rfl
/-- A block's transform at column x, row y; back. -/
def fwdAt (k : Nat) (f : Nat → Int) (x y : Nat) : Int := rowAt k (fun j => rowAt k (fun i => f (j * 2 ^ k + i)) x) y
def bckAt (k : Nat) (f : Nat → Int) (x y : Nat) : Int := unrowAt k (fun i => unrowAt k (fun j => f (j * 2 ^ k + i)) y) x
def blkL (k : Nat) (g : Nat → Nat → Int) : List Int := (List.range (2 ^ k * 2 ^ k)).map fun i => g (i % 2 ^ k) (i / 2 ^ k)
def numAt (b : List Int) (i : Nat) : Int := b.getD i 0
/-- Of a block with so many numbers: its side is 2^k. -/
def sideK (n : Nat) : Nat := if n = 16 then 2 else if n = 64 then 3 else 0
def withinB (b : List Int) (m : Int) : Bool := b.all fun v => decide (-m ≤ v) && decide (v ≤ m)
def liftF (b : List Int) : List Int × Int := if sideK b.length = 0 ∨ withinB b 1048576 = false then ([], 1) else (blkL (sideK b.length) (fwdAt (sideK b.length) (numAt b)), 0)
def liftB (b : List Int) : List Int × Int := if sideK b.length = 0 ∨ withinB b 67108864 = false then ([], 1) else (blkL (sideK b.length) (bckAt (sideK b.length) (numAt b)), 0)
/-- The order of a block's places: one diagonal, all. -/
def diag (n s : Nat) : List Nat := (List.range n).flatMap fun y => if y ≤ s ∧ s - y < n then [y * n + (s - y)] else []
def orderN (n : Nat) : List Nat := (List.range (2 * n - 1)).flatMap (diag n)
def orderL (n : Int) : List Nat := if n = 4 ∨ n = 8 then orderN n.toNat else []
def sideN (n : Nat) : Nat := if n = 16 then 4 else if n = 64 then 8 else 0
def sortL (b : List Int) : List Int := (orderL (sideN b.length)).map (numAt b)
def unsortL (b : List Int) : List Int := (List.range (orderL (sideN b.length)).length).map fun p => numAt b ((orderL (sideN b.length)).idxOf p)

/-! A number more everywhere. -/
theorem rowAt_congr : ∀ (k : Nat) (r s : Nat → Int) (x : Nat), x < 2 ^ k → (∀ j, j < 2 ^ k → r j = s j) → rowAt k r x = rowAt k s x
  | 0, r, s, x, hx, h => h x hx
  | k + 1, r, s, x, hx, h => by
    have e : 2 ^ (k + 1) = 2 * 2 ^ k := by rw [Nat.pow_succ, Nat.mul_comm]
    unfold rowAt
    split
    · rename_i h1
      exact rowAt_congr k _ _ x h1 fun j hj => by rw [h (2 * j) (by omega), h (2 * j + 1) (by omega)]
    · rw [h _ (by omega), h _ (by omega)]
theorem rowAt_shift : ∀ (k : Nat) (r : Nat → Int) (v : Int) (x : Nat), rowAt k (fun j => r j + v) x = rowAt k r x + (if x < 1 ∨ k = 0 then v else 0)
  | 0, r, v, x => by simp [rowAt]
  | k + 1, r, v, x => by
    unfold rowAt
    have hp := Nat.two_pow_pos k
    by_cases h1 : x < 2 ^ k
    · rw [if_pos h1, if_pos h1]
      have e : (fun j => (r (2 * j) + v + (r (2 * j + 1) + v)) / 2) = fun j => (r (2 * j) + r (2 * j + 1)) / 2 + v := by
        funext j
        omega
      rw [e, rowAt_shift k _ v x]
      congr 1
      by_cases hx : x < 1
      · rw [if_pos (.inl hx), if_pos (.inl hx)]
      · rw [if_neg (c := x < 1 ∨ k + 1 = 0) (by omega)]
        by_cases hk : k = 0
        · subst hk
          omega
        · rw [if_neg (by omega)]
    · rw [if_neg h1, if_neg h1, if_neg (by omega)]
      show r (2 * (x - 2 ^ k)) + v - (r (2 * (x - 2 ^ k) + 1) + v) = _
      omega
theorem rowAt_zero : ∀ (k x : Nat), rowAt k (fun _ => 0) x = 0
  | 0, x => rfl
  | k + 1, x => by
    unfold rowAt
    split
    · exact rowAt_zero k x
    · rfl
theorem fwd_shift (k : Nat) (f : Nat → Int) (v : Int) (x y : Nat) (hk : 1 ≤ k) : fwdAt k (fun i => f i + v) x y = fwdAt k f x y + (if x = 0 ∧ y = 0 then v else 0) := by
  unfold fwdAt
  by_cases hx : x = 0
  · have e : (fun j => rowAt k (fun i => f (j * 2 ^ k + i) + v) x) = fun j => rowAt k (fun i => f (j * 2 ^ k + i)) x + v := by
      funext j
      rw [rowAt_shift k (fun i => f (j * 2 ^ k + i)) v x, if_pos (.inl (by omega))]
    rw [e, rowAt_shift]
    congr 1
    by_cases hy : y = 0
    · rw [if_pos (.inl (by omega)), if_pos ⟨hx, hy⟩]
    · rw [if_neg (by omega), if_neg (fun h => hy h.2)]
  · have e : (fun j => rowAt k (fun i => f (j * 2 ^ k + i) + v) x) = fun j => rowAt k (fun i => f (j * 2 ^ k + i)) x := by
      funext j
      rw [rowAt_shift k (fun i => f (j * 2 ^ k + i)) v x, if_neg (by omega), Int.add_zero]
    rw [e, if_neg (fun h => hx h.1), Int.add_zero]
theorem fwd_zero (k x y : Nat) : fwdAt k (fun _ => 0) x y = 0 := by
  unfold fwdAt
  have e : (fun j : Nat => rowAt k (fun _ => 0) x) = fun _ => 0 := by funext j; exact rowAt_zero k x
  rw [e]
  exact rowAt_zero k y
theorem fwd_flat (k : Nat) (v : Int) (x y : Nat) (hk : 1 ≤ k) : fwdAt k (fun _ => v) x y = if x = 0 ∧ y = 0 then v else 0 := by
  have := fwd_shift k (fun _ => 0) v x y hk
  rw [fwd_zero] at this
  simpa using this

/-! How great. -/
theorem rowAt_le : ∀ (k : Nat) (r : Nat → Int) (m : Int) (x : Nat), x < 2 ^ k → (∀ j, j < 2 ^ k → -m ≤ r j ∧ r j ≤ m) → (-(2 * m) ≤ rowAt k r x ∧ rowAt k r x ≤ 2 * m) ∧ (x = 0 → -m ≤ rowAt k r x ∧ rowAt k r x ≤ m)
  | 0, r, m, x, hx, h => by
    have := h x hx
    unfold rowAt
    omega
  | k + 1, r, m, x, hx, h => by
    have e : 2 ^ (k + 1) = 2 * 2 ^ k := by rw [Nat.pow_succ, Nat.mul_comm]
    have hp := Nat.two_pow_pos k
    unfold rowAt
    split
    · rename_i h1
      refine rowAt_le k _ m x h1 fun j hj => ?_
      have a := h (2 * j) (by omega)
      have b := h (2 * j + 1) (by omega)
      omega
    · have a := h (2 * (x - 2 ^ k)) (by omega)
      have b := h (2 * (x - 2 ^ k) + 1) (by omega)
      exact ⟨by omega, fun hx0 => by omega⟩
theorem cell_of {n x y : Nat} (hx : x < n) (hy : y < n) : y * n + x < n * n := by
  have : (y + 1) * n ≤ n * n := Nat.mul_le_mul_right _ hy
  rw [Nat.add_mul] at this
  omega
theorem fwd_le (k : Nat) (f : Nat → Int) (m : Int) (x y : Nat) (hx : x < 2 ^ k) (hy : y < 2 ^ k) (h : ∀ i, i < 2 ^ k * 2 ^ k → -m ≤ f i ∧ f i ≤ m) :
    (-(4 * m) ≤ fwdAt k f x y ∧ fwdAt k f x y ≤ 4 * m) ∧ (x = 0 → y = 0 → -m ≤ fwdAt k f x y ∧ fwdAt k f x y ≤ m) := by
  have hrow := fun j (hj : j < 2 ^ k) => rowAt_le k (fun i => f (j * 2 ^ k + i)) m x hx fun i hi => h _ (cell_of hi hj)
  unfold fwdAt
  refine ⟨?_, fun hx0 hy0 => ?_⟩
  · have := (rowAt_le k (fun j => rowAt k (fun i => f (j * 2 ^ k + i)) x) (2 * m) y hy fun j hj => (hrow j hj).1).1
    omega
  · exact (rowAt_le k (fun j => rowAt k (fun i => f (j * 2 ^ k + i)) x) m y hy fun j hj => (hrow j hj).2 hx0).2 hy0

theorem blkL_length (k : Nat) (g : Nat → Nat → Int) : (blkL k g).length = 2 ^ k * 2 ^ k := by simp [blkL]
theorem blkL_get (k : Nat) (g : Nat → Nat → Int) {i : Nat} (h : i < 2 ^ k * 2 ^ k) : numAt (blkL k g) i = g (i % 2 ^ k) (i / 2 ^ k) := by
  unfold numAt blkL
  rw [List.getD_eq_getElem?_getD, List.getElem?_map, List.getElem?_range h]
  rfl

/-! Sorted and unsorted. -/
theorem order_perm4 : ∀ p, p < 16 → (orderL 4).idxOf p < 16 ∧ (orderL 4)[(orderL 4).idxOf p]? = some p := by decide
theorem order_perm8 : ∀ p, p < 64 → (orderL 8).idxOf p < 64 ∧ (orderL 8)[(orderL 8).idxOf p]? = some p := by decide +kernel
theorem order_back4 : ∀ i, i < 16 → (orderL 4).getD i 0 < 16 ∧ (orderL 4).idxOf ((orderL 4).getD i 0) = i := by decide
theorem order_back8 : ∀ i, i < 64 → (orderL 8).getD i 0 < 64 ∧ (orderL 8).idxOf ((orderL 8).getD i 0) = i := by decide +kernel
end Go.Proofs.Ytendcmdpmohacaa

/-
  The transform by lists, as the document's functions make it. Plain: no program text.
-/
namespace Go.Proofs.Ytendcmdpmohacaa

theorem numAt_map {n : Nat} {f : Nat → Int} {i : Nat} (h : i < n) : numAt ((List.range n).map f) i = f i := by
  unfold numAt
  rw [List.getD_eq_getElem?_getD, List.getElem?_map, List.getElem?_range h]
  rfl
theorem num_ext {a b : List Int} (h : a.length = b.length) (k : ∀ i, i < a.length → numAt a i = numAt b i) : a = b := by
  apply List.ext_getElem?
  intro i
  by_cases hi : i < a.length
  · have := k i hi
    unfold numAt at this
    rw [List.getD_eq_getElem?_getD, List.getD_eq_getElem?_getD, List.getElem?_eq_getElem hi, List.getElem?_eq_getElem (by omega)] at this
    rw [List.getElem?_eq_getElem hi, List.getElem?_eq_getElem (by omega)]
    simpa using this
  · rw [List.getElem?_eq_none (by omega), List.getElem?_eq_none (by omega)]

/-! A row. -/
def rowL (k : Nat) (l : List Int) : List Int := (List.range (2 ^ k)).map (rowAt k (numAt l))
def lowsL (l : List Int) (m : Nat) : List Int := (List.range m).map fun j => (numAt l (2 * j) + numAt l (2 * j + 1)) / 2
def highsL (l : List Int) (m : Nat) : List Int := (List.range m).map fun j => numAt l (2 * j) - numAt l (2 * j + 1)
theorem rowL_length (k : Nat) (l : List Int) : (rowL k l).length = 2 ^ k := by simp [rowL]
theorem rowL_zero {l : List Int} (h : l.length = 1) : rowL 0 l = l := by
  apply num_ext
  · rw [rowL_length, h]
  · intro i hi
    rw [rowL_length] at hi
    exact numAt_map hi
theorem rowL_succ (k : Nat) (l : List Int) : rowL (k + 1) l = rowL k (lowsL l (2 ^ k)) ++ highsL l (2 ^ k) := by
  have e : 2 ^ (k + 1) = 2 ^ k + 2 ^ k := by rw [Nat.pow_succ]; omega
  unfold rowL highsL
  rw [e, List.range_add, List.map_append, List.map_map]
  congr 1
  · apply List.map_congr_left
    intro x hx
    rw [List.mem_range] at hx
    rw [rowAt_succ, if_pos hx]
    exact rowAt_congr k _ _ x hx fun j hj => (numAt_map (f := fun j => (numAt l (2 * j) + numAt l (2 * j + 1)) / 2) hj).symm
  · apply List.map_congr_left
    intro x hx
    show rowAt (k + 1) (numAt l) (2 ^ k + x) = _
    rw [rowAt_succ, if_neg (by omega), Nat.add_sub_cancel_left]

def unrowL (k : Nat) (l : List Int) : List Int := (List.range (2 ^ k)).map (unrowAt k (numAt l))
theorem unrowL_length (k : Nat) (l : List Int) : (unrowL k l).length = 2 ^ k := by simp [unrowL]
theorem unrowL_zero {l : List Int} (h : l.length = 1) : unrowL 0 l = l := by
  apply num_ext
  · rw [unrowL_length, h]
  · intro i hi
    rw [unrowL_length] at hi
    exact numAt_map hi
theorem unrowAt_congr : ∀ (k : Nat) (r s : Nat → Int) (x : Nat), x < 2 ^ k → (∀ j, j < 2 ^ k → r j = s j) → unrowAt k r x = unrowAt k s x
  | 0, r, s, x, hx, h => h x hx
  | k + 1, r, s, x, hx, h => by
    have e : 2 ^ (k + 1) = 2 * 2 ^ k := by rw [Nat.pow_succ, Nat.mul_comm]
    unfold unrowAt
    rw [unrowAt_congr k r s (x / 2) (by omega) (fun j hj => h j (by omega)), h (2 ^ k + x / 2) (by omega)]
/-- The first i pairs of a row that is taken back. -/
def unpairs (k : Nat) (l : List Int) (i : Nat) : List Int := (List.range (2 * i)).map (unrowAt (k + 1) (numAt l))
theorem unpairs_length (k : Nat) (l : List Int) (i : Nat) : (unpairs k l i).length = 2 * i := by simp [unpairs]
theorem unpairs_zero (k : Nat) (l : List Int) : unpairs k l 0 = [] := rfl
theorem unpairs_full (k : Nat) (l : List Int) : unpairs k l (2 ^ k) = unrowL (k + 1) l := by
  unfold unpairs unrowL
  rw [Nat.pow_succ, Nat.mul_comm]
theorem take_num {l : List Int} {n j : Nat} (h : j < n) : numAt (l.take n) j = numAt l j := by
  unfold numAt
  rw [List.getD_eq_getElem?_getD, List.getD_eq_getElem?_getD, List.getElem?_take, if_pos h]
theorem unpairs_succ (k : Nat) (l : List Int) (i : Nat) (hi : i < 2 ^ k) :
    unpairs k l (i + 1) = unpairs k l i ++ [numAt (unrowL k (l.take (2 ^ k))) i - numAt l (2 ^ k + i) / 2 + numAt l (2 ^ k + i), numAt (unrowL k (l.take (2 ^ k))) i - numAt l (2 ^ k + i) / 2] := by
  have hlow : numAt (unrowL k (l.take (2 ^ k))) i = unrowAt k (numAt l) i := by
    unfold unrowL
    rw [numAt_map hi]
    exact unrowAt_congr k _ _ i hi fun j hj => take_num hj
  unfold unpairs
  rw [show 2 * (i + 1) = 2 * i + 1 + 1 by omega, List.range_succ, List.range_succ, List.map_append, List.map_append, List.append_assoc]
  congr 1
  rw [hlow]
  have e1 : 2 * i / 2 = i := by omega
  have e2 : (2 * i + 1) / 2 = i := by omega
  have e3 : 2 * i % 2 = 0 := by omega
  have e4 : ¬ (2 * i + 1) % 2 = 0 := by omega
  simp only [List.map_cons, List.map_nil, List.cons_append, List.nil_append]
  rw [unrowAt_succ, unrowAt_succ, e1, e2, if_pos e3, if_neg e4, Int.add_zero]

/-! How great what is taken back may be. -/
theorem unrowAt_le : ∀ (k : Nat) (r : Nat → Int) (m : Int) (x : Nat), x < 2 ^ k → 1 ≤ m → (∀ j, j < 2 ^ k → -m ≤ r j ∧ r j ≤ m) → -((2 * k + 1 : Nat) * m) ≤ unrowAt k r x ∧ unrowAt k r x ≤ (2 * k + 1 : Nat) * m
  | 0, r, m, x, hx, _, h => by
    have := h x hx
    unfold unrowAt
    simp
    omega
  | k + 1, r, m, x, hx, hm, h => by
    have e : 2 ^ (k + 1) = 2 * 2 ^ k := by rw [Nat.pow_succ, Nat.mul_comm]
    have h1 := unrowAt_le k r m (x / 2) (by omega) hm (fun j hj => h j (by omega))
    have h2 := h (2 ^ k + x / 2) (by omega)
    have e2 : ((2 * (k + 1) + 1 : Nat) : Int) * m = ((2 * k + 1 : Nat) : Int) * m + 2 * m := by
      rw [show ((2 * (k + 1) + 1 : Nat) : Int) = ((2 * k + 1 : Nat) : Int) + 2 by omega, Int.add_mul]
    rw [e2]
    generalize ((2 * k + 1 : Nat) : Int) * m = U at h1
    unfold unrowAt
    split <;> omega

/-! Blocks. -/
def turnL (n : Nat) (b : List Int) : List Int := (List.range (n * n)).map fun i => numAt b (i % n * n + i / n)
def rowsL (back : Bool) (k : Nat) (b : List Int) : List Int := (List.range (2 ^ k * 2 ^ k)).map fun i => if back then unrowAt k (fun j => numAt b (i / 2 ^ k * 2 ^ k + j)) (i % 2 ^ k) else rowAt k (fun j => numAt b (i / 2 ^ k * 2 ^ k + j)) (i % 2 ^ k)
/-- The first m numbers of a turned block. -/
def turnTo (n : Nat) (b : List Int) (m : Nat) : List Int := (List.range m).map fun i => numAt b (i % n * n + i / n)
theorem turnTo_length (n : Nat) (b : List Int) (m : Nat) : (turnTo n b m).length = m := by simp [turnTo]
theorem turnTo_succ {n : Nat} (b : List Int) {x y : Nat} (hy : y < n) : turnTo n b (x * n + y + 1) = turnTo n b (x * n + y) ++ [numAt b (y * n + x)] := by
  unfold turnTo
  rw [List.range_succ, List.map_append]
  congr 1
  have e1 : (x * n + y) % n = y := by rw [Nat.mul_comm, Nat.mul_add_mod, Nat.mod_eq_of_lt hy]
  have e2 : (x * n + y) / n = x := by rw [Nat.mul_comm, Nat.mul_add_div (by omega), Nat.div_eq_of_lt hy, Nat.add_zero]
  simp only [List.map_cons, List.map_nil, e1, e2]
theorem turnL_length (n : Nat) (b : List Int) : (turnL n b).length = n * n := by simp [turnL]
theorem rowsL_length (back : Bool) (k : Nat) (b : List Int) : (rowsL back k b).length = 2 ^ k * 2 ^ k := by simp [rowsL]
theorem divmod {n x y : Nat} (hx : x < n) : (y * n + x) % n = x ∧ (y * n + x) / n = y := by
  refine ⟨?_, ?_⟩
  · rw [Nat.mul_comm, Nat.mul_add_mod, Nat.mod_eq_of_lt hx]
  · rw [Nat.mul_comm, Nat.mul_add_div (by omega), Nat.div_eq_of_lt hx, Nat.add_zero]
theorem turnL_at {n : Nat} {b : List Int} {x y : Nat} (hx : x < n) (hy : y < n) : numAt (turnL n b) (y * n + x) = numAt b (x * n + y) := by
  unfold turnL
  rw [numAt_map (cell_of hx hy)]
  obtain ⟨e1, e2⟩ := divmod (y := y) hx
  simp only [e1, e2]
theorem rowsL_at {back : Bool} {k : Nat} {b : List Int} {x y : Nat} (hx : x < 2 ^ k) (hy : y < 2 ^ k) :
    numAt (rowsL back k b) (y * 2 ^ k + x) = if back then unrowAt k (fun j => numAt b (y * 2 ^ k + j)) x else rowAt k (fun j => numAt b (y * 2 ^ k + j)) x := by
  unfold rowsL
  rw [numAt_map (cell_of hx hy)]
  obtain ⟨e1, e2⟩ := divmod (y := y) hx
  simp only [e1, e2]
theorem by_cell {n i : Nat} (h : i < n * n) : i % n < n ∧ i / n < n ∧ i / n * n + i % n = i := by
  have hn : 0 < n := by
    rcases Nat.eq_zero_or_pos n with rfl | h0
    · simp at h
    · exact h0
  refine ⟨Nat.mod_lt _ hn, Nat.div_lt_of_lt_mul h, ?_⟩
  rw [Nat.mul_comm]
  exact Nat.div_add_mod i n
theorem fwd_list (k : Nat) (b : List Int) : turnL (2 ^ k) (rowsL false k (turnL (2 ^ k) (rowsL false k b))) = blkL k (fwdAt k (numAt b)) := by
  apply num_ext
  · rw [turnL_length, blkL_length]
  · intro i hi
    rw [turnL_length] at hi
    obtain ⟨hx, hy, he⟩ := by_cell hi
    rw [blkL_get k _ hi]
    generalize i % 2 ^ k = x at hx he
    generalize i / 2 ^ k = y at hy he
    rw [← he, turnL_at hx hy, rowsL_at hy hx, if_neg (by simp)]
    unfold fwdAt
    refine rowAt_congr k _ _ y hy fun j hj => ?_
    rw [turnL_at hj hx, rowsL_at hx hj, if_neg (by simp)]
theorem bck_list (k : Nat) (b : List Int) : rowsL true k (turnL (2 ^ k) (rowsL true k (turnL (2 ^ k) b))) = blkL k (bckAt k (numAt b)) := by
  apply num_ext
  · rw [rowsL_length, blkL_length]
  · intro i hi
    rw [rowsL_length] at hi
    obtain ⟨hx, hy, he⟩ := by_cell hi
    rw [blkL_get k _ hi]
    generalize i % 2 ^ k = x at hx he
    generalize i / 2 ^ k = y at hy he
    rw [← he, rowsL_at hx hy, if_pos rfl]
    unfold bckAt
    refine unrowAt_congr k _ _ x hx fun j hj => ?_
    rw [turnL_at hj hy, rowsL_at hy hj, if_pos rfl]
    refine unrowAt_congr k _ _ y hy fun i' hi' => ?_
    rw [turnL_at hi' hj]
/-- A row of a block. -/
def rowOfB (b : List Int) (n y : Nat) : List Int := (b.drop (y * n)).take n
theorem rowOfB_at {b : List Int} {n y j : Nat} (hj : j < n) : numAt (rowOfB b n y) j = numAt b (y * n + j) := by
  unfold rowOfB numAt
  rw [List.getD_eq_getElem?_getD, List.getD_eq_getElem?_getD, List.getElem?_take, if_pos hj, List.getElem?_drop]
/-- The first y rows. -/
def rowsTo (back : Bool) (k : Nat) (b : List Int) (y : Nat) : List Int := (List.range (y * 2 ^ k)).map fun i => if back then unrowAt k (fun j => numAt b (i / 2 ^ k * 2 ^ k + j)) (i % 2 ^ k) else rowAt k (fun j => numAt b (i / 2 ^ k * 2 ^ k + j)) (i % 2 ^ k)
theorem rowsTo_length (back : Bool) (k : Nat) (b : List Int) (y : Nat) : (rowsTo back k b y).length = y * 2 ^ k := by simp [rowsTo]
theorem rowsTo_succ (back : Bool) (k : Nat) (b : List Int) (y : Nat) : rowsTo back k b (y + 1) = rowsTo back k b y ++ (if back then unrowL k (rowOfB b (2 ^ k) y) else rowL k (rowOfB b (2 ^ k) y)) := by
  unfold rowsTo
  rw [Nat.add_mul, Nat.one_mul, List.range_add, List.map_append, List.map_map]
  congr 1
  cases back
  · rw [if_neg (by simp)]
    unfold rowL
    apply List.map_congr_left
    intro x hx
    rw [List.mem_range] at hx
    obtain ⟨e1, e2⟩ := divmod (y := y) hx
    simp only [Function.comp, e1, e2]
    rw [if_neg (by simp)]
    exact rowAt_congr k _ _ x hx fun j hj => (rowOfB_at hj).symm
  · rw [if_pos rfl]
    unfold unrowL
    apply List.map_congr_left
    intro x hx
    rw [List.mem_range] at hx
    obtain ⟨e1, e2⟩ := divmod (y := y) hx
    simp only [Function.comp, e1, e2]
    rw [if_pos trivial]
    exact unrowAt_congr k _ _ x hx fun j hj => (rowOfB_at hj).symm
end Go.Proofs.Ytendcmdpmohacaa

/-
  Contracts of the document's lift: side, floor, within, Same, turned. Conditions: rows of bounded length.
-/
namespace Go.Proofs.Ytendcmdpmohacaa
open Go.RowKit

theorem rside7_any (n : Nat) (w : World) (hn : n ≤ 1000000) :
    Calls Try.prog 69 #[.int .i64 (n : Int)] w fun e w' => e = .returned (.int .i64 (sideN n : Int)) ∧ w' = w := by
  by_cases h1 : n = 16
  · subst h1
    go_enter Try.func69, Try.ntmps69
    go_wp2_with fail
    go_ret
    exact ⟨rfl, rfl⟩
  · by_cases h2 : n = 64
    · subst h2
      go_enter Try.func69, Try.ntmps69
      go_wp2_with fail
      go_ret
      exact ⟨rfl, rfl⟩
    · have e1 : ((n : Int) == 16) = false := by simp; omega
      have e2 : ((n : Int) == 64) = false := by simp; omega
      have hs : sideN n = 0 := by unfold sideN; rw [if_neg h1, if_neg h2]
      rw [hs]
      clear h1 h2 hs
      go_enter Try.func69, Try.ntmps69
      go_wp2_with fail
      go_ret
      exact ⟨rfl, rfl⟩

theorem all_take (b : List Int) (i : Nat) (m : Int) (h : ∀ j, j < i → -m ≤ numAt b j ∧ numAt b j ≤ m) (hi : i = b.length) : withinB b m = true := by
  unfold withinB
  rw [List.all_eq_true]
  intro v hv
  obtain ⟨j, hj, rfl⟩ := List.getElem_of_mem hv
  have := h j (by omega)
  unfold numAt at this
  rw [List.getD_eq_getElem?_getD, List.getElem?_eq_getElem hj] at this
  simpa using this
theorem within_at {b : List Int} {m : Int} (h : withinB b m = true) {j : Nat} (hj : j < b.length) : -m ≤ numAt b j ∧ numAt b j ≤ m := by
  unfold withinB at h
  rw [List.all_eq_true] at h
  have := h b[j] (List.getElem_mem hj)
  unfold numAt
  rw [List.getD_eq_getElem?_getD, List.getElem?_eq_getElem hj]
  simpa using this

theorem rsame7_any (A : Option Addr) (c : Nat) (a : List Int) (B : Option Addr) (d : Nat) (b : List Int) (w : World) (hs : Src w (.slice A a.length c) (a.map I64)) (ht : Src w (.slice B b.length d) (b.map I64)) (ha : a.length ≤ 1000000) (hb : b.length ≤ 1000000) :
    Calls Try.prog 19 #[.slice A a.length c, .slice B b.length d] w fun e w' => e = .returned (.bool (decide (a = b))) ∧ Fr [] w w' := by
  obtain ⟨n, hn⟩ : ∃ n, n = a.length := ⟨_, rfl⟩
  obtain ⟨m, hm⟩ : ∃ m, m = b.length := ⟨_, rfl⟩
  have HS := Lib.hid hs; have HT := Lib.hid ht; have Hn := Lib.hid hn; have Hm := Lib.hid hm
  rw [← hn] at ha ⊢
  rw [← hm] at hb ⊢
  obtain ⟨R, hR⟩ : ∃ R, R = decide (a = b) := ⟨_, rfl⟩
  rw [← hR]
  have HR := Lib.hid hR
  clear hs ht hn hm hR
  by_cases hl : n = m
  · subst hl
    have t1 : ((n : Int) != (n : Int)) = false := by simp
    go_enter Try.func19, Try.ntmps19
    go_wp2_with fail
    go_loopw [5] (fun s5 wr => ∃ i : Nat, i ≤ n ∧ s5 = .int .i64 (i : Int) ∧ Fr [] w wr ∧ ∀ j, j < i → numAt a j = numAt b j) (fun s5 _ => n - (intOf s5).toNat)
    case atStart => exact ⟨0, by omega, rfl, Fr.refl _ _, by omega⟩
    case round =>
      obtain ⟨i, hi, rfl, hF, hall⟩ := hrel
      have Hall := Lib.hid hall
      by_cases hlt : i < n
      · obtain ⟨ad, rfl, cx⟩ := (HS.out.fr0 hF).num (k := i) (by have := Hn.out; omega)
        obtain ⟨bd, rfl, cy⟩ := (HT.out.fr0 hF).num (k := i) (by have := Hm.out; omega)
        obtain ⟨u, hu⟩ : ∃ u, u = a.getD i 0 := ⟨_, rfl⟩
        obtain ⟨v, hv⟩ : ∃ v, v = b.getD i 0 := ⟨_, rfl⟩
        rw [← hu] at cx
        rw [← hv] at cy
        have Hu := Lib.hid hu; have Hv := Lib.hid hv; have HF := Lib.hid hF
        have eg : decide (i < n) = true := by simpa using hlt
        clear hu hv hF hall
        by_cases huv : u = v
        · have t2 : (u != v) = false := by simpa using huv
          have Huv := Lib.hid huv
          clear huv
          go_upto_region 6 with fail
          go_quiet (fail)
          have HF2 := Lib.hid (HF.out.drewN nq)
          go_wp2_with fail
          refine ⟨⟨i + 1, by omega, by simp, HF2.out, fun j hj => ?_⟩, by simp [intOf]; omega⟩
          by_cases hji : j = i
          · subst hji
            unfold numAt
            rw [← Hu.out, ← Hv.out, Huv.out]
          · exact Hall.out j (by omega)
        · have t2 : (u != v) = true := by simpa using huv
          have hr : R = false := by
            rw [HR.out]
            simp only [decide_eq_false_iff_not]
            rintro rfl
            exact huv (Hu.out.trans Hv.out.symm)
          have Hr := Lib.hid hr
          clear huv hr
          go_upto_region 6 with fail
          go_quiet (fail)
          have HF2 := Lib.hid (HF.out.drewN nq)
          go_wp2_with fail
          go_ret
          exact ⟨by rw [Hr.out]; rfl, HF2.out⟩
      · have eg : decide (i < n) = false := by simpa using hlt
        have hr : R = true := by
          rw [HR.out]
          simp only [decide_eq_true_eq]
          exact num_ext (by rw [← Hn.out, ← Hm.out]) fun j hj => hall j (by have := Hn.out; omega)
        have Hr := Lib.hid hr; have HF := Lib.hid hF
        clear hr hF hall
        go_wp2_with fail
        go_ret
        exact ⟨by rw [Hr.out]; rfl, HF.out⟩
  · have t1 : ((n : Int) != (m : Int)) = true := by simp; omega
    have hr : R = false := by
      rw [HR.out]
      simp only [decide_eq_false_iff_not]
      rintro rfl
      exact hl (Hn.out.trans Hm.out.symm)
    have Hr := Lib.hid hr
    clear hl hr
    go_enter Try.func19, Try.ntmps19
    go_wp2_with fail
    go_ret
    exact ⟨by rw [Hr.out]; rfl, Fr.refl _ _⟩
end Go.Proofs.Ytendcmdpmohacaa

/-
  Contracts of the document's lift: turned. Conditions: blocks of bounded length.
-/
namespace Go.Proofs.Ytendcmdpmohacaa
open Go.RowKit

end Go.Proofs.Ytendcmdpmohacaa

/-
  Contracts of the document's lift: Row. Conditions: rows of 2^k numbers, k at most 4; numbers within 2^38.
-/
namespace Go.Proofs.Ytendcmdpmohacaa
open Go.RowKit

theorem lowsL_length (l : List Int) (m : Nat) : (lowsL l m).length = m := by simp [lowsL]
theorem highsL_length (l : List Int) (m : Nat) : (highsL l m).length = m := by simp [highsL]
theorem lowsL_succ (l : List Int) (m : Nat) : lowsL l (m + 1) = lowsL l m ++ [(numAt l (2 * m) + numAt l (2 * m + 1)) / 2] := by
  unfold lowsL
  rw [List.range_succ, List.map_append]
  rfl
theorem highsL_succ (l : List Int) (m : Nat) : highsL l (m + 1) = highsL l m ++ [numAt l (2 * m) - numAt l (2 * m + 1)] := by
  unfold highsL
  rw [List.range_succ, List.map_append]
  rfl
theorem lowsL_at {l : List Int} {m j : Nat} (h : j < m) : numAt (lowsL l m) j = (numAt l (2 * j) + numAt l (2 * j + 1)) / 2 := numAt_map h

/-- Two rows of a call's own, apart. -/
structure TwoN (w0 w : World) (v u : Value) (ns ms : List Int) : Prop where
  a : MineN w0 w v ns
  b : MineN w0 w u ms
  ne : ∀ k, v.ownBlock = some k → u.ownBlock ≠ some k
theorem TwoN.fr0 {w0 w w' : World} {v u : Value} {ns ms : List Int} (h : TwoN w0 w v u ns ms) (hf : Fr [] w w') : TwoN w0 w' v u ns ms := ⟨h.a.fr0 hf, h.b.fr0 hf, h.ne⟩
theorem TwoN.first {w0 w w' : World} {v v' u : Value} {ns ms xs : List Int} (h : TwoN w0 w v u ns ms) (hO : Own w' 3 v' ((ns ++ xs).map I64)) (hG : Own1 v v' w w') : TwoN w0 w' v' u (ns ++ xs) ms := by
  refine ⟨h.a.appended hO hG, h.b.beside hG (fun k hk hv => h.ne k hv hk) h.a.new, fun k hk hu => ?_⟩
  rcases hG.2 with e | ⟨g, e, hg⟩
  · rw [e] at hk; exact h.ne k hk hu
  · rw [e] at hk
    injection hk with hk
    subst hk
    have := h.b.own.lt g hu
    omega
theorem TwoN.second {w0 w w' : World} {v u u' : Value} {ns ms xs : List Int} (h : TwoN w0 w v u ns ms) (hO : Own w' 3 u' ((ms ++ xs).map I64)) (hG : Own1 u u' w w') : TwoN w0 w' v u' ns (ms ++ xs) := by
  refine ⟨h.a.beside hG (fun k hk hu => h.ne k hk hu) h.b.new, h.b.appended hO hG, fun k hk hu => ?_⟩
  rcases hG.2 with e | ⟨g, e, hg⟩
  · rw [e] at hu; exact h.ne k hk hu
  · rw [e] at hu
    injection hu with hu
    subst hu
    have := h.a.own.lt g hk
    omega

end Go.Proofs.Ytendcmdpmohacaa

/-
  Contracts of the document's lift: Unrow. Conditions: rows of 2^k numbers, k at most 4; numbers within 2^34.
-/
namespace Go.Proofs.Ytendcmdpmohacaa
open Go.RowKit

theorem unrowL_at {k : Nat} {l : List Int} {j : Nat} (h : j < 2 ^ k) : numAt (unrowL k l) j = unrowAt k (numAt l) j := numAt_map h

end Go.Proofs.Ytendcmdpmohacaa

/-
  Contracts of the document's lift: rows. Conditions: blocks of 4 by 4 or 8 by 8; numbers within 2^34.
-/
namespace Go.Proofs.Ytendcmdpmohacaa
open Go.RowKit

def Bnd (b : List Int) (m : Int) : Prop := ∀ i, i < b.length → -m ≤ numAt b i ∧ numAt b i ≤ m
theorem turnL_bnd {n : Nat} {b : List Int} {m : Int} (h : Bnd b m) (hl : b.length = n * n) : Bnd (turnL n b) m := by
  intro i hi
  rw [turnL_length] at hi
  obtain ⟨hx, hy, he⟩ := by_cell hi
  unfold turnL
  rw [numAt_map hi]
  exact h _ (by rw [hl]; exact cell_of hy hx)
theorem rowsL_bnd {k : Nat} {b : List Int} {m : Int} (h : Bnd b m) (hl : b.length = 2 ^ k * 2 ^ k) : Bnd (rowsL false k b) (2 * m) := by
  intro i hi
  rw [rowsL_length] at hi
  obtain ⟨hx, hy, he⟩ := by_cell hi
  rw [← he, rowsL_at hx hy, if_neg (by simp)]
  exact (rowAt_le k _ m _ hx fun j hj => h _ (by rw [hl]; exact cell_of hj hy)).1
theorem rowsL_bnd2 {k : Nat} {b : List Int} {m : Int} (h : Bnd b m) (hl : b.length = 2 ^ k * 2 ^ k) (hk : k ≤ 3) (hm : 1 ≤ m) : Bnd (rowsL true k b) (7 * m) := by
  intro i hi
  rw [rowsL_length] at hi
  obtain ⟨hx, hy, he⟩ := by_cell hi
  rw [← he, rowsL_at hx hy, if_pos rfl]
  have := unrowAt_le k (fun j => numAt b (i / 2 ^ k * 2 ^ k + j)) m _ hx hm fun j hj => h _ (by rw [hl]; exact cell_of hj hy)
  have h7 : ((2 * k + 1 : Nat) : Int) * m ≤ 7 * m := Int.mul_le_mul_of_nonneg_right (by omega) (by omega)
  omega

end Go.Proofs.Ytendcmdpmohacaa

/-
  Contracts of the document's lift: Forward, Back. Conditions: rows of bounded length.
-/
namespace Go.Proofs.Ytendcmdpmohacaa
open Go.RowKit

/-- Numbers answered, with an error's number. -/
def NumErr (w : World) (R : List Int × Int) (e : Ending) (w' : World) : Prop :=
  ∃ A c, e = .returned (.tuple #[.slice A R.1.length c, .int .i64 R.2]) ∧ Src w' (.slice A R.1.length c) (R.1.map I64) ∧ Fr [] w w'
theorem NumErr.none {w w' : World} {R : List Int × Int} (h : R = ([], 1)) (hf : Fr [] w w') : NumErr w R (.returned (.tuple #[.slice none 0 0, .int .i64 1])) w' := by
  subst h
  exact ⟨Option.none, 0, rfl, .inl ⟨rfl, rfl⟩, hf⟩
theorem side_pow {n : Nat} (h : sideN n ≠ 0) : ∃ k, k = sideK n ∧ sideN n = 2 ^ k ∧ n = 2 ^ k * 2 ^ k ∧ 1 ≤ k ∧ k ≤ 3 := by
  unfold sideN at *
  unfold sideK
  by_cases h1 : n = 16
  · subst h1
    exact ⟨2, by simp, by simp, by simp, by omega, by omega⟩
  · by_cases h2 : n = 64
    · subst h2
      exact ⟨3, by simp, by simp, by simp, by omega, by omega⟩
    · rw [if_neg h1, if_neg h2] at h
      exact absurd rfl h
theorem side_zero {n : Nat} (h : sideN n = 0) : sideK n = 0 := by
  unfold sideN at h
  unfold sideK
  by_cases h1 : n = 16
  · rw [if_pos h1] at h; omega
  · by_cases h2 : n = 64
    · rw [if_neg h1, if_pos h2] at h; omega
    · rw [if_neg h1, if_neg h2]
theorem within_bnd {b : List Int} {m : Int} (h : withinB b m = true) : Bnd b m := fun _ hi => within_at h hi

end Go.Proofs.Ytendcmdpmohacaa

/-
  Contracts of the document's lift: Back. Conditions: rows of bounded length.
-/
namespace Go.Proofs.Ytendcmdpmohacaa
open Go.RowKit

end Go.Proofs.Ytendcmdpmohacaa

/-
  Contracts of the document's lift: Order. Condition: the number is an int's.
-/
namespace Go.Proofs.Ytendcmdpmohacaa
open Go.RowKit

def ints (l : List Nat) : List Int := l.map fun (p : Nat) => (p : Int)
theorem ints_length (l : List Nat) : (ints l).length = l.length := by simp [ints]
theorem ints_append (a b : List Nat) : ints (a ++ b) = ints a ++ ints b := by simp [ints]
/-- The first y places of a diagonal; the first s diagonals. -/
def diagTo (n s y : Nat) : List Nat := (List.range y).flatMap fun y => if y ≤ s ∧ s - y < n then [y * n + (s - y)] else []
def orderTo (n s : Nat) : List Nat := (List.range s).flatMap (diag n)
theorem diagTo_succ (n s y : Nat) : diagTo n s (y + 1) = diagTo n s y ++ (if y ≤ s ∧ s - y < n then [y * n + (s - y)] else []) := by
  unfold diagTo
  rw [List.range_succ, List.flatMap_append]
  simp
theorem orderTo_succ (n s : Nat) : orderTo n (s + 1) = orderTo n s ++ diagTo n s n := by
  unfold orderTo
  rw [List.range_succ, List.flatMap_append]
  simp [diag, diagTo]
theorem diagTo_len (n s : Nat) : ∀ y, (diagTo n s y).length ≤ y
  | 0 => by simp [diagTo]
  | y + 1 => by
    have := diagTo_len n s y
    rw [diagTo_succ, List.length_append]
    split <;> simp <;> omega
theorem orderTo_len (n : Nat) : ∀ s, (orderTo n s).length ≤ s * n
  | 0 => by simp [orderTo]
  | s + 1 => by
    have h1 := orderTo_len n s
    have h2 := diagTo_len n s n
    rw [orderTo_succ, List.length_append, Nat.add_mul]
    omega
theorem orderN_to (n : Nat) : orderN n = orderTo n (2 * n - 1) := rfl

set_option maxRecDepth 20000 in
theorem rorder7_bad (n : Int) (w : World) (h4 : n ≠ 4) (h8 : n ≠ 8) :
    Calls Try.prog 68 #[.int .i64 n] w (NumsPost w []) := by
  have t4 : (n == 4) = false := by simpa using h4
  have t8 : (n == 8) = false := by simpa using h8
  obtain ⟨R, hR⟩ : ∃ R, R = NumsPost w [] := ⟨_, rfl⟩
  have Hend := Lib.hid (show R (.returned (.slice none 0 0)) w by rw [hR]; exact ⟨none, 0, rfl, .inl ⟨rfl, rfl⟩, Fr.refl _ _⟩)
  rw [← hR]
  clear h4 h8 hR
  go_enter Try.func68, Try.ntmps68
  go_wp2_with fail
  go_loopw [3, 4] (fun s3 s4 wr => s3 = .slice none 0 0 ∧ s4 = .int .i64 0 ∧ wr = w) (fun _ _ _ => 0)
  case atStart => exact ⟨rfl, rfl, rfl⟩
  case round =>
    obtain ⟨rfl, rfl, rfl⟩ := hrel
    go_wp2_with fail
    all_goals exact Hend.out

set_option maxRecDepth 20000 in
set_option maxHeartbeats 8000000 in
theorem rorder7_good (N : Nat) (w : World) (hN : N = 4 ∨ N = 8) :
    Calls Try.prog 68 #[.int .i64 (N : Int)] w (NumsPost w (ints (orderN N))) := by
  have hN8 : N ≤ 8 := by omega
  have hN4 : 4 ≤ N := by omega
  obtain ⟨b4, hb4⟩ : ∃ b, b = ((N : Int) == 4) := ⟨_, rfl⟩
  obtain ⟨b8, hb8⟩ : ∃ b, b = ((N : Int) == 8) := ⟨_, rfl⟩
  have hbb : b4 = true ∨ (b4 = false ∧ b8 = true) := by
    rcases hN with rfl | rfl
    · exact .inl hb4
    · exact .inr ⟨hb4, hb8⟩
  have t4 : ((N : Int) == 4) = b4 := hb4.symm
  have t8 : ((N : Int) == 8) = b8 := hb8.symm
  obtain ⟨T, hT⟩ : ∃ T, T = 2 * N := ⟨_, rfl⟩
  obtain ⟨E, hE⟩ : ∃ E, E = 2 * N - 2 := ⟨_, rfl⟩
  have eT : 2 * (N : Int) = (T : Int) := by omega
  have eE : (T : Int) - 2 = (E : Int) := by omega
  have wT : IntKind.i64.wrap (T : Int) = (T : Int) := IntWalk.i64_in _ (by omega)
  have wE : IntKind.i64.wrap (E : Int) = (E : Int) := IntWalk.i64_in _ (by omega)
  rw [orderN_to, show 2 * N - 1 = E + 1 by omega]
  obtain ⟨R, hR⟩ : ∃ R, R = NumsPost w (ints (orderTo N (E + 1))) := ⟨_, rfl⟩
  have HR := Lib.hid hR
  rw [← hR]
  have hE14 : E ≤ 14 := by omega
  have HT := Lib.hid (And.intro hT hE)
  clear hN hb4 hb8 hR hT hE
  rcases hbb with rfl | ⟨rfl, rfl⟩
  all_goals
    go_enter Try.func68, Try.ntmps68
    go_wp2_with fail
    go_loopw [3, 4] (fun s3 s4 wr => ∃ (s : Nat) (B : Option Addr) (d : Nat), s ≤ E + 1 ∧ s4 = .int .i64 (s : Int) ∧ s3 = .slice B (orderTo N s).length d ∧ MineN w wr (.slice B (orderTo N s).length d) (ints (orderTo N s))) (fun _ s4 _ => E + 1 - (intOf s4).toNat)
    case atStart => exact ⟨0, none, 0, by omega, rfl, rfl, MineN.nil (Fr.refl _ _)⟩
    case round =>
      obtain ⟨s, B, d, hs, rfl, rfl, hM⟩ := hrel
      by_cases hlt : s ≤ E
      · have eg : decide (s ≤ E) = true := by simpa using hlt
        obtain ⟨O, hO⟩ : ∃ O, O = orderTo N s := ⟨_, rfl⟩
        have hOl : O.length ≤ 1000 := by
          rw [hO]
          have h1 := orderTo_len N s
          have h2 : s * N ≤ 15 * 8 := Nat.mul_le_mul (by omega) hN8
          omega
        rw [← hO] at hM ⊢
        have HM := Lib.hid hM; have HO := Lib.hid hO
        clear hM hO
        go_wp2_with fail
        go_loopw [3, 5] (fun s3 s5 wr => ∃ (y : Nat) (B : Option Addr) (d : Nat), y ≤ N ∧ s5 = .int .i64 (y : Int) ∧ s3 = .slice B (O ++ diagTo N s y).length d ∧ MineN w wr (.slice B (O ++ diagTo N s y).length d) (ints (O ++ diagTo N s y))) (fun _ s5 _ => N - (intOf s5).toNat)
        case atStart => exact ⟨0, B, d, by omega, rfl, by simp [diagTo], by simpa [diagTo] using HM.out⟩
        case round =>
          clear HM
          obtain ⟨y, B, d, hy, rfl, rfl, hM⟩ := hrel
          have hdl := diagTo_len N s y
          have hsuc := diagTo_succ N s y
          obtain ⟨Q, hQ⟩ : ∃ Q, Q = O ++ diagTo N s y := ⟨_, rfl⟩
          have hQl : Q.length ≤ 1010 := by rw [hQ, List.length_append]; omega
          rw [← hQ] at hM ⊢
          have HQ := Lib.hid hQ; have Hsuc := Lib.hid hsuc; have HM := Lib.hid hM
          clear hQ hsuc hdl hM
          by_cases hlt2 : y < N
          · have eg2 : decide (y < N) = true := by simpa using hlt2
            have wsy : IntKind.i64.wrap ((s : Int) - (y : Int)) = (s : Int) - (y : Int) := IntWalk.i64_in _ (by omega)
            by_cases hin : y ≤ s ∧ s - y < N
            · obtain ⟨X, hX⟩ : ∃ X, X = s - y := ⟨_, rfl⟩
              have eX : (s : Int) - (y : Int) = (X : Int) := by omega
              have wX : IntKind.i64.wrap (X : Int) = (X : Int) := IntWalk.i64_in _ (by omega)
              have eXN : decide (X < N) = true := by simp; omega
              obtain ⟨YN, hYN⟩ : ∃ YN, YN = y * N := ⟨_, rfl⟩
              obtain ⟨K, hK⟩ : ∃ K, K = YN + X := ⟨_, rfl⟩
              have hYNl : YN ≤ 64 := by rw [hYN]; exact Nat.mul_le_mul (show y ≤ 8 by omega) hN8
              have eYN : (y : Int) * (N : Int) = (YN : Int) := by rw [hYN]; simp
              have eK : (YN : Int) + (X : Int) = (K : Int) := by rw [hK]; simp
              have wYN : IntKind.i64.wrap (YN : Int) = (YN : Int) := IntWalk.i64_in _ (by omega)
              have wK : IntKind.i64.wrap (K : Int) = (K : Int) := IntWalk.i64_in _ (by omega)
              have hnew : O ++ diagTo N s (y + 1) = Q ++ [K] := by
                rw [HQ.out, Hsuc.out, if_pos hin, List.append_assoc, hK, hYN, hX]
              have hnl : (O ++ diagTo N s (y + 1)).length = Q.length + 1 := by rw [hnew]; simp
              have hni : ints (O ++ diagTo N s (y + 1)) = ints Q ++ [(K : Int)] := by rw [hnew, ints_append]; rfl
              have Hnl := Lib.hid hnl; have Hni := Lib.hid hni; have Hil := Lib.hid (ints_length Q)
              clear hnew hnl hni hK hYN hX hin wsy
              go_wp2_with (at_builtin; refine wp_append_num _ _ (.slice B Q.length d) (ints Q) (.slice (some ⟨wr.heap.size, 0, none⟩) 1 1) [(K : Int)] rfl rfl rfl rfl (HM.out.own.alloc _) (Src.one (by simp [go_sem]; rfl)) (by rw [Hil.out]; simp; omega) ?_)
              intro B2 d2 w3 hO3 hG3
              have hM3 := MineN.appended (ms := [(K : Int)]) (HM.out.fr0 ((Fr.refl _ _).alloc (.cells #[.int .i64 (K : Int)] 3))) (by rw [List.map_append]; exact hO3) hG3
              rw [← Hni.out] at hM3
              rw [Hil.out] at hM3 ⊢
              have HM3 := Lib.hid hM3
              clear hO3 hG3 hM3
              go_wp2_with fail
              exact ⟨⟨y + 1, B2, d2, by omega, by simp, by rw [Hnl.out], by rw [Hnl.out]; exact HM3.out⟩, by simp [intOf]; omega⟩
            · have hsame : O ++ diagTo N s (y + 1) = Q := by rw [HQ.out, Hsuc.out, if_neg hin, List.append_nil]
              have Hsame := Lib.hid hsame
              have hex : (s : Int) - (y : Int) < 0 ∨ (0 ≤ (s : Int) - (y : Int) ∧ (N : Int) ≤ (s : Int) - (y : Int)) := by omega
              clear hsame hin
              rcases hex with h1 | ⟨h1, h2⟩
              · have e1 : decide (0 ≤ (s : Int) - (y : Int)) = false := decide_eq_false (by omega)
                go_wp2_with fail
                exact ⟨⟨y + 1, B, d, by omega, by simp, by rw [Hsame.out], by rw [Hsame.out]; exact HM.out⟩, by simp [intOf]; omega⟩
              · have e1 : decide (0 ≤ (s : Int) - (y : Int)) = true := decide_eq_true (by omega)
                have e2 : decide ((s : Int) - (y : Int) < (N : Int)) = false := decide_eq_false (by omega)
                go_wp2_with fail
                exact ⟨⟨y + 1, B, d, by omega, by simp, by rw [Hsame.out], by rw [Hsame.out]; exact HM.out⟩, by simp [intOf]; omega⟩
          · have eg2 : decide (y < N) = false := by simpa using hlt2
            have hyN : y = N := by omega
            have hnew : orderTo N (s + 1) = Q := by rw [orderTo_succ, HQ.out, HO.out, hyN]
            have Hnew := Lib.hid hnew
            clear hnew hyN
            go_wp2_with fail
            exact ⟨⟨s + 1, B, d, by omega, by simp, by rw [Hnew.out], by rw [Hnew.out]; exact HM.out⟩, by simp [intOf]; omega⟩
      · have eg : decide (s ≤ E) = false := by simpa using hlt
        have hsE : s = E + 1 := by omega
        rw [hsE] at hM ⊢
        have HM := Lib.hid hM
        clear hM hsE
        go_wp2_with fail
        rw [HR.out]
        have hil := ints_length (orderTo N (E + 1))
        refine ⟨B, d, by rw [hil], ?_, HM.out.fr⟩
        rw [hil]
        exact HM.out.src
end Go.Proofs.Ytendcmdpmohacaa

/-
  Contracts of the document's lift: Sort, Unsort. Conditions: rows of bounded length.
-/
namespace Go.Proofs.Ytendcmdpmohacaa
open Go.RowKit

theorem rorder7_any (n : Int) (w : World) : Calls Try.prog 68 #[.int .i64 n] w (NumsPost w (ints (orderL n))) := by
  by_cases h4 : n = 4
  · subst h4
    exact rorder7_good 4 w (.inl rfl)
  · by_cases h8 : n = 8
    · subst h8
      exact rorder7_good 8 w (.inr rfl)
    · have : orderL n = [] := by unfold orderL; rw [if_neg (by omega)]
      rw [this]
      exact rorder7_bad n w h4 h8

/-- Each of n places once. -/
structure Once (L : List Nat) (n : Nat) : Prop where
  len : L.length = n
  lt : ∀ i, i < n → L.getD i 0 < n
  back : ∀ i, i < n → L.idxOf (L.getD i 0) = i
  here : ∀ p, p < n → L.idxOf p < n ∧ L.getD (L.idxOf p) 0 = p
theorem once4 : Once (orderL 4) 16 := by
  refine ⟨by decide, fun i hi => (order_back4 i hi).1, fun i hi => (order_back4 i hi).2, fun p hp => ⟨(order_perm4 p hp).1, ?_⟩⟩
  rw [List.getD_eq_getElem?_getD, (order_perm4 p hp).2]
  rfl
theorem once8 : Once (orderL 8) 64 := by
  refine ⟨by decide +kernel, fun i hi => (order_back8 i hi).1, fun i hi => (order_back8 i hi).2, fun p hp => ⟨(order_perm8 p hp).1, ?_⟩⟩
  rw [List.getD_eq_getElem?_getD, (order_perm8 p hp).2]
  rfl
theorem once_of (n : Nat) : (orderL (sideN n) = [] ∧ n ≠ 16 ∧ n ≠ 64) ∨ Once (orderL (sideN n)) n := by
  by_cases h1 : n = 16
  · subst h1; exact .inr once4
  · by_cases h2 : n = 64
    · subst h2; exact .inr once8
    · refine .inl ⟨?_, h1, h2⟩
      have : sideN n = 0 := by unfold sideN; rw [if_neg h1, if_neg h2]
      rw [this]
      rfl
theorem once_lt {n i : Nat} (h : i < (orderL (sideN n)).length) : (orderL (sideN n)).getD i 0 < n ∧ (orderL (sideN n)).length = n := by
  rcases once_of n with ⟨e, -⟩ | h1
  · rw [e] at h; simp at h
  · rw [h1.len] at h
    exact ⟨h1.lt i h, h1.len⟩
theorem once_len (n : Nat) : (orderL (sideN n)).length ≤ n := by
  rcases once_of n with ⟨e, -⟩ | h1
  · rw [e]; simp
  · rw [h1.len]; exact Nat.le_refl _
theorem ints_at {L : List Nat} {i : Nat} (h : i < L.length) : (ints L).getD i 0 = ((L.getD i 0 : Nat) : Int) := by
  unfold ints
  rw [List.getD_eq_getElem?_getD, List.getD_eq_getElem?_getD, List.getElem?_map, List.getElem?_eq_getElem h]
  rfl
theorem take_next {L : List Nat} {i : Nat} (h : i < L.length) (f : Nat → Int) : (L.take (i + 1)).map f = (L.take i).map f ++ [f (L.getD i 0)] := by
  rw [List.take_add_one, List.getElem?_eq_getElem h, List.map_append, List.getD_eq_getElem?_getD, List.getElem?_eq_getElem h]
  rfl

set_option maxRecDepth 20000 in
set_option maxHeartbeats 4000000 in
/-- Numbers answered in a row of the call's own. -/
def NumsNew (w : World) (l : List Int) (e : Ending) (w' : World) : Prop :=
  ∃ A c, e = .returned (.slice A l.length c) ∧ MineN w w' (.slice A l.length c) l
theorem NumsNew.post {w w' : World} {l : List Int} {e : Ending} (h : NumsNew w l e w') : NumsPost w l e w' := by
  obtain ⟨A, c, h1, h2⟩ := h
  exact ⟨A, c, h1, h2.src, h2.fr⟩
theorem MineN.from_ {w0 w1 w : World} {v : Value} {ns : List Int} (h : MineN w1 w v ns) (hf : Fr [] w0 w1) : MineN w0 w v ns :=
  ⟨h.own, hf.trans h.fr (by simp), fun k hk => Nat.le_trans hf.size (h.new k hk)⟩

theorem rsort7_new (A : Option Addr) (c : Nat) (b : List Int) (w : World) (hs : Src w (.slice A b.length c) (b.map I64)) (hb : b.length ≤ 1000) :
    Calls Try.prog 47 #[.slice A b.length c] w (NumsNew w (sortL b)) := by
  have HSd := Lib.hid fun w => rside7_any b.length w (by omega)
  have HOr := Lib.hid fun w => rorder7_any (sideN b.length : Int) w
  obtain ⟨L, hL⟩ : ∃ L, L = orderL (sideN b.length) := ⟨_, rfl⟩
  have hlt : ∀ i, i < L.length → L.getD i 0 < b.length := by
    intro i hi
    rw [hL] at hi ⊢
    exact (once_lt hi).1
  have hLl : L.length ≤ b.length := by rw [hL]; exact once_len _
  have hres : sortL b = L.map (numAt b) := by unfold sortL; rw [hL]
  rw [← hL] at HOr
  rw [hres]
  have HLt := Lib.hid hlt; have HS := Lib.hid hs
  obtain ⟨n, hn⟩ : ∃ n, n = b.length := ⟨_, rfl⟩
  have Hn := Lib.hid hn; have Hil := Lib.hid (ints_length L)
  obtain ⟨m, hm⟩ : ∃ m, m = L.length := ⟨_, rfl⟩
  have Hm := Lib.hid hm
  have hmn : m ≤ 1000 := by omega
  rw [← hn] at HSd HOr ⊢
  clear hs hb hL hlt hLl hres hn hm
  go_enter Try.func47, Try.ntmps47
  go_wp2_with fail
  refine (HSd.out _).mono ?_
  rintro e w1 ⟨rfl, rfl⟩
  go_wp2_with fail
  refine (HOr.out _).mono ?_
  rintro e w2 ⟨A2, c2, rfl, hs2, hf2⟩
  rw [Hil.out, ← Hm.out] at hs2 ⊢
  have HS2 := Lib.hid hs2; have HF2 := Lib.hid hf2
  clear hs2 hf2 HSd HOr
  go_wp2_with fail
  go_loopw [4, 5] (fun s4 s5 wr => ∃ (i : Nat) (B : Option Addr) (d : Nat), i ≤ m ∧ s5 = .int .i64 (i : Int) ∧ s4 = .slice B i d ∧ MineN w2 wr (.slice B i d) ((L.take i).map (numAt b))) (fun _ s5 _ => m - (intOf s5).toNat)
  case atStart => exact ⟨0, none, 0, by omega, rfl, rfl, MineN.nil (Fr.refl _ _)⟩
  case round =>
    obtain ⟨i, B, d, hi, rfl, rfl, hM⟩ := hrel
    by_cases hlt : i < m
    · have eg : decide (i < m) = true := by simpa using hlt
      have hiL : i < L.length := by have := Hm.out; omega
      obtain ⟨la, rfl, cx⟩ := (HS2.out.fr0 hM.fr).num (k := i) (by have := Hil.out; omega)
      rw [ints_at hiL] at cx
      obtain ⟨K, hK⟩ : ∃ K, K = L.getD i 0 := ⟨_, rfl⟩
      have hKl := HLt.out i hiL
      have hnext := take_next hiL (numAt b)
      rw [← hK] at cx hKl hnext
      obtain ⟨ba, rfl, cy⟩ := (HS.out.fr0 (HF2.out.trans hM.fr (by simp))).num hKl
      obtain ⟨v, hv⟩ : ∃ v, v = b.getD K 0 := ⟨_, rfl⟩
      rw [show numAt b K = v by rw [hv]; rfl] at hnext
      rw [← hv] at cy
      have hKn : K < n := by have := Hn.out; omega
      have htl : ((L.take i).map (numAt b)).length = i := by rw [List.length_map, List.length_take]; omega
      obtain ⟨X, hX⟩ : ∃ X, X = (L.take i).map (numAt b) := ⟨_, rfl⟩
      rw [← hX] at hM hnext htl
      have HM := Lib.hid hM; have Hnext := Lib.hid hnext; have Htl := Lib.hid htl
      clear hM hnext hK hv hKl hiL htl hX
      go_wp2_with (at_builtin; refine wp_append_num _ _ (.slice B i d) X (.slice (some ⟨wr.heap.size, 0, none⟩) 1 1) [v] rfl rfl rfl rfl (HM.out.own.alloc _) (Src.one (by simp [go_sem]; rfl)) (by rw [Htl.out]; simp; omega) ?_)
      intro B2 d2 w3 hO hG
      have hM3 := MineN.appended (ms := [v]) (HM.out.fr0 ((Fr.refl _ _).alloc (.cells #[.int .i64 v] 3))) (by rw [List.map_append]; exact hO) hG
      rw [← Hnext.out] at hM3
      rw [Htl.out] at hM3 ⊢
      have HM3 := Lib.hid hM3
      clear hO hG hM3
      go_wp2_with fail
      exact ⟨⟨i + 1, B2, d2, by omega, by simp, rfl, HM3.out⟩, by simp [intOf]; omega⟩
    · have eg : decide (i < m) = false := by simpa using hlt
      have him : i = m := by omega
      subst him
      rw [List.take_of_length_le (by have := Hm.out; omega)] at hM
      have HM := Lib.hid hM
      have Hl3 := Lib.hid (show (L.map (numAt b)).length = i by rw [List.length_map]; exact Hm.out.symm)
      clear hM
      go_wp2_with fail
      go_ret
      refine ⟨B, d, by rw [Hl3.out]; rfl, ?_⟩
      rw [Hl3.out]
      exact HM.out.from_ HF2.out
theorem rsort7_any (A : Option Addr) (c : Nat) (b : List Int) (w : World) (hs : Src w (.slice A b.length c) (b.map I64)) (hb : b.length ≤ 1000) :
    Calls Try.prog 47 #[.slice A b.length c] w (NumsPost w (sortL b)) :=
  (rsort7_new A c b w hs hb).mono fun _ _ h => h.post
end Go.Proofs.Ytendcmdpmohacaa

/-
  Contracts of the document's lift: Unsort. Conditions: rows of bounded length.
-/
namespace Go.Proofs.Ytendcmdpmohacaa
open Go.RowKit

theorem MineN.cell {w0 w : World} {A : Option Addr} {n c j : Nat} {ns : List Int} (h : MineN w0 w (.slice A n c) ns) (hj : j < ns.length) :
    ∃ g, A = some ⟨g, 0, none⟩ ∧ w0.heap.size ≤ g ∧ g < w.heap.size ∧ w.cell? ⟨g, j, none⟩ = some (.int .i64 (ns.getD j 0)) ∧ w.frozen? ⟨g, j, none⟩ = false ∧ n = ns.length ∧
      ∀ z : Int, MineN w0 (w.setCell ⟨g, j, none⟩ (.int .i64 z)) (.slice A n c) (ns.set j z) := by
  obtain ⟨g, rfl, h1, h2, h3, h4⟩ := h.own.cell (j := j) (by simpa using hj)
  refine ⟨g, rfl, h.new g rfl, h.own.lt g rfl, ?_, h2, by simpa using h3, fun z => ⟨?_, h.fr.setCell (.inr (h.new g rfl)) _, h.new⟩⟩
  · rw [h1, List.getElem?_map, List.getElem?_eq_getElem hj, List.getD_eq_getElem?_getD, List.getElem?_eq_getElem hj]; rfl
  · have := h.own.set j (.int .i64 z)
    rw [List.map_set]
    exact this

/-- The first i numbers are laid at their places. -/
def Placed (L : List Nat) (b xs : List Int) (i : Nat) : Prop := xs.length = L.length ∧ ∀ j, j < i → numAt xs (L.getD j 0) = numAt b j
theorem Placed.set {L : List Nat} {b xs : List Int} {i n : Nat} (h : Placed L b xs i) (ho : Once L n) (hi : i < n) : Placed L b (xs.set (L.getD i 0) (numAt b i)) (i + 1) := by
  refine ⟨by rw [List.length_set]; exact h.1, fun j hj => ?_⟩
  have hl := h.1
  have hll := ho.len
  have hlt := ho.lt i hi
  unfold numAt
  by_cases hji : j = i
  · subst hji
    rw [List.getD_eq_getElem?_getD, List.getElem?_set_self (by omega)]
    rfl
  · have hne : L.getD i 0 ≠ L.getD j 0 := by
      intro e
      have h1 := ho.back i hi
      have h2 := ho.back j (by omega)
      rw [e] at h1
      omega
    rw [List.getD_eq_getElem?_getD, List.getElem?_set_ne hne, ← List.getD_eq_getElem?_getD]
    exact h.2 j (by omega)
theorem Placed.full {L : List Nat} {b xs : List Int} {n : Nat} (h : Placed L b xs n) (ho : Once L n) : xs = (List.range L.length).map fun p => numAt b (L.idxOf p) := by
  have hll := ho.len
  apply num_ext
  · rw [h.1]; simp
  · intro p hp
    rw [h.1] at hp
    rw [numAt_map hp]
    obtain ⟨h1, h2⟩ := ho.here p (by omega)
    have := h.2 _ h1
    rw [h2] at this
    exact this

set_option maxRecDepth 20000 in
set_option maxHeartbeats 4000000 in
theorem runsort7_any (A : Option Addr) (c : Nat) (b : List Int) (w : World) (hs : Src w (.slice A b.length c) (b.map I64)) (hb : b.length ≤ 1000) :
    Calls Try.prog 57 #[.slice A b.length c] w (NumsPost w (unsortL b)) := by
  have HSd := Lib.hid fun w => rside7_any b.length w (by omega)
  have HOr := Lib.hid fun w => rorder7_any (sideN b.length : Int) w
  obtain ⟨L, hL⟩ : ∃ L, L = orderL (sideN b.length) := ⟨_, rfl⟩
  have honce : L = [] ∨ Once L b.length := by
    rcases once_of b.length with ⟨e, -⟩ | h
    · exact .inl (by rw [hL, e])
    · exact .inr (by rw [hL]; exact h)
  have hLl : L.length ≤ b.length := by rw [hL]; exact once_len _
  have hres : unsortL b = (List.range L.length).map fun p => numAt b (L.idxOf p) := by unfold unsortL; rw [hL]
  rw [← hL] at HOr
  have Hres := Lib.hid hres
  obtain ⟨R, hR⟩ : ∃ R, R = NumsPost w (unsortL b) := ⟨_, rfl⟩
  rw [← hR]
  have HR := Lib.hid hR
  have HOn := Lib.hid honce; have HS := Lib.hid hs
  obtain ⟨n, hn⟩ : ∃ n, n = b.length := ⟨_, rfl⟩
  have Hn := Lib.hid hn; have Hil := Lib.hid (ints_length L)
  obtain ⟨m, hm⟩ : ∃ m, m = L.length := ⟨_, rfl⟩
  have Hm := Lib.hid hm
  have hmn : m ≤ 1000 := by omega
  have hmn2 : m ≤ n := by omega
  rw [← hn] at HSd HOr ⊢
  obtain ⟨i0, hi0, hz0, hs0, hb0⟩ := info_parts info_num
  clear hs hb hL honce hLl hres hn hm hR
  go_enter Try.func57, Try.ntmps57
  go_wp2_with fail
  refine (HSd.out _).mono ?_
  rintro e w1 ⟨rfl, rfl⟩
  go_wp2_with fail
  refine (HOr.out _).mono ?_
  rintro e w2 ⟨A2, c2, rfl, hs2, hf2⟩
  rw [Hil.out, ← Hm.out] at hs2 ⊢
  have HS2 := Lib.hid hs2; have HF2 := Lib.hid hf2
  clear hs2 hf2 HSd HOr
  go_wp2_with (at_make; refine wpList_make_mine _ _ 29 3 i0 _ 8 _ _ m rfl rfl Try.underlying29 hi0 hz0 hs0 hb0 rfl rfl rfl (by omega) (by simp only [maxLen]; omega) ?_)
  intro w3 hO hF3 hlt3
  have hM : MineN w2 w3 (.slice (some ⟨w2.heap.size, 0, none⟩) m m) (List.replicate m 0) := by
    refine ⟨?_, hF3, fun k hk => ?_⟩
    · rw [List.map_replicate]; exact hO
    · have : w2.heap.size = k := by simpa [Value.ownBlock] using hk
      omega
  obtain ⟨g, hg⟩ : ∃ g, g = w2.heap.size := ⟨_, rfl⟩
  rw [← hg] at hM ⊢
  have HM := Lib.hid hM
  clear hO hF3 hlt3 hM hg hi0 hz0 hs0 hb0
  go_wp2_with fail
  go_loopw [5] (fun s5 wr => ∃ (i : Nat) (xs : List Int), i ≤ m ∧ s5 = .int .i64 (i : Int) ∧ MineN w2 wr (.slice (some ⟨g, 0, none⟩) m m) xs ∧ Placed L b xs i) (fun s5 _ => m - (intOf s5).toNat)
  case atStart => exact ⟨0, _, by omega, rfl, HM.out, by simp [Hm.out], fun j hj => absurd hj (by omega)⟩
  case round =>
    clear HM
    obtain ⟨i, xs, hi, rfl, hM, hPl⟩ := hrel
    by_cases hlt : i < m
    · have eg : decide (i < m) = true := by simpa using hlt
      have hiL : i < L.length := by have := Hm.out; omega
      have hon : Once L b.length := by
        rcases HOn.out with h | h
        · rw [h] at hiL; simp at hiL
        · exact h
      have hLb := hon.len
      have hib : i < b.length := by omega
      obtain ⟨la, rfl, cx⟩ := (HS2.out.fr0 hM.fr.drew).num (k := i) (by have := Hil.out; omega)
      rw [ints_at hiL] at cx
      have hset := hPl.set hon hib
      obtain ⟨K, hK⟩ : ∃ K, K = L.getD i 0 := ⟨_, rfl⟩
      have hKl := hon.lt i hib
      rw [← hK] at cx hKl hset
      obtain ⟨ba, rfl, cy⟩ := (HS.out.fr0 (HF2.out.trans hM.fr.drew (by simp))).num hib
      obtain ⟨v, hv⟩ : ∃ v, v = b.getD i 0 := ⟨_, rfl⟩
      rw [show numAt b i = v by rw [hv]; rfl] at hset
      rw [← hv] at cy
      have hKm : K < m := by have := Hm.out; omega
      have hin : i < n := by have := Hn.out; omega
      obtain ⟨g', hg', -, hgl, cz, fz, -, hst⟩ := (hM.fr0 (Fr.refl [] wr).drew).cell (j := K) (by rw [hPl.1]; omega)
      have hge := Option.some.inj hg'
      injection hge with hge
      subst hge
      have HM3 := Lib.hid (hst v); have HP3 := Lib.hid hset
      have hfl := Fr.setCell (Fr.refl [g] wr.drew) (p := ⟨g, K, none⟩) (.inl (by simp)) (.int .i64 v)
      have hgn : la.block ≠ g ∧ ba.block ≠ g := by
        have h1 := World.block_lt_of_cell? _ _ ((HS2.out).numS (k := i) (by have := Hil.out; omega))
        have h2 := World.block_lt_of_cell? _ _ ((HS.out.fr0 HF2.out).numS (k := i) hib)
        rw [addr_block] at h1 h2
        have := hM.new g rfl
        omega
      have dx := (hfl.cell (World.block_lt_of_cell? _ _ cx) (by rw [addr_block]; simp; exact hgn.1)).trans cx
      have dy := (hfl.cell (World.block_lt_of_cell? _ _ cy) (by rw [addr_block]; simp; exact hgn.2)).trans cy
      clear hM hPl hset hK hv hKl hiL hon hLb hib hst hg' hfl hgn
      go_upto_region 6 with fail
      refine wp_region_held_drew (S := fun W' => W'.cell? (la.add i) = some (.int .i64 (K : Int)) ∧ W'.cell? (ba.add i) = some (.int .i64 v)) (by kernel_rfl) ?_ (fun hHeld => ?_)
      · (first | exact ⟨dx, dy⟩ | exact ⟨cx, cy⟩)
      refine wpAnyH_pick 0 (v := ?_) rfl (by kernel_rfl) (by kernel_rfl) (by kernel_rfl) (fun _ _ _ h => h) (by assumption) (by rfl) ?_ ?_
      rotate_left
      · (intro w hSw; (try dsimp only at hSw); go_simp) <;> (with_reducible rfl)
      (try simp only [Act.put, List.setIfInBounds_toArray, List.set_cons_zero, List.set_cons_succ])
      refine wpAnyH_pick 1 (v := ?_) rfl (by kernel_rfl) (by kernel_rfl) (by kernel_rfl) (fun _ _ _ h => h) (by assumption) (by rfl) ?_ ?_
      rotate_left
      · (intro w hSw; (try dsimp only at hSw); go_simp) <;> (with_reducible rfl)
      (try simp only [Act.put, List.setIfInBounds_toArray, List.set_cons_zero, List.set_cons_succ])
      refine wpAnyH_pick 2 (v := ?_) rfl (by kernel_rfl) (by kernel_rfl) (by kernel_rfl) (fun _ _ _ h => h) (by assumption) (by rfl) ?_ ?_
      rotate_left
      · (intro w hSw; (try dsimp only at hSw); go_simp) <;> (with_reducible rfl)
      (try simp only [Act.put, List.setIfInBounds_toArray, List.set_cons_zero, List.set_cons_succ])
      refine wpAnyH_pick 3 (v := ?_) rfl (by kernel_rfl) (by kernel_rfl) (by kernel_rfl) (fun _ _ _ h => h) (by assumption) (by rfl) ?_ ?_
      rotate_left
      · (intro w hSw; (try dsimp only at hSw); go_simp) <;> (with_reducible rfl)
      (try simp only [Act.put, List.setIfInBounds_toArray, List.set_cons_zero, List.set_cons_succ])
      refine wpAnyH_pick 4 (v := ?_) rfl (by kernel_rfl) (by kernel_rfl) (by kernel_rfl) (fun _ _ _ h => h) (by assumption) (by rfl) ?_ ?_
      rotate_left
      · (intro w hSw; (try dsimp only at hSw); go_simp) <;> (with_reducible rfl)
      (try simp only [Act.put, List.setIfInBounds_toArray, List.set_cons_zero, List.set_cons_succ])
      refine wpAnyH_pick 5 (v := ?_) rfl (by kernel_rfl) (by kernel_rfl) (by kernel_rfl) (fun _ _ _ h => h) (by assumption) (by rfl) ?_ ?_
      rotate_left
      · (intro w hSw; (try dsimp only at hSw); go_simp) <;> (with_reducible rfl)
      (try simp only [Act.put, List.setIfInBounds_toArray, List.set_cons_zero, List.set_cons_succ])
      refine wpAnyH_pick 6 (v := ?_) rfl (by kernel_rfl) (by kernel_rfl) (by kernel_rfl) (fun _ _ _ h => h) (by assumption) (by rfl) ?_ ?_
      rotate_left
      · (intro w hSw; (try dsimp only at hSw); go_simp) <;> (with_reducible rfl)
      (try simp only [Act.put, List.setIfInBounds_toArray, List.set_cons_zero, List.set_cons_succ])
      refine wpAnyH_pick 7 (v := ?_) rfl (by kernel_rfl) (by kernel_rfl) (by kernel_rfl) (fun _ _ _ h => h) (by assumption) (by rfl) ?_ ?_
      rotate_left
      · (intro w hSw; (try dsimp only at hSw); go_simp) <;> (with_reducible rfl)
      (try simp only [Act.put, List.setIfInBounds_toArray, List.set_cons_zero, List.set_cons_succ])
      refine wpAnyH_pick 8 (v := ?_) rfl (by kernel_rfl) (by kernel_rfl) (by kernel_rfl) (fun _ _ _ h => h) (by assumption) (by rfl) ?_ ?_
      rotate_left
      · (intro w hSw; (try dsimp only at hSw); go_simp) <;> (with_reducible rfl)
      (try simp only [Act.put, List.setIfInBounds_toArray, List.set_cons_zero, List.set_cons_succ])
      refine wpAnyH_pick 9 (v := ?_) rfl (by kernel_rfl) (by kernel_rfl) (by kernel_rfl) (fun _ _ _ h => h) (by assumption) (by rfl) ?_ ?_
      rotate_left
      · (intro w hSw; (try dsimp only at hSw); go_simp) <;> (with_reducible rfl)
      (try simp only [Act.put, List.setIfInBounds_toArray, List.set_cons_zero, List.set_cons_succ])
      refine wpAnyH_ready (rs := [10]) (by kernel_rfl) (by simp) ?_
      refine AllReadyH_pick rfl (fun K hK => ?_) (AllReadyH.nil)
      skip
      go_simp
      refine hK.out _ _ ?_ (fun hHeld => ?_)
      · (first | exact ⟨dx, dy⟩ | exact ⟨cx, cy⟩)
      clear hK K
      (try simp only [Act.put, List.setIfInBounds_toArray, List.set_cons_zero, List.set_cons_succ])
      refine wpAnyH_done (by kernel_rfl) ?_ _
      skip
      go_wp2_with fail
      exact ⟨⟨i + 1, _, by omega, by simp, HM3.out, HP3.out⟩, by simp [intOf]; omega⟩
    · have eg : decide (i < m) = false := by simpa using hlt
      have him : i = m := by omega
      have hfin : xs = unsortL b := by
        rw [Hres.out]
        rcases HOn.out with h | h
        · have := hPl.1
          rw [h] at this ⊢
          simp at this ⊢
          exact this
        · have hh : Placed L b xs b.length := by rw [← h.len, ← Hm.out, ← him]; exact hPl
          exact hh.full h
      have hxl : xs.length = m := by rw [hPl.1]; exact Hm.out.symm
      rw [hfin] at hM hxl
      have HM := Lib.hid hM; have Hxl := Lib.hid hxl
      clear hM hxl hPl hfin him
      go_wp2_with fail
      rw [HR.out]
      refine ⟨some ⟨g, 0, none⟩, m, by rw [Hxl.out]; rfl, ?_, HF2.out.trans HM.out.fr (by simp)⟩
      rw [Hxl.out]
      exact HM.out.src
end Go.Proofs.Ytendcmdpmohacaa

/-
  Quantisers' steps, levels, and blocks of them; what putting a block of levels puts. Plain: no program text.
-/
namespace Go.Proofs.Ytendcmdpmohacaa

/-- A quantiser's step at the column x, row y. -/
def stepBase (q : Nat) : Nat := (4 + q % 4) * 2 ^ (q / 4) / 4
def stepAt (q x y : Nat) : Nat := stepBase q * (4 + x + y) / 4
def quantOk (q : Int) : Bool := decide (0 ≤ q) && decide (q ≤ 31)
def stepR (q x y : Int) : Int × Int := if quantOk q && (decide (0 ≤ x) && decide (x ≤ 7)) && (decide (0 ≤ y) && decide (y ≤ 7)) then ((stepAt q.toNat x.toNat y.toNat : Int), 0) else (0, 1)
/-- A number's level by a step; what it stands for (without the wrap). -/
def levelOf (v s : Int) : Int := if s < 1 then 0 else if v < 0 then -((-v + s / 3) / s) else (v + s / 3) / s
def sideQ (n : Nat) : Nat := if n = 16 then 4 else 8
def rightQ (b : List Int) (q m : Int) : Bool := (decide (b.length = 16) || decide (b.length = 64)) && quantOk q && withinB b m
def stepsAt (q n i : Nat) : Int := (stepAt q (i % sideQ n) (i / sideQ n) : Int)
def coarseL (b : List Int) (q : Int) : List Int × Int :=
  if rightQ b q 67108864 then ((List.range b.length).map fun i => levelOf (numAt b i) (stepsAt q.toNat b.length i), 0) else ([], 1)
def fineN (b : List Int) (q : Nat) : List Int := (List.range b.length).map fun i => numAt b i * stepsAt q b.length i
def fineL (b : List Int) (q : Int) : List Int × Int :=
  if rightQ b q 67108864 then (if withinB (fineN b q.toNat) 67108864 then (fineN b q.toNat, 0) else ([], 1)) else ([], 1)
/-- How many there are up to the last one that is not 0. -/
def upTo : List Int → Nat
  | [] => 0
  | v :: l => if upTo l = 0 then (if v = 0 then 0 else 1) else upTo l + 1

theorem upTo_cons (v : Int) (l : List Int) : upTo (v :: l) = if upTo l = 0 then (if v = 0 then 0 else 1) else upTo l + 1 := rfl

theorem stepAt_le {q x y : Nat} (hq : q ≤ 31) (hx : x ≤ 7) (hy : y ≤ 7) : 1 ≤ stepAt q x y ∧ stepAt q x y ≤ 1008 := by
  have h : ∀ q, q ≤ 31 → 1 ≤ stepBase q ∧ stepBase q ≤ 224 := by decide
  obtain ⟨h1, h2⟩ := h q hq
  unfold stepAt
  have h3 : stepBase q * (4 + x + y) ≤ 224 * 18 := Nat.mul_le_mul h2 (by omega)
  have h4 : 1 * 4 ≤ stepBase q * (4 + x + y) := Nat.mul_le_mul h1 (by omega)
  omega
theorem upTo_le : ∀ l : List Int, upTo l ≤ l.length
  | [] => Nat.le_refl _
  | v :: l => by
    have := upTo_le l
    unfold upTo
    simp only [List.length_cons]
    split
    · split <;> omega
    · omega
theorem upTo_zero : ∀ (l : List Int), upTo l = 0 → ∀ v ∈ l, v = 0
  | [], _, v, hv => by cases hv
  | u :: l, h, v, hv => by
    unfold upTo at h
    split at h
    · rename_i h0
      split at h
      · rename_i hu
        rcases List.mem_cons.1 hv with rfl | hv
        · exact hu
        · exact upTo_zero l h0 v hv
      · omega
    · omega
/-- Behind the last one there are zeros only. -/
theorem upTo_rest : ∀ (l : List Int), l = l.take (upTo l) ++ List.replicate (l.length - upTo l) 0
  | [] => rfl
  | v :: l => by
    have ih := upTo_rest l
    have hle := upTo_le l
    by_cases h0 : upTo l = 0
    · have hz := upTo_zero l h0
      have hl : l = List.replicate l.length 0 := by
        rw [h0] at ih
        simpa using ih
      by_cases hv : v = 0
      · have e : upTo (v :: l) = 0 := by rw [upTo_cons, if_pos h0, if_pos hv]
        rw [e, hv]
        simp only [List.take_zero, List.nil_append, List.length_cons, Nat.sub_zero]
        rw [List.replicate_succ, ← hl]
      · have e : upTo (v :: l) = 1 := by rw [upTo_cons, if_pos h0, if_neg hv]
        rw [e]
        simp only [List.take_succ_cons, List.take_zero, List.length_cons, Nat.add_sub_cancel, List.cons_append, List.nil_append]
        rw [← hl]
    · have e : upTo (v :: l) = upTo l + 1 := by rw [upTo_cons, if_neg h0]
      rw [e]
      simp only [List.take_succ_cons, List.length_cons, List.cons_append]
      rw [show l.length + 1 - (upTo l + 1) = l.length - upTo l by omega, ← ih]
/-- The last of them is not 0. -/
theorem upTo_last : ∀ (l : List Int), 0 < upTo l → l.getD (upTo l - 1) 0 ≠ 0
  | [], h => by simp [upTo] at h
  | v :: l, h => by
    by_cases h0 : upTo l = 0
    · by_cases hv : v = 0
      · unfold upTo at h
        rw [if_pos h0, if_pos hv] at h
        omega
      · have e : upTo (v :: l) = 1 := by rw [upTo_cons, if_pos h0, if_neg hv]
        rw [e]
        exact hv
    · have e : upTo (v :: l) = upTo l + 1 := by rw [upTo_cons, if_neg h0]
      rw [e, Nat.add_sub_cancel]
      have ih := upTo_last l (by omega)
      obtain ⟨m, hm⟩ : ∃ m, upTo l = m + 1 := ⟨upTo l - 1, by omega⟩
      rw [hm] at ih ⊢
      exact ih
end Go.Proofs.Ytendcmdpmohacaa

/-
  Contracts of the document's quant: Step, Level. Conditions: numbers within 2^41, steps within 2^40.
-/
namespace Go.Proofs.Ytendcmdpmohacaa
open Go.RowKit

theorem stepR_bad {q x y : Int} (h : ¬ ((0 ≤ q ∧ q ≤ 31) ∧ (0 ≤ x ∧ x ≤ 7) ∧ (0 ≤ y ∧ y ≤ 7))) : stepR q x y = (0, 1) := by
  unfold stepR quantOk
  rw [if_neg]
  simp only [Bool.and_eq_true, decide_eq_true_eq]
  exact fun k => h ⟨k.1.1, k.1.2, k.2⟩

set_option maxRecDepth 20000 in
set_option maxHeartbeats 4000000 in
theorem rstep_any (q x y : Int) (w : World) :
    Calls Try.prog 10 #[.int .i64 q, .int .i64 x, .int .i64 y] w fun e w' => e = .returned (.tuple #[.int .i64 (stepR q x y).1, .int .i64 (stepR q x y).2]) ∧ w' = w := by
  have hcase : q < 0 ∨ (0 ≤ q ∧ 31 < q) ∨ ((0 ≤ q ∧ q ≤ 31) ∧ x < 0) ∨ ((0 ≤ q ∧ q ≤ 31) ∧ 0 ≤ x ∧ 7 < x) ∨ ((0 ≤ q ∧ q ≤ 31) ∧ (0 ≤ x ∧ x ≤ 7) ∧ y < 0) ∨ ((0 ≤ q ∧ q ≤ 31) ∧ (0 ≤ x ∧ x ≤ 7) ∧ 0 ≤ y ∧ 7 < y) ∨ ((0 ≤ q ∧ q ≤ 31) ∧ (0 ≤ x ∧ x ≤ 7) ∧ (0 ≤ y ∧ y ≤ 7)) := by omega
  obtain ⟨R, hR⟩ : ∃ R, R = stepR q x y := ⟨_, rfl⟩
  rw [← hR]
  by_cases hgood : (0 ≤ q ∧ q ≤ 31) ∧ (0 ≤ x ∧ x ≤ 7) ∧ (0 ≤ y ∧ y ≤ 7)
  · obtain ⟨⟨q1, q2⟩, ⟨x1, x2⟩, ⟨y1, y2⟩⟩ := hgood
    obtain ⟨Q, rfl⟩ : ∃ Q : Nat, q = (Q : Int) := ⟨q.toNat, by omega⟩
    obtain ⟨X, rfl⟩ : ∃ X : Nat, x = (X : Int) := ⟨x.toNat, by omega⟩
    obtain ⟨Y, rfl⟩ : ∃ Y : Nat, y = (Y : Int) := ⟨y.toNat, by omega⟩
    have hres : R = ((stepAt Q X Y : Int), 0) := by
      rw [hR]
      unfold stepR quantOk
      rw [if_pos]
      · simp only [Int.toNat_natCast]
      · simp only [Bool.and_eq_true, decide_eq_true_eq]
        exact ⟨⟨⟨q1, q2⟩, x1, x2⟩, y1, y2⟩
    have hQ : Q ≤ 31 := by omega
    have hX : X ≤ 7 := by omega
    have hY : Y ≤ 7 := by omega
    have e1 : decide (31 < (Q : Int)) = false := by simp; omega
    have e2 : decide (7 < (X : Int)) = false := by simp; omega
    have e3 : decide (7 < (Y : Int)) = false := by simp; omega
    obtain ⟨D, hD⟩ : ∃ D, D = Q / 4 := ⟨_, rfl⟩
    have eD : (Q : Int) / 4 = (D : Int) := by rw [hD]; simp
    obtain ⟨B, hB⟩ : ∃ B, B = 4 + Q % 4 := ⟨_, rfl⟩
    have eB : 4 + (Q : Int) % 4 = (B : Int) := by rw [hB]; simp
    have hD7 : D ≤ 7 := by omega
    have hB7 : B ≤ 7 := by omega
    have Hres := Lib.hid hres; have HDB := Lib.hid (And.intro hD hB)
    clear hcase hR hres q1 q2 x1 x2 y1 y2 hD hB
    go_enter Try.func10, Try.ntmps10
    go_wp2_with fail
    go_loopw [8, 9] (fun s8 s9 wr => ∃ k : Nat, k ≤ D ∧ s9 = .int .i64 (k : Int) ∧ s8 = .int .i64 ((B * 2 ^ k : Nat) : Int) ∧ wr = w) (fun _ s9 _ => D - (intOf s9).toNat)
    case atStart => exact ⟨0, by omega, rfl, by simp, rfl⟩
    case round =>
      obtain ⟨k, hk, rfl, rfl, rfl⟩ := hrel
      obtain ⟨S, hS⟩ : ∃ S, S = B * 2 ^ k := ⟨_, rfl⟩
      have hSl : S ≤ 7 * 128 := by
        rw [hS]
        exact Nat.mul_le_mul hB7 (Nat.pow_le_pow_right (n := 2) (j := 7) (by omega) (by omega))
      rw [← hS]
      by_cases hlt : k < D
      · have eg : decide (k < D) = true := by simpa using hlt
        have wS : IntKind.i64.wrap (2 * (S : Int)) = 2 * (S : Int) := IntWalk.i64_in _ (by omega)
        have HS := Lib.hid hS
        clear hS
        go_wp2_with fail
        refine ⟨⟨k + 1, by omega, by simp, ?_, trivial⟩, by simp [intOf]; omega⟩
        refine congrArg (fun z => Value.int .i64 z) ?_
        rw [Nat.pow_succ, ← Nat.mul_assoc, ← HS.out]
        omega
      · have eg : decide (k < D) = false := by simpa using hlt
        have hkD : k = D := by omega
        obtain ⟨A1, hA1⟩ : ∃ A1, A1 = S / 4 := ⟨_, rfl⟩
        obtain ⟨A2, hA2⟩ : ∃ A2, A2 = 4 + X := ⟨_, rfl⟩
        obtain ⟨A3, hA3⟩ : ∃ A3, A3 = A2 + Y := ⟨_, rfl⟩
        obtain ⟨A4, hA4⟩ : ∃ A4, A4 = A1 * A3 := ⟨_, rfl⟩
        have hA4l : A4 ≤ 1000 * 18 := by rw [hA4]; exact Nat.mul_le_mul (by omega) (by omega)
        have f1 : (S : Int) / 4 = (A1 : Int) := by rw [hA1]; simp
        have f2 : 4 + (X : Int) = (A2 : Int) := by rw [hA2]; simp
        have f3 : (A2 : Int) + (Y : Int) = (A3 : Int) := by rw [hA3]; simp
        have f4 : (A1 : Int) * (A3 : Int) = (A4 : Int) := by rw [hA4]; simp
        have w4 : IntKind.i64.wrap (A4 : Int) = (A4 : Int) := IntWalk.i64_in _ (by omega)
        have hfin : stepAt Q X Y = A4 / 4 := by
          unfold stepAt stepBase
          obtain ⟨d1, d2⟩ := HDB.out
          rw [← d1, ← d2, ← hkD, ← hS, ← hA1, show 4 + X + Y = A3 by omega, ← hA4]
        have f5 : (A4 : Int) / 4 = ((A4 / 4 : Nat) : Int) := by simp
        have Hfin := Lib.hid hfin; have F5 := Lib.hid f5
        clear hS hkD hA1 hA2 hA3 hA4 hfin f5
        go_wp2_with fail
        go_ret2
        exact ⟨by rw [Hres.out, Hfin.out, ← F5.out]; rfl, rfl⟩
  · have hres := stepR_bad hgood
    rw [← hR] at hres
    rw [hres]
    clear hR hres
    rcases hcase with h1 | ⟨h1, h2⟩ | ⟨h1, h2⟩ | ⟨h1, h2, h3⟩ | ⟨h1, h2, h3⟩ | ⟨h1, h2, h3, h4⟩ | h1
    case' inl => have t1 : decide (q < 0) = true := decide_eq_true (by omega)
    case' inr.inl =>
      have t1 : decide (q < 0) = false := decide_eq_false (by omega)
      have t2 : decide (31 < q) = true := decide_eq_true (by omega)
    case' inr.inr.inl =>
      have t1 : decide (q < 0) = false := decide_eq_false (by omega)
      have t2 : decide (31 < q) = false := decide_eq_false (by omega)
      have t3 : decide (x < 0) = true := decide_eq_true (by omega)
    case' inr.inr.inr.inl =>
      have t1 : decide (q < 0) = false := decide_eq_false (by omega)
      have t2 : decide (31 < q) = false := decide_eq_false (by omega)
      have t3 : decide (x < 0) = false := decide_eq_false (by omega)
      have t4 : decide (7 < x) = true := decide_eq_true (by omega)
    case' inr.inr.inr.inr.inl =>
      have t1 : decide (q < 0) = false := decide_eq_false (by omega)
      have t2 : decide (31 < q) = false := decide_eq_false (by omega)
      have t3 : decide (x < 0) = false := decide_eq_false (by omega)
      have t4 : decide (7 < x) = false := decide_eq_false (by omega)
      have t5 : decide (y < 0) = true := decide_eq_true (by omega)
    case' inr.inr.inr.inr.inr.inl =>
      have t1 : decide (q < 0) = false := decide_eq_false (by omega)
      have t2 : decide (31 < q) = false := decide_eq_false (by omega)
      have t3 : decide (x < 0) = false := decide_eq_false (by omega)
      have t4 : decide (7 < x) = false := decide_eq_false (by omega)
      have t5 : decide (y < 0) = false := decide_eq_false (by omega)
      have t6 : decide (7 < y) = true := decide_eq_true (by omega)
    case' inr.inr.inr.inr.inr.inr => exact absurd h1 hgood
    all_goals
      clear hgood
      go_enter Try.func10, Try.ntmps10
      go_wp2_with fail
      go_ret2
      exact ⟨rfl, rfl⟩

set_option maxRecDepth 20000 in
theorem rlevel_any (v s : Int) (w : World) (h1 : -2199023255552 ≤ v) (h2 : v ≤ 2199023255552) (h3 : s ≤ 1099511627776) :
    Calls Try.prog 13 #[.int .i64 v, .int .i64 s] w fun e w' => e = .returned (.int .i64 (levelOf v s)) ∧ w' = w := by
  obtain ⟨R, hR⟩ : ∃ R, R = levelOf v s := ⟨_, rfl⟩
  rw [← hR]
  unfold levelOf at hR
  by_cases hs : s < 1
  · have t1 : decide (s < 1) = true := decide_eq_true hs
    rw [if_pos hs] at hR
    rw [hR]
    clear hR hs
    go_enter Try.func13, Try.ntmps13
    go_wp2_with fail
    go_ret
    exact ⟨rfl, rfl⟩
  · have t1 : decide (s < 1) = false := decide_eq_false hs
    rw [if_neg hs] at hR
    obtain ⟨S, rfl⟩ : ∃ S : Nat, s = (S : Int) := ⟨s.toNat, by omega⟩
    obtain ⟨T, hT⟩ : ∃ T, T = S / 3 := ⟨_, rfl⟩
    have eT : (S : Int) / 3 = (T : Int) := by rw [hT]; simp
    have hTl : T ≤ 1099511627776 := by omega
    have hS0 : ¬ S = 0 := by omega
    rw [eT] at hR
    by_cases hv : v < 0
    · have t2 : decide (v < 0) = true := decide_eq_true hv
      rw [if_pos hv] at hR
      obtain ⟨V, hV⟩ : ∃ V : Nat, (V : Int) = -v := ⟨(-v).toNat, by omega⟩
      have eV : -v = (V : Int) := hV.symm
      have wV : IntKind.i64.wrap (V : Int) = (V : Int) := IntWalk.i64_in _ (by omega)
      obtain ⟨U, hU⟩ : ∃ U, U = V + T := ⟨_, rfl⟩
      have eU : (V : Int) + (T : Int) = (U : Int) := by rw [hU]; simp
      have wU : IntKind.i64.wrap (U : Int) = (U : Int) := IntWalk.i64_in _ (by omega)
      obtain ⟨Z, hZ⟩ : ∃ Z, Z = U / S := ⟨_, rfl⟩
      have eZ : (U : Int) / (S : Int) = (Z : Int) := by rw [hZ]; simp
      have hZl : Z ≤ U := by rw [hZ]; exact Nat.div_le_self _ _
      have wZ : IntKind.i64.wrap (Z : Int) = (Z : Int) := IntWalk.i64_in _ (by omega)
      have wnZ : IntKind.i64.wrap (-(Z : Int)) = -(Z : Int) := IntWalk.i64_in _ (by omega)
      rw [eV, eU, eZ] at hR
      have HR := Lib.hid hR
      clear hR hV hU hT hv hs hZ
      go_enter Try.func13, Try.ntmps13
      go_wp2_with fail
      go_ret
      exact ⟨by rw [HR.out]; rfl, rfl⟩
    · have t2 : decide (v < 0) = false := decide_eq_false hv
      rw [if_neg hv] at hR
      obtain ⟨V, rfl⟩ : ∃ V : Nat, v = (V : Int) := ⟨v.toNat, by omega⟩
      obtain ⟨U, hU⟩ : ∃ U, U = V + T := ⟨_, rfl⟩
      have eU : (V : Int) + (T : Int) = (U : Int) := by rw [hU]; simp
      have wU : IntKind.i64.wrap (U : Int) = (U : Int) := IntWalk.i64_in _ (by omega)
      obtain ⟨Z, hZ⟩ : ∃ Z, Z = U / S := ⟨_, rfl⟩
      have eZ : (U : Int) / (S : Int) = (Z : Int) := by rw [hZ]; simp
      have hZl : Z ≤ U := by rw [hZ]; exact Nat.div_le_self _ _
      have wZ : IntKind.i64.wrap (Z : Int) = (Z : Int) := IntWalk.i64_in _ (by omega)
      rw [eU, eZ] at hR
      have HR := Lib.hid hR
      clear hR hU hT hv hs hZ
      go_enter Try.func13, Try.ntmps13
      go_wp2_with fail
      go_ret
      exact ⟨by rw [HR.out]; rfl, rfl⟩
end Go.Proofs.Ytendcmdpmohacaa

/-
  Contracts of the document's quant: side, right. Conditions: blocks of bounded length, limits within 2^40.
-/
namespace Go.Proofs.Ytendcmdpmohacaa
open Go.RowKit

theorem rside8_any (n : Nat) (w : World) :
    Calls Try.prog 39 #[.int .i64 (n : Int)] w fun e w' => e = .returned (.int .i64 (sideQ n : Int)) ∧ w' = w := by
  by_cases h1 : n = 16
  · have e1 : ((n : Int) == 16) = true := by simp; omega
    have hs : sideQ n = 4 := by unfold sideQ; rw [if_pos h1]
    rw [hs]
    clear h1 hs
    go_enter Try.func39, Try.ntmps39
    go_wp2_with fail
    go_ret
    exact ⟨rfl, rfl⟩
  · have e1 : ((n : Int) == 16) = false := by simp; omega
    have hs : sideQ n = 8 := by unfold sideQ; rw [if_neg h1]
    rw [hs]
    clear h1 hs
    go_enter Try.func39, Try.ntmps39
    go_wp2_with fail
    go_ret
    exact ⟨rfl, rfl⟩

theorem rightQ_form (b : List Int) (q m : Int) (h : (b.length = 16 ∨ b.length = 64) ∧ 0 ≤ q ∧ q ≤ 31) : rightQ b q m = withinB b m := by
  unfold rightQ quantOk
  obtain ⟨h1, h2, h3⟩ := h
  rcases h1 with h1 | h1 <;> simp [h1, h2, h3]
theorem rightQ_not (b : List Int) (q m : Int) (h : ¬ ((b.length = 16 ∨ b.length = 64) ∧ 0 ≤ q ∧ q ≤ 31)) : rightQ b q m = false := by
  cases hr : rightQ b q m
  · rfl
  · exfalso
    unfold rightQ quantOk at hr
    simp only [Bool.and_eq_true, Bool.or_eq_true, decide_eq_true_eq] at hr
    exact h ⟨hr.1.1, hr.1.2⟩

theorem rright8_any (A : Option Addr) (c : Nat) (b : List Int) (q m : Int) (w : World) (hs : Src w (.slice A b.length c) (b.map I64)) (hb : b.length ≤ 1000000) (hm : 0 ≤ m) (hm2 : m ≤ 1099511627776) :
    Calls Try.prog 38 #[.slice A b.length c, .int .i64 q, .int .i64 m] w fun e w' => e = .returned (.bool (rightQ b q m)) ∧ w' = w := by
  obtain ⟨R, hR⟩ : ∃ R, R = rightQ b q m := ⟨_, rfl⟩
  rw [← hR]
  by_cases hgood : (b.length = 16 ∨ b.length = 64) ∧ 0 ≤ q ∧ q ≤ 31
  · rw [rightQ_form b q m hgood] at hR
    obtain ⟨h1, h2, h3⟩ := hgood
    have e3 : decide (q < 0) = false := by simp; omega
    have e4 : decide (31 < q) = false := by simp; omega
    clear h2 h3
    obtain ⟨n, hn⟩ : ∃ n, n = b.length := ⟨_, rfl⟩
    have HS := Lib.hid hs; have Hn := Lib.hid hn; have HR := Lib.hid hR
    rw [← hn] at hb h1 ⊢
    have wm : IntKind.i64.wrap (-m) = -m := IntWalk.i64_in _ (by omega)
    clear hs hn hR
    rcases h1 with h1 | h1
    case' inl =>
      have e1 : ((n : Int) != 16) = false := by simp; omega
      have e2 : ((n : Int) != 64) = true := by simp; omega
    case' inr =>
      have e1 : ((n : Int) != 16) = true := by simp; omega
      have e2 : ((n : Int) != 64) = false := by simp; omega
    all_goals
      clear h1
      go_enter Try.func38, Try.ntmps38
      go_wp2_with fail
      go_loopw [7] (fun s7 wr => ∃ i : Nat, i ≤ n ∧ s7 = .int .i64 (i : Int) ∧ wr = w ∧ ∀ j, j < i → -m ≤ numAt b j ∧ numAt b j ≤ m) (fun s7 _ => n - (intOf s7).toNat)
      case atStart => exact ⟨0, by omega, rfl, rfl, by omega⟩
      case round =>
        obtain ⟨i, hi, rfl, rfl, hall⟩ := hrel
        have Hall := Lib.hid hall
        clear hall
        by_cases hlt : i < n
        · obtain ⟨ad, rfl, cx⟩ := HS.out.num (k := i) (by have := Hn.out; omega)
          obtain ⟨v, hv⟩ : ∃ v, v = b.getD i 0 := ⟨_, rfl⟩
          rw [← hv] at cx
          have Hv := Lib.hid hv
          have hfalse : ¬ (-m ≤ v ∧ v ≤ m) → withinB b m = false := by
            intro h
            cases hw : withinB b m
            · rfl
            · exfalso
              have := within_at hw (j := i) (by have := Hn.out; omega)
              unfold numAt at this
              rw [← hv] at this
              exact h this
          have Hfalse := Lib.hid hfalse
          clear hv hfalse
          have eg : decide (i < n) = true := by simpa using hlt
          by_cases hin : -m ≤ v ∧ v ≤ m
          · have e5 : decide (v < -m) = false := by simp; omega
            have e6 : decide (m < v) = false := by simp; omega
            go_wp2_with fail
            refine ⟨⟨i + 1, by omega, by simp, trivial, fun j hj => ?_⟩, by simp [intOf]; omega⟩
            by_cases hji : j = i
            · subst hji
              unfold numAt
              rw [← Hv.out]
              omega
            · exact Hall.out j (by omega)
          · have Hf := Lib.hid (Hfalse.out hin)
            have e56 : (decide (v < -m) = true ∧ decide (m < v) = false) ∨ (decide (v < -m) = false ∧ decide (m < v) = true) := by
              simp only [decide_eq_true_eq, decide_eq_false_iff_not]; omega
            rcases e56 with ⟨e5, e6⟩ | ⟨e5, e6⟩
            all_goals
              go_wp2_with fail
              go_ret
              exact ⟨by rw [HR.out, Hf.out]; rfl, rfl⟩
        · have eg : decide (i < n) = false := by simpa using hlt
          have hin : withinB b m = true := all_take b i m Hall.out (by have := Hn.out; omega)
          have Hin := Lib.hid hin
          clear hin
          go_wp2_with fail
          go_ret
          exact ⟨by rw [HR.out, Hin.out]; rfl, rfl⟩
  · rw [rightQ_not b q m hgood] at hR
    rw [hR]
    obtain ⟨n, hn⟩ : ∃ n, n = b.length := ⟨_, rfl⟩
    rw [← hn] at hgood hb ⊢
    clear hs hR hn hm hm2
    rcases Bool.eq_false_or_eq_true ((n : Int) != 16) with e1 | e1 <;> rcases Bool.eq_false_or_eq_true ((n : Int) != 64) with e2 | e2 <;> rcases Bool.eq_false_or_eq_true (decide (q < 0)) with e3 | e3 <;> rcases Bool.eq_false_or_eq_true (decide (31 < q)) with e4 | e4
    all_goals first
      | (exfalso; apply hgood; simp only [bne_iff_ne, bne_eq_false_iff_eq, ne_eq, decide_eq_true_eq, decide_eq_false_iff_not] at e1 e2 e3 e4; omega)
      | (clear hgood
         go_enter Try.func38, Try.ntmps38
         go_wp2_with fail
         go_ret
         exact ⟨rfl, rfl⟩)
end Go.Proofs.Ytendcmdpmohacaa

/-
  Contracts of the document's quant: Coarse. Conditions: blocks of bounded length.
-/
namespace Go.Proofs.Ytendcmdpmohacaa
open Go.RowKit

theorem right_parts {b : List Int} {q m : Int} (h : rightQ b q m = true) : (b.length = 16 ∨ b.length = 64) ∧ (0 ≤ q ∧ q ≤ 31) ∧ withinB b m = true := by
  unfold rightQ quantOk at h
  simp only [Bool.and_eq_true, Bool.or_eq_true, decide_eq_true_eq] at h
  exact ⟨h.1.1, h.1.2, h.2⟩
theorem side_cell {n i : Nat} (hn : n = 16 ∨ n = 64) (hi : i < n) : i % sideQ n ≤ 7 ∧ i / sideQ n ≤ 7 := by
  unfold sideQ
  rcases hn with rfl | rfl
  · simp; omega
  · simp; omega
theorem sideQ_form {n : Nat} : 4 ≤ sideQ n ∧ sideQ n ≤ 8 := by
  unfold sideQ
  split <;> omega
theorem stepR_cell {q n i : Nat} (hq : q ≤ 31) (hn : n = 16 ∨ n = 64) (hi : i < n) : stepR (q : Int) ((i % sideQ n : Nat) : Int) ((i / sideQ n : Nat) : Int) = (stepsAt q n i, 0) := by
  obtain ⟨h1, h2⟩ := side_cell hn hi
  unfold stepR quantOk stepsAt
  generalize i % sideQ n = X at *
  generalize i / sideQ n = Y at *
  rw [if_pos]
  · simp only [Int.toNat_natCast]
  · simp only [Bool.and_eq_true, decide_eq_true_eq]
    omega
theorem stepsAt_le {q n i : Nat} (hq : q ≤ 31) (hn : n = 16 ∨ n = 64) (hi : i < n) : 1 ≤ stepsAt q n i ∧ stepsAt q n i ≤ 1008 := by
  obtain ⟨h1, h2⟩ := side_cell hn hi
  unfold stepsAt
  have := stepAt_le hq h1 h2
  omega
def coarseTo (b : List Int) (q i : Nat) : List Int := (List.range i).map fun j => levelOf (numAt b j) (stepsAt q b.length j)
theorem coarseTo_length (b : List Int) (q i : Nat) : (coarseTo b q i).length = i := by simp [coarseTo]
theorem coarseTo_succ (b : List Int) (q i : Nat) : coarseTo b q (i + 1) = coarseTo b q i ++ [levelOf (numAt b i) (stepsAt q b.length i)] := by
  unfold coarseTo
  rw [List.range_succ, List.map_append]
  rfl

set_option maxRecDepth 20000 in
set_option maxHeartbeats 4000000 in
theorem rcoarse_any (A : Option Addr) (c : Nat) (b : List Int) (q : Int) (w : World) (hs : Src w (.slice A b.length c) (b.map I64)) (hb : b.length ≤ 1000000) :
    Calls Try.prog 16 #[.slice A b.length c, .int .i64 q] w (NumErr w (coarseL b q)) := by
  have HRi := Lib.hid (rright8_any A c b q 67108864 w hs hb (by omega) (by omega))
  obtain ⟨R, hR⟩ : ∃ R, R = coarseL b q := ⟨_, rfl⟩
  rw [← hR]
  unfold coarseL at hR
  cases hgood : rightQ b q 67108864
  · rw [hgood] at HRi hR
    rw [if_neg (by simp)] at hR
    have HR := Lib.hid hR
    clear hR hgood hb hs
    obtain ⟨n, hn⟩ : ∃ n, n = b.length := ⟨_, rfl⟩
    rw [← hn] at HRi ⊢
    clear hn
    go_enter Try.func16, Try.ntmps16
    go_wp2_with fail
    refine HRi.out.mono ?_
    rintro e w1 ⟨rfl, rfl⟩
    go_wp2_with fail
    go_ret2
    exact NumErr.none HR.out (Fr.refl _ _)
  · rw [hgood] at HRi hR
    rw [if_pos rfl] at hR
    obtain ⟨hlen, ⟨q1, q2⟩, hwi⟩ := right_parts hgood
    obtain ⟨Q, rfl⟩ : ∃ Q : Nat, q = (Q : Int) := ⟨q.toNat, by omega⟩
    rw [Int.toNat_natCast] at hR
    have hQ : Q ≤ 31 := by omega
    have hR2 : R = (coarseTo b Q b.length, 0) := hR
    obtain ⟨n, hn⟩ : ∃ n, n = b.length := ⟨_, rfl⟩
    obtain ⟨N, hN⟩ : ∃ N, N = sideQ n := ⟨_, rfl⟩
    have hN4 : 4 ≤ N ∧ N ≤ 8 := by rw [hN]; exact sideQ_form
    have hstep : ∀ i, i < n → ∀ W, Calls Try.prog 10 #[.int .i64 (Q : Int), .int .i64 ((i % N : Nat) : Int), .int .i64 ((i / N : Nat) : Int)] W fun e w' => e = .returned (.tuple #[.int .i64 (stepsAt Q n i), .int .i64 0]) ∧ w' = W := by
      intro i hi W
      have := rstep_any (Q : Int) ((i % N : Nat) : Int) ((i / N : Nat) : Int) W
      rw [hN, stepR_cell hQ (by rw [hn]; exact hlen) hi] at this
      rw [hN]
      exact this
    have hlev : ∀ i, i < n → ∀ W, Calls Try.prog 13 #[.int .i64 (numAt b i), .int .i64 (stepsAt Q n i)] W fun e w' => e = .returned (.int .i64 (levelOf (numAt b i) (stepsAt Q n i))) ∧ w' = W := by
      intro i hi W
      have h1 := within_at hwi (j := i) (by omega)
      have h2 := stepsAt_le hQ (n := n) (by rw [hn]; exact hlen) hi
      exact rlevel_any _ _ W (by omega) (by omega) (by omega)
    have hsucc := coarseTo_succ b Q
    have HSide := Lib.hid fun W => rside8_any n W
    rw [← hN] at HSide
    have hn64 : n ≤ 64 := by omega
    have HStep := Lib.hid hstep; have HLev := Lib.hid hlev; have HR := Lib.hid hR2; have Hn := Lib.hid hn; have HS := Lib.hid hs; have Hsucc := Lib.hid hsucc
    rw [← hn] at HRi ⊢
    rw [← hn] at HR Hsucc
    clear hR hR2 hgood hlen hwi hn hs hb hN hstep hlev hsucc q1 q2
    go_enter Try.func16, Try.ntmps16
    go_wp2_with fail
    refine HRi.out.mono ?_
    rintro e w ⟨rfl, rfl⟩
    clear HRi
    go_wp2_with fail
    refine (HSide.out _).mono ?_
    rintro e w ⟨rfl, rfl⟩
    go_wp2_with fail
    go_loopw [8, 9, 10, 11] (fun s8 s9 s10 s11 wr => ∃ (i : Nat) (B : Option Addr) (d : Nat), i ≤ n ∧ s9 = .int .i64 (i : Int) ∧ s8 = .slice B i d ∧ MineN w wr (.slice B i d) (coarseTo b Q i)) (fun _ s9 _ _ _ => n - (intOf s9).toNat)
    case atStart => exact ⟨0, none, 0, by omega, rfl, rfl, MineN.nil (Fr.refl _ _)⟩
    case round =>
      obtain ⟨i, B, d, hi, rfl, rfl, hM⟩ := hrel
      by_cases hlt : i < n
      · have eg : decide (i < n) = true := by simpa using hlt
        obtain ⟨ad, rfl, -⟩ := (HS.out.fr0 hM.fr).num (k := i) (by have := Hn.out; omega)
        have hst := HStep.out i hlt
        have hlv := HLev.out i hlt
        obtain ⟨I1, hI1⟩ : ∃ I1, I1 = i % N := ⟨_, rfl⟩
        obtain ⟨I2, hI2⟩ : ∃ I2, I2 = i / N := ⟨_, rfl⟩
        have f1 : (i : Int) % (N : Int) = (I1 : Int) := by rw [hI1]; simp
        have f2 : (i : Int) / (N : Int) = (I2 : Int) := by rw [hI2]; simp
        have f3 : (i : Int).tmod (N : Int) = (I1 : Int) := by rw [hI1]; rfl
        have f4 : (i : Int).tdiv (N : Int) = (I2 : Int) := by rw [hI2]; rfl
        have hI1l : I1 ≤ 64 := by rw [hI1]; exact Nat.le_trans (Nat.mod_le _ _) (by omega)
        have hI2l : I2 ≤ 64 := by rw [hI2]; exact Nat.le_trans (Nat.div_le_self _ _) (by omega)
        have w1 : IntKind.i64.wrap (I1 : Int) = (I1 : Int) := IntWalk.i64_in _ (by omega)
        have w2 : IntKind.i64.wrap (I2 : Int) = (I2 : Int) := IntWalk.i64_in _ (by omega)
        have hN0 : ¬ N = 0 := by omega
        have hN0' : ¬ (N : Int) = 0 := by omega
        rw [← hI1, ← hI2] at hst
        have hsu := Hsucc.out i
        unfold numAt at hlv hsu
        have hcell := fun W (hf : Fr [] w W) => (HS.out.fr0 hf).numS (k := i) (by have := Hn.out; omega)
        obtain ⟨v, hv⟩ : ∃ v, v = b.getD i 0 := ⟨_, rfl⟩
        rw [← hv] at hlv hsu hcell
        obtain ⟨s, hs⟩ : ∃ s, s = stepsAt Q n i := ⟨_, rfl⟩
        rw [← hs] at hst hlv hsu
        obtain ⟨L, hL⟩ : ∃ L, L = levelOf v s := ⟨_, rfl⟩
        rw [← hL] at hlv hsu
        have Hst := Lib.hid hst; have Hlv := Lib.hid hlv; have Hsu := Lib.hid hsu; have HM := Lib.hid hM; have Hcell := Lib.hid hcell
        clear hst hlv hsu hv hs hL hI1 hI2 hM hcell
        go_upto_region 9 with fail
        go_quiet (first | exact Calls.quiet_of_same (Hst.out _) | exact quiet_add_same (Hst.out _))
        clear f1 f2 f3 f4 w1 w2 hN0 hN0'
        have HM1 := Lib.hid (HM.out.fr0 ((Fr.refl [] wr).drewN nq))
        have cx := Hcell.out _ HM1.out.fr
        have Hl1 := Lib.hid (coarseTo_length b Q i)
        generalize wr.drewN nq = wr at HM1 cx ⊢
        clear HM
        go_wp2_with fail
        refine (Hlv.out _).mono ?_
        rintro e wr ⟨rfl, rfl⟩
        go_wp2_with (at_builtin; refine wp_append_num _ _ (.slice B i d) (coarseTo b Q i) (.slice (some ⟨wr.heap.size, 0, none⟩) 1 1) [L] rfl rfl rfl rfl (HM1.out.own.alloc _) (Src.one (by simp [go_sem]; rfl)) (by rw [Hl1.out]; simp; omega) ?_)
        intro B2 d2 w5 hO hG
        have hM2 := MineN.appended (ms := [L]) (HM1.out.fr0 ((Fr.refl _ _).alloc (.cells #[.int .i64 L] 3))) (by rw [List.map_append]; exact hO) hG
        rw [← Hsu.out] at hM2
        rw [Hl1.out] at hM2 ⊢
        have HM2 := Lib.hid hM2
        clear hO hG hM2 cx
        go_wp2_with fail
        exact ⟨⟨i + 1, B2, d2, by omega, by simp, rfl, HM2.out⟩, by simp [intOf]; omega⟩
      · have eg : decide (i < n) = false := by simpa using hlt
        have hin : i = n := by omega
        subst hin
        have hlen := coarseTo_length b Q i
        go_wp2_with fail
        go_ret2
        rw [HR.out]
        refine ⟨B, d, by rw [hlen]; rfl, ?_, hM.fr⟩
        rw [hlen]
        exact hM.src
end Go.Proofs.Ytendcmdpmohacaa
