/-
  Contracts of the landed book: Put, PutSigned, PutOne. Conditions: the book and the encoder are apart, the chances are right, the code is not too long.
-/
import Derived.Test.YtfjlepnodmeaaaaBook3
import Derived.Test.YtfjlepnodmeaaaaLen
namespace Go.Proofs.Ytfjlepnodmeaaaa
open Go.RowKit

theorem NibAt.done {X : EncSpec} {w w0 : World} {b p : Nat} {D0 : List Nat} {t : Nat} {B : Chs} {e : Enc} {l : List Ev} (h : NibAt X w0 b p D0 t B e w l) :
    ∃ D', Bk w b (learned t B l) ∧ X.En w p D' (puts e (track t B l)) ∧ Fr (b :: p :: D0) w0 w ∧ ∀ k ∈ D', k ∈ D0 ∨ w0.heap.size ≤ k := by
  obtain ⟨D, h1, h2, -, h4, h5⟩ := h
  exact ⟨D, h1, h2, h4, h5⟩

/-- Not put: whatever is at the book and at the encoder. -/
theorem bPut_bad (t v : Int) (a c : Option Addr) (w : World) (h : a = none ∨ c = none ∨ ¬ (0 ≤ t ∧ t ≤ 15) ∨ v < 0 ∨ 1048576 < v) :
    Calls Try.prog 25 #[.pointer a, .pointer c, .int .i64 t, .int .i64 v] w fun r w' => r = .returned (.int .i64 1) ∧ w' = w := by
  have HT := Lib.hid (btopic_any t w)
  cases a with
  | none =>
    clear h
    go_enter Try.func25, Try.ntmps25
    go_wp2_with fail
    go_ret
    exact ⟨rfl, rfl⟩
  | some a =>
  cases c with
  | none =>
    clear h
    go_enter Try.func25, Try.ntmps25
    go_wp2_with fail
    go_ret
    exact ⟨rfl, rfl⟩
  | some c =>
  have h : ¬ (0 ≤ t ∧ t ≤ 15) ∨ v < 0 ∨ 1048576 < v := by simpa using h
  by_cases h1 : 0 ≤ t ∧ t ≤ 15
  · rw [decide_eq_true h1] at HT
    by_cases h2 : v < 0
    · have e1 : decide (v < 0) = true := by simpa using h2
      go_enter Try.func25, Try.ntmps25
      go_wp2_with fail
      refine HT.out.mono ?_
      rintro r w1 ⟨rfl, rfl⟩
      go_wp2_with fail
      go_ret
      exact ⟨rfl, rfl⟩
    · have e1 : decide (v < 0) = false := by simpa using h2
      have e2 : decide (1048576 < v) = true := by simp; omega
      go_enter Try.func25, Try.ntmps25
      go_wp2_with fail
      refine HT.out.mono ?_
      rintro r w1 ⟨rfl, rfl⟩
      go_wp2_with fail
      go_ret
      exact ⟨rfl, rfl⟩
  · rw [decide_eq_false h1] at HT
    go_enter Try.func25, Try.ntmps25
    go_wp2_with fail
    refine HT.out.mono ?_
    rintro r w1 ⟨rfl, rfl⟩
    go_wp2_with fail
    go_ret
    exact ⟨rfl, rfl⟩

theorem bPut_ok (N : NextSpec) (X : EncSpec) (w : World) (b p t n : Nat) (D : List Nat) (B : Chs) (e : Enc) (hb : Bk w b B) (hE : X.En w p D e) (hs : b ∉ p :: D) (hB : FineB B) (he : e.Ok) (hn : e.n ≤ 60000) (ht : t < 16) (hv : n ≤ 1048576) :
    Calls Try.prog 25 #[pt b, pt p, .int .i64 (t : Int), .int .i64 (n : Int)] w fun r w' => r = .returned (.int .i64 0) ∧ NibAt X w b p D t B e w' (numEvs n) := by
  have HT := btopic_any (t : Int) w
  rw [decide_eq_true (by omega : 0 ≤ (t : Int) ∧ (t : Int) ≤ 15)] at HT
  have HT := Lib.hid HT
  have e1 : decide (1048576 < (n : Int)) = false := by simp; omega
  obtain ⟨k, hk⟩ : ∃ k, k = (n + 1).log2 := ⟨_, rfl⟩
  have hbl : bitLen (n + 1) = k + 1 := by unfold bitLen; rw [if_neg (by omega), hk]
  have hk20 : k ≤ 20 := by rw [hk]; exact log2_level hv
  have hL := mlen_any (n + 1) w (by omega)
  rw [hbl] at hL
  have hP := blength_any N X w w b p D t k B e [] (NibAt.start hb hE hs) hB he (by simp; omega) ht hk20
  have hQ := fun w1 (h : NibAt X w b p D t B e w1 (onesEvs 0 k ++ stopEvs k)) => blowest_any N X w1 w b p D t k (n + 1) B e _ h hB he (by
    have h2 : (stopEvs k).length ≤ 1 := by unfold stopEvs; split <;> simp
    simp; omega) ht hk20 (by rw [hk]; exact Nat.log2_self_le (by omega)) (by rw [hk]; exact Nat.lt_log2_self)
  rw [List.nil_append] at hP
  have en : numEvs n = onesEvs 0 k ++ stopEvs k ++ bitEvs 0 0 (digits (n + 1) k) := by unfold numEvs; rw [← hk, List.append_assoc]
  rw [en]
  have eU : IntKind.u64.wrap ((n : Int) + 1) = (n : Int) + 1 := IntWalk.u64_in _ (by omega)
  rw [show ((n + 1 : Nat) : Int) = (n : Int) + 1 by simp] at hL
  have HL := Lib.hid hL; have HP := Lib.hid hP; have HQ := Lib.hid hQ
  clear hL hP hQ en hk hbl hb hE hs hB he hn
  go_enter Try.func25, Try.ntmps25
  go_wp2_with fail
  refine HT.out.mono ?_
  rintro r w1 ⟨rfl, rfl⟩
  go_wp2_with fail
  refine HL.out.mono ?_
  rintro r w1 ⟨rfl, rfl⟩
  clear HL HT
  go_wp2_with fail
  refine HP.out.mono ?_
  rintro r w2 ⟨rfl, h2⟩
  have HQ2 := Lib.hid (HQ.out w2 h2)
  clear h2 HQ HP
  go_wp2_with fail
  refine HQ2.out.mono ?_
  rintro r w3 ⟨rfl, h3⟩
  have H3 := Lib.hid h3
  clear h3 HQ2
  go_wp2_with fail
  go_ret
  exact ⟨rfl, H3.out⟩

theorem wrap_neg {v : Int} (hv : InI v) : ∃ m : Int, wrap64 (-v) = m ∧ (m = -v ∨ (v = -9223372036854775808 ∧ m = v)) := by
  obtain ⟨hv1, hv2⟩ := hv
  by_cases h0 : v = -9223372036854775808
  · exact ⟨v, by subst h0; decide +kernel, .inr ⟨h0, rfl⟩⟩
  · exact ⟨-v, IntWalk.wrap64_in _ (by omega), .inl rfl⟩

theorem bPutS_bad (t v : Int) (a c : Option Addr) (w : World) (hv : InI v) (h : a = none ∨ c = none ∨ ¬ (0 ≤ t ∧ t ≤ 15) ∨ v < -1048576 ∨ 1048576 < v) :
    Calls Try.prog 26 #[.pointer a, .pointer c, .int .i64 t, .int .i64 v] w fun r w' => r = .returned (.int .i64 1) ∧ w' = w := by
  obtain ⟨m, hm1, hm2⟩ := wrap_neg hv
  have h' : a = none ∨ c = none ∨ ¬ (0 ≤ t ∧ t ≤ 15) ∨ v < -1048576 ∨ 1048576 < v := h
  clear h
  by_cases hl : v < m
  · have HP := Lib.hid (bPut_bad t m a c w (by
      rcases h' with h | h | h | h
      · exact .inl h
      · exact .inr (.inl h)
      · exact .inr (.inr (.inl h))
      · exact .inr (.inr (.inr (by omega)))))
    clear h' hm2 hv
    go_enter Try.func26, Try.ntmps26
    go_wp2_with fail
    refine HP.out.mono ?_
    rintro r w1 ⟨rfl, rfl⟩
    go_wp2_with fail
    go_ret
    exact ⟨rfl, rfl⟩
  · have HP := Lib.hid (bPut_bad t v a c w (by
      rcases h' with h | h | h | h
      · exact .inl h
      · exact .inr (.inl h)
      · exact .inr (.inr (.inl h))
      · exact .inr (.inr (.inr (by omega)))))
    clear h' hm2 hv
    go_enter Try.func26, Try.ntmps26
    go_wp2_with fail
    refine HP.out.mono ?_
    rintro r w1 ⟨rfl, rfl⟩
    go_wp2_with fail
    go_ret
    exact ⟨rfl, rfl⟩

set_option maxRecDepth 20000 in
theorem bPutS_ok (N : NextSpec) (X : EncSpec) (w : World) (b p t : Nat) (v : Int) (D : List Nat) (B : Chs) (e : Enc) (hb : Bk w b B) (hE : X.En w p D e) (hs : b ∉ p :: D) (hB : FineB B) (he : e.Ok) (hn : e.n ≤ 60000) (ht : t < 16) (hv : -1048576 ≤ v ∧ v ≤ 1048576) :
    Calls Try.prog 26 #[pt b, pt p, .int .i64 (t : Int), .int .i64 v] w fun r w' => r = .returned (.int .i64 0) ∧ NibAt X w b p D t B e w' (sgnEvs v) := by
  obtain ⟨m, hm1, hm2⟩ := wrap_neg (v := v) ⟨by omega, by omega⟩
  have hm : m = -v := by omega
  clear hm2
  have hP := bPut_ok N X w b p t v.natAbs D B e hb hE hs hB he hn ht (by omega)
  have hQ := fun w1 (bit : Bool) (h : NibAt X w b p D t B e w1 (numEvs v.natAbs)) => bput_any N X w1 w b p D t 36 B e _ bit h hB he (by have := numEvs_length (v := v.natAbs) (by omega); omega) ht (by omega)
  clear hb hE hs hB he hn
  rcases Int.lt_trichotomy v 0 with h0 | h0 | h0
  · have en : ((v.natAbs : Nat) : Int) = m := by omega
    have hl : v < m := by omega
    have es : sgnEvs v = numEvs v.natAbs ++ [(some 36, true)] := by
      unfold sgnEvs signEvs
      rw [if_neg (by omega), decide_eq_true (by omega)]
    rw [en] at hP
    rw [es]
    have e1 : (v == 0) = false := by simp; omega
    have e2 : decide (v < 0) = true := by simp; omega
    have HP := Lib.hid hP
    have HQ := Lib.hid hQ
    clear hP hQ es h0 hm hv en
    go_enter Try.func26, Try.ntmps26
    go_wp2_with fail
    refine HP.out.mono ?_
    rintro r w1 ⟨rfl, h1⟩
    have HQ1 := Lib.hid (HQ.out w1 true h1)
    rw [show ((true.toNat : Nat) : Int) = 1 from rfl] at HQ1
    clear h1 HP HQ
    go_wp2_with fail
    refine HQ1.out.mono ?_
    rintro r w2 ⟨rfl, h2⟩
    have H2 := Lib.hid h2
    clear h2 HQ1
    go_wp2_with fail
    go_ret
    exact ⟨rfl, H2.out⟩
  · have en : ((v.natAbs : Nat) : Int) = v := by omega
    have hl : ¬ v < m := by omega
    have es : sgnEvs v = numEvs v.natAbs := by
      unfold sgnEvs signEvs
      rw [if_pos h0, List.append_nil]
    rw [en] at hP
    rw [es]
    have e1 : (v == 0) = true := by simp; omega
    have HP := Lib.hid hP
    clear hP hQ es h0 hm hv en
    go_enter Try.func26, Try.ntmps26
    go_wp2_with fail
    refine HP.out.mono ?_
    rintro r w1 ⟨rfl, h1⟩
    have H1 := Lib.hid h1
    clear h1 HP
    go_wp2_with fail
    go_ret
    exact ⟨rfl, H1.out⟩
  · have en : ((v.natAbs : Nat) : Int) = v := by omega
    have hl : ¬ v < m := by omega
    have es : sgnEvs v = numEvs v.natAbs ++ [(some 36, false)] := by
      unfold sgnEvs signEvs
      rw [if_neg (by omega), decide_eq_false (by omega)]
    rw [en] at hP
    rw [es]
    have e1 : (v == 0) = false := by simp; omega
    have e2 : decide (v < 0) = false := by simp; omega
    have HP := Lib.hid hP
    have HQ := Lib.hid hQ
    clear hP hQ es h0 hm hv en
    go_enter Try.func26, Try.ntmps26
    go_wp2_with fail
    refine HP.out.mono ?_
    rintro r w1 ⟨rfl, h1⟩
    have HQ1 := Lib.hid (HQ.out w1 false h1)
    rw [show ((false.toNat : Nat) : Int) = 0 from rfl] at HQ1
    clear h1 HP HQ
    go_wp2_with fail
    refine HQ1.out.mono ?_
    rintro r w2 ⟨rfl, h2⟩
    have H2 := Lib.hid h2
    clear h2 HQ1
    go_wp2_with fail
    go_ret
    exact ⟨rfl, H2.out⟩

theorem bPutO_bad (t n v : Int) (a c : Option Addr) (w : World) (h : a = none ∨ c = none ∨ ¬ (0 ≤ t ∧ t ≤ 15) ∨ ¬ (1 ≤ n ∧ n ≤ 16) ∨ v < 0 ∨ n ≤ v) :
    Calls Try.prog 27 #[.pointer a, .pointer c, .int .i64 t, .int .i64 n, .int .i64 v] w fun r w' => r = .returned (.int .i64 1) ∧ w' = w := by
  have HT := Lib.hid (btopic_any t w)
  have HC := Lib.hid (bchoice_any n w)
  cases a with
  | none =>
    clear h
    go_enter Try.func27, Try.ntmps27
    go_wp2_with fail
    go_ret
    exact ⟨rfl, rfl⟩
  | some a =>
  cases c with
  | none =>
    clear h
    go_enter Try.func27, Try.ntmps27
    go_wp2_with fail
    go_ret
    exact ⟨rfl, rfl⟩
  | some c =>
  have h : ¬ (0 ≤ t ∧ t ≤ 15) ∨ ¬ (1 ≤ n ∧ n ≤ 16) ∨ v < 0 ∨ n ≤ v := by simpa using h
  by_cases h1 : 0 ≤ t ∧ t ≤ 15
  · rw [decide_eq_true h1] at HT
    by_cases h3 : 1 ≤ n ∧ n ≤ 16
    · rw [decide_eq_true h3] at HC
      by_cases h2 : v < 0
      · have e1 : decide (v < 0) = true := by simpa using h2
        clear h1 h3 h
        go_enter Try.func27, Try.ntmps27
        go_wp2_with fail
        refine HT.out.mono ?_
        rintro r w1 ⟨rfl, rfl⟩
        go_wp2_with fail
        refine HC.out.mono ?_
        rintro r w1 ⟨rfl, rfl⟩
        go_wp2_with fail
        go_ret
        exact ⟨rfl, rfl⟩
      · have e1 : decide (v < 0) = false := by simpa using h2
        have e2 : decide (n ≤ v) = true := by simp; omega
        clear h1 h3 h
        go_enter Try.func27, Try.ntmps27
        go_wp2_with fail
        refine HT.out.mono ?_
        rintro r w1 ⟨rfl, rfl⟩
        go_wp2_with fail
        refine HC.out.mono ?_
        rintro r w1 ⟨rfl, rfl⟩
        go_wp2_with fail
        go_ret
        exact ⟨rfl, rfl⟩
    · rw [decide_eq_false h3] at HC
      clear h h1 h3
      go_enter Try.func27, Try.ntmps27
      go_wp2_with fail
      refine HT.out.mono ?_
      rintro r w1 ⟨rfl, rfl⟩
      go_wp2_with fail
      refine HC.out.mono ?_
      rintro r w1 ⟨rfl, rfl⟩
      go_wp2_with fail
      go_ret
      exact ⟨rfl, rfl⟩
  · rw [decide_eq_false h1] at HT
    clear h h1
    go_enter Try.func27, Try.ntmps27
    go_wp2_with fail
    refine HT.out.mono ?_
    rintro r w1 ⟨rfl, rfl⟩
    go_wp2_with fail
    go_ret
    exact ⟨rfl, rfl⟩

theorem digits_ahead (n v : Nat) (h : v < 2 ^ n) : digits (2 ^ n + v) n = digits v n := by
  have h1 : number (digits (2 ^ n + v) n) = number (digits v n) := by
    rw [number_digits, number_digits, Nat.add_mod_left]
  have h2 := digits_number (digits (2 ^ n + v) n)
  have h3 := digits_number (digits v n)
  rw [digits_length] at h2 h3
  rw [← h2, h1, h3]

set_option maxRecDepth 20000 in
theorem bPutO_ok (N : NextSpec) (X : EncSpec) (w : World) (b p t n v : Nat) (D : List Nat) (B : Chs) (e : Enc) (hb : Bk w b B) (hE : X.En w p D e) (hs : b ∉ p :: D) (hB : FineB B) (he : e.Ok) (hn : e.n ≤ 60000) (ht : t < 16) (hn1 : 1 ≤ n) (hn2 : n ≤ 16) (hv : v < n) :
    Calls Try.prog 27 #[pt b, pt p, .int .i64 (t : Int), .int .i64 (n : Int), .int .i64 (v : Int)] w fun r w' => r = .returned (.int .i64 0) ∧ NibAt X w b p D t B e w' (oneEvs n v) := by
  have HT := btopic_any (t : Int) w
  rw [decide_eq_true (by omega : 0 ≤ (t : Int) ∧ (t : Int) ≤ 15)] at HT
  have HT := Lib.hid HT
  have HC := bchoice_any (n : Int) w
  rw [decide_eq_true (by omega : 1 ≤ (n : Int) ∧ (n : Int) ≤ 16)] at HC
  have HC := Lib.hid HC
  have e1 : decide (n ≤ v) = false := by simp; omega
  have hL := mlen_any (n - 1) w (by omega)
  rw [show ((n - 1 : Nat) : Int) = (n : Int) - 1 by omega] at hL
  have eU : IntKind.u64.wrap ((n : Int) - 1) = (n : Int) - 1 := IntWalk.u64_in _ (by omega)
  obtain ⟨k, hk⟩ : ∃ k, k = bitLen (n - 1) := ⟨_, rfl⟩
  have hk4 : k ≤ 4 := by
    rw [hk]
    unfold bitLen
    split
    · omega
    · have : (n - 1).log2 < 4 := (Nat.log2_lt (by omega)).2 (by omega)
      omega
  have hvk : v < 2 ^ k := by have := bitLen_lt (n - 1); rw [← hk] at this; omega
  have hQ := fun w1 (h : NibAt X w b p D t B e w1 []) => blowest_any N X w1 w b p D t k (2 ^ k + v) B e _ h hB he (by simp; omega) ht (by omega) (by omega) (by rw [Nat.pow_succ]; omega)
  rw [digits_ahead k v hvk, List.nil_append] at hQ
  have ho : oneEvs n v = bitEvs 0 0 (digits v k) := by unfold oneEvs; rw [hk]
  rw [ho]
  rw [← hk] at hL
  have H0 := Lib.hid (NibAt.start (t := t) (B := B) (e := e) hb hE hs)
  have hp16 : 2 ^ k ≤ 16 := Nat.pow_le_pow_right (n := 2) (i := k) (j := 4) (by omega) (by omega)
  have eP : wrap64 ((2 : Int) ^ k) = ((2 ^ k : Nat) : Int) := by
    have h1 : ((2 ^ k : Nat) : Int) = (2 : Int) ^ k := by simp
    rw [h1]
    exact IntWalk.wrap64_in _ (by omega)
  have eP' : IntKind.i64.wrap ((2 : Int) ^ k) = ((2 ^ k : Nat) : Int) := by
    have h1 : ((2 ^ k : Nat) : Int) = (2 : Int) ^ k := by simp
    rw [h1]
    exact IntWalk.i64_in _ (by omega)
  obtain ⟨P, hP⟩ : ∃ P, P = 2 ^ k := ⟨_, rfl⟩
  rw [← hP] at hQ eP eP' hvk hp16
  have HL := Lib.hid hL; have HQ := Lib.hid hQ
  clear hL hQ ho hk hb hE hs hB he hn hP
  go_enter Try.func27, Try.ntmps27
  go_wp2_with fail
  refine HT.out.mono ?_
  rintro r w1 ⟨rfl, rfl⟩
  go_wp2_with fail
  refine HC.out.mono ?_
  rintro r w1 ⟨rfl, rfl⟩
  go_wp2_with fail
  refine HL.out.mono ?_
  rintro r w1 ⟨rfl, rfl⟩
  clear HL HT HC
  go_upto_region 4 with fail
  have HQ1 := Lib.hid (HQ.out w1.drew (H0.out.fr0 (Fr.refl _ _).drew))
  clear HQ H0
  have eQ : IntKind.i64.wrap (IntKind.i64.wrap ((2 : Int) ^ k) + (v : Int)) = ((P + v : Nat) : Int) := by rw [eP', IntWalk.i64_in _ (by omega)]; simp
  have EQ := Lib.hid eQ
  clear eP eP' eQ
  have q1 : (t : Int) < 16 := by omega
  refine wp_region_held_drew (S := fun _ => True) (by kernel_rfl) ?_ (fun hHeld => ?_)
  · trivial
  refine wpAnyH_pick 0 (v := ?_) rfl (by kernel_rfl) (by kernel_rfl) (by kernel_rfl) (fun _ _ _ h => h) (by assumption) (by rfl) ?_ ?_
  rotate_left
  · (intro w hSw; (try dsimp only at hSw); go_simp) <;> (with_reducible rfl)
  (try simp only [Act.put, List.setIfInBounds_toArray, List.set_cons_zero, List.set_cons_succ])
  refine wpAnyH_pick 1 (v := ?_) rfl (by kernel_rfl) (by kernel_rfl) (by kernel_rfl) (fun _ _ _ h => h) (by assumption) (by rfl) ?_ ?_
  rotate_left
  · (intro w hSw; (try dsimp only at hSw); go_simp) <;> (with_reducible rfl)
  (try simp only [Act.put, List.setIfInBounds_toArray, List.set_cons_zero, List.set_cons_succ])
  refine wpAnyH_pick 2 (v := ?_) rfl (by kernel_rfl) (by kernel_rfl) (by kernel_rfl) (fun _ _ _ h => h) (by assumption) (by rfl) ?_ ?_
  rotate_left
  · (intro w hSw; (try dsimp only at hSw); go_simp) <;> (with_reducible rfl)
  (try simp only [Act.put, List.setIfInBounds_toArray, List.set_cons_zero, List.set_cons_succ])
  refine wpAnyH_pick 3 (v := ?_) rfl (by kernel_rfl) (by kernel_rfl) (by kernel_rfl) (fun _ _ _ h => h) (by assumption) (by rfl) ?_ ?_
  rotate_left
  · (intro w hSw; (try dsimp only at hSw); go_simp) <;> (with_reducible rfl)
  (try simp only [Act.put, List.setIfInBounds_toArray, List.set_cons_zero, List.set_cons_succ])
  refine wpAnyH_pick 4 (v := ?_) rfl (by kernel_rfl) (by kernel_rfl) (by kernel_rfl) (fun _ _ _ h => h) (by assumption) (by rfl) ?_ ?_
  rotate_left
  · (intro w hSw; (try dsimp only at hSw); go_simp) <;> (with_reducible rfl)
  (try simp only [Act.put, List.setIfInBounds_toArray, List.set_cons_zero, List.set_cons_succ])
  refine wpAnyH_pick 5 (v := ?_) rfl (by kernel_rfl) (by kernel_rfl) (by kernel_rfl) (fun _ _ _ h => h) (by assumption) (by rfl) ?_ ?_
  rotate_left
  · (intro w hSw; (try dsimp only at hSw); go_simp) <;> (with_reducible rfl)
  (try simp only [Act.put, List.setIfInBounds_toArray, List.set_cons_zero, List.set_cons_succ])
  refine wpAnyH_pick 6 (v := ?_) rfl (by kernel_rfl) (by kernel_rfl) (by kernel_rfl) (fun _ _ _ h => h) (by assumption) (by rfl) ?_ ?_
  rotate_left
  · (intro w hSw; (try dsimp only at hSw); go_simp) <;> (with_reducible rfl)
  (try simp only [Act.put, List.setIfInBounds_toArray, List.set_cons_zero, List.set_cons_succ])
  refine wpAnyH_pick 7 (v := ?_) rfl (by kernel_rfl) (by kernel_rfl) (by kernel_rfl) (fun _ _ _ h => h) (by assumption) (by rfl) ?_ ?_
  rotate_left
  · (intro w hSw; (try dsimp only at hSw); go_simp) <;> (with_reducible rfl)
  (try simp only [Act.put, List.setIfInBounds_toArray, List.set_cons_zero, List.set_cons_succ])
  refine wpAnyH_pick 8 (v := ?_) rfl (by kernel_rfl) (by kernel_rfl) (by kernel_rfl) (fun _ _ _ h => h) (by assumption) (by rfl) ?_ ?_
  rotate_left
  · (intro w hSw; (try dsimp only at hSw); go_simp) <;> (with_reducible rfl)
  (try simp only [Act.put, List.setIfInBounds_toArray, List.set_cons_zero, List.set_cons_succ])
  refine wpAnyH_pick 9 (v := ?_) rfl (by kernel_rfl) (by kernel_rfl) (by kernel_rfl) (fun _ _ _ h => h) (by assumption) (by rfl) ?_ ?_
  rotate_left
  · (intro w hSw; (try dsimp only at hSw); go_simp) <;> (with_reducible rfl)
  (try simp only [Act.put, List.setIfInBounds_toArray, List.set_cons_zero, List.set_cons_succ])
  refine wpAnyH_pick 10 (v := ?_) rfl (by kernel_rfl) (by kernel_rfl) (by kernel_rfl) (fun _ _ _ h => h) (by assumption) (by rfl) ?_ ?_
  rotate_left
  · (intro w hSw; (try dsimp only at hSw); go_simp) <;> (with_reducible rfl)
  (try simp only [Act.put, List.setIfInBounds_toArray, List.set_cons_zero, List.set_cons_succ])
  refine wpAnyH_ready (rs := [11]) (by kernel_rfl) (by simp) ?_
  refine AllReadyH_pick rfl (fun K hK => ?_) (AllReadyH.nil)
  go_simp
  rw [EQ.out]
  refine HQ1.out.mono ?_
  rintro r w3 ⟨rfl, h3⟩
  have H3 := Lib.hid h3
  clear h3 HQ1
  go_wp2_with fail
  refine hK.out _ _ ?_ (fun hHeld => ?_)
  · trivial
  clear hK K
  (try simp only [Act.put, List.setIfInBounds_toArray, List.set_cons_zero, List.set_cons_succ])
  refine wpAnyH_pick 12 (v := ?_) rfl (by kernel_rfl) (by kernel_rfl) (by kernel_rfl) (fun _ _ _ h => h) (by assumption) (by rfl) ?_ ?_
  rotate_left
  · (intro w hSw; (try dsimp only at hSw); go_simp) <;> (with_reducible rfl)
  (try simp only [Act.put, List.setIfInBounds_toArray, List.set_cons_zero, List.set_cons_succ])
  refine wpAnyH_done (by kernel_rfl) ?_ _
  skip
  go_wp2_with fail
  go_ret
  exact ⟨rfl, H3.out⟩
end Go.Proofs.Ytfjlepnodmeaaaa
