/-
  Contracts of the landed book: Get, GetSigned, GetOne. Conditions: the book and the decoder are apart, the chances are right.
-/
import Derived.Test.YtfjlepnodmeaaaaBook5
import Derived.Test.YtfjlepnodmeaaaaLen
namespace Go.Proofs.Ytfjlepnodmeaaaa
open Go.RowKit

/-- What getting a number answers, and does. -/
def NumPost (Y : DecSpec) (b y : Nat) (K : List Nat) (bs : List UInt8) (w : World) (g : Got) (r : Ending) (w' : World) : Prop :=
  match g with
  | .bad e => r = .returned (.tuple #[.int .i64 0, .int .i64 e]) ∧ Fr [b, y] w w'
  | .ok v B d => r = .returned (.tuple #[.int .i64 v, .int .i64 0]) ∧ Look Y w' b B y K bs d ∧ Fr [b, y] w w'

theorem bGet_bad (t : Int) (a c : Option Addr) (w : World) (h : a = none ∨ c = none ∨ ¬ (0 ≤ t ∧ t ≤ 15)) :
    Calls Try.prog 34 #[.pointer a, .pointer c, .int .i64 t] w fun r w' => r = .returned (.tuple #[.int .i64 0, .int .i64 1]) ∧ w' = w := by
  have HT := Lib.hid (btopic_any t w)
  cases a with
  | none =>
    clear h
    go_enter Try.func34, Try.ntmps34
    go_wp2_with fail
    go_ret2
    exact ⟨rfl, rfl⟩
  | some a =>
  cases c with
  | none =>
    clear h
    go_enter Try.func34, Try.ntmps34
    go_wp2_with fail
    go_ret2
    exact ⟨rfl, rfl⟩
  | some c =>
  have h : ¬ (0 ≤ t ∧ t ≤ 15) := by simpa using h
  rw [decide_eq_false h] at HT
  go_enter Try.func34, Try.ntmps34
  go_wp2_with fail
  refine HT.out.mono ?_
  rintro r w1 ⟨rfl, rfl⟩
  go_wp2_with fail
  go_ret2
  exact ⟨rfl, rfl⟩

theorem getLen_le {bs : List UInt8} {t : Nat} : ∀ (k n : Nat) {n' : Nat} {B B' : Chs} {d d' : Dec}, getLen bs t k n B d = some (n', B', d') → n' ≤ n + k
  | 0, n, n', B, B', d, d', h => by
    unfold getLen at h
    injection h with h
    injection h with h1 h
    omega
  | k + 1, n, n', B, B', d, d', h => by
    unfold getLen at h
    split at h
    · cases h
    · split at h
      · have := getLen_le k (n + 1) h
        omega
      · injection h with h
        injection h with h1 h
        omega
theorem getBits_lt {bs : List UInt8} {t : Nat} : ∀ (k i a : Nat) {a' : Nat} {B B' : Chs} {d d' : Dec}, getBits bs t k i a B d = some (a', B', d') → a < 2 ^ i → a' < 2 ^ (i + k)
  | 0, i, a, a', B, B', d, d', h, ha => by
    unfold getBits at h
    injection h with h
    injection h with h1 h
    rw [← h1]
    exact ha
  | k + 1, i, a, a', B, B', d, d', h, ha => by
    unfold getBits at h
    split at h
    · cases h
    · rename_i b1 B1 d1 _
      have := getBits_lt k (i + 1) _ h (by rw [Nat.pow_succ]; have := Bool.toNat_le b1; omega)
      rw [show i + (k + 1) = i + 1 + k by omega]
      exact this

set_option maxRecDepth 20000 in
theorem bGet_any (N : NextSpec) (Y : DecSpec) (w : World) (b y t : Nat) (K : List Nat) (bs : List UInt8) (d : Dec) (B : Chs) (h : Look Y w b B y K bs d) (hn : bs.length ≤ 100000) (ht : t < 16) :
    Calls Try.prog 34 #[pt b, pt y, .int .i64 (t : Int)] w (NumPost Y b y K bs w (getNum bs t B d)) := by
  have HT := btopic_any (t : Int) w
  rw [decide_eq_true (by omega : 0 ≤ (t : Int) ∧ (t : Int) ≤ 15)] at HT
  have HT := Lib.hid HT
  have hL := bglength_any N Y w b y t K bs d B h hn ht
  obtain ⟨g, hg⟩ : ∃ g, g = getNum bs t B d := ⟨_, rfl⟩
  rw [← hg]
  unfold getNum at hg
  obtain ⟨u, hu⟩ : ∃ u, u = getLen bs t 20 0 B d := ⟨_, rfl⟩
  have hule := fun n B1 d1 (e : u = some (n, B1, d1)) => getLen_le 20 0 (hu ▸ e)
  rw [← hu] at hL hg
  have HL := Lib.hid hL; have Hg := Lib.hid hg; have Hule := Lib.hid hule
  clear h hL hg hu hule
  go_enter Try.func34, Try.ntmps34
  go_wp2_with fail
  refine HT.out.mono ?_
  rintro r w1 ⟨rfl, rfl⟩
  clear HT
  go_wp2_with fail
  refine HL.out.mono ?_
  intro r w2 hQ
  rcases u with _ | ⟨n, B1, d1⟩
  · obtain ⟨rfl, hF⟩ := hQ
    have hgg : g = .bad 41 := Hg.out
    have Hgg := Lib.hid hgg
    have HF := Lib.hid hF
    clear hF HL hgg Hg Hule
    go_wp2_with fail
    go_ret2
    rw [Hgg.out]
    exact ⟨rfl, HF.out⟩
  · obtain ⟨hr, hE, hF⟩ := hQ
    have hr : r = .returned (.tuple #[.int .i64 (n : Int), .int .i64 0]) := hr
    subst hr
    have hn20 : n ≤ 20 := by have := Hule.out n B1 d1 rfl; omega
    have hP := bglowest_any N Y w2 b y t n K bs d1 B1 hE hn ht hn20
    have hg2 := Hg.out
    obtain ⟨u, hu⟩ : ∃ u, u = getBits bs t n 0 0 B1 d1 := ⟨_, rfl⟩
    have hult := fun a B2 d2 (e : u = some (a, B2, d2)) => getBits_lt n 0 0 (hu ▸ e) (by decide)
    simp only at hg2
    rw [← hu] at hP hg2
    have HP := Lib.hid hP; have Hg2 := Lib.hid hg2; have Hult := Lib.hid hult; have HF := Lib.hid hF
    clear hP hg2 hu hult hE hF HL Hg Hule
    go_wp2_with fail
    refine HP.out.mono ?_
    intro r w3 hQ
    rcases u with _ | ⟨a, B2, d2⟩
    · obtain ⟨rfl, hF3⟩ := hQ
      have hgg : g = .bad 41 := Hg2.out
      have Hgg := Lib.hid hgg
      have HF3 := Lib.hid (HF.out.trans hF3 (fun x hx => .inl hx))
      clear hF3 hgg Hg2 Hult HP HF
      go_wp2_with fail
      go_ret2
      rw [Hgg.out]
      exact ⟨rfl, HF3.out⟩
    · obtain ⟨hr, hE3, hF3⟩ := hQ
      obtain ⟨V, hV⟩ : ∃ V, V = 2 ^ n + a := ⟨_, rfl⟩
      have hr : r = .returned (.tuple #[.int .i64 (V : Int), .int .i64 0]) := by rw [hV]; exact hr
      subst hr
      have hVb : V < 2097152 := by
        have h1 := Hult.out a B2 d2 rfl
        have h2 : 2 ^ n ≤ 1048576 := Nat.pow_le_pow_right (n := 2) (i := n) (j := 20) (by omega) (by omega)
        rw [Nat.zero_add] at h1
        omega
      have hV1 : 1 ≤ V := by have := Nat.two_pow_pos n; omega
      have hgg : g = if 1048576 < V - 1 then .bad 51 else .ok ((V - 1 : Nat) : Int) B2 d2 := by rw [hV]; exact Hg2.out
      have HF3 := Lib.hid (HF.out.trans hF3 (fun x hx => .inl hx)); have HE3 := Lib.hid hE3
      clear hF3 hE3 hV Hg2 Hult HP HF
      by_cases hb : 1048576 < V - 1
      · have e3 : decide (1048576 < (V : Int) - 1) = true := by simp; omega
        rw [if_pos hb] at hgg
        have Hgg := Lib.hid hgg
        clear hgg hb
        go_wp2_with fail
        go_ret2
        rw [Hgg.out]
        exact ⟨rfl, HF3.out⟩
      · have e3 : decide (1048576 < (V : Int) - 1) = false := by simp; omega
        rw [if_neg hb] at hgg
        have eV1 : ((V - 1 : Nat) : Int) = (V : Int) - 1 := by omega
        rw [eV1] at hgg
        have Hgg := Lib.hid hgg
        clear hgg hb eV1
        go_wp2_with fail
        go_ret2
        rw [Hgg.out]
        exact ⟨rfl, HE3.out, HF3.out⟩

theorem bGetS_bad (t : Int) (a c : Option Addr) (w : World) (h : a = none ∨ c = none ∨ ¬ (0 ≤ t ∧ t ≤ 15)) :
    Calls Try.prog 31 #[.pointer a, .pointer c, .int .i64 t] w fun r w' => r = .returned (.tuple #[.int .i64 0, .int .i64 1]) ∧ w' = w := by
  have HG := Lib.hid (bGet_bad t a c w h)
  clear h
  go_enter Try.func31, Try.ntmps31
  go_wp2_with fail
  refine HG.out.mono ?_
  rintro r w1 ⟨rfl, rfl⟩
  go_wp2_with fail
  go_ret2
  exact ⟨rfl, rfl⟩

set_option maxRecDepth 20000 in
theorem bGetS_any (N : NextSpec) (Y : DecSpec) (w : World) (b y t : Nat) (K : List Nat) (bs : List UInt8) (d : Dec) (B : Chs) (h : Look Y w b B y K bs d) (hn : bs.length ≤ 100000) (ht : t < 16) :
    Calls Try.prog 31 #[pt b, pt y, .int .i64 (t : Int)] w (NumPost Y b y K bs w (getSgn bs t B d)) := by
  have hG := bGet_any N Y w b y t K bs d B h hn ht
  have hfine := getNum_keeps (t := t) h.ok
  clear h
  unfold getSgn
  cases hN : getNum bs t B d with
  | bad e =>
    rw [hN] at hG hfine
    simp only
    have he : e = 41 ∨ e = 51 := hfine
    have HG := Lib.hid hG
    clear hG hN hfine
    rcases he with rfl | rfl
    all_goals
      go_enter Try.func31, Try.ntmps31
      go_wp2_with fail
      refine HG.out.mono ?_
      rintro r w1 ⟨rfl, hF⟩
      have HF := Lib.hid hF
      clear hF HG
      go_wp2_with fail
      go_ret2
      exact ⟨rfl, HF.out⟩
  | ok v B1 d1 =>
    have hv := getNum_range hN
    rw [hN] at hG
    have HG := Lib.hid hG
    clear hG hN hfine
    simp only
    by_cases h0 : v = 0
    · subst h0
      unfold getSign
      rw [if_pos rfl]
      go_enter Try.func31, Try.ntmps31
      go_wp2_with fail
      refine HG.out.mono ?_
      rintro r w1 ⟨rfl, hE, hF⟩
      have HF := Lib.hid hF; have HE := Lib.hid hE
      clear hF hE HG
      go_wp2_with fail
      go_ret2
      exact ⟨rfl, HE.out, HF.out⟩
    · have e0 : (v == 0) = false := by simpa using h0
      obtain ⟨g, hg⟩ : ∃ g, g = getSign bs t v B1 d1 := ⟨_, rfl⟩
      rw [← hg]
      unfold getSign at hg
      rw [if_neg h0] at hg
      obtain ⟨u, hu⟩ : ∃ u, u = getEv bs t B1 d1 (some 36) := ⟨_, rfl⟩
      have hB := fun w1 (h : Look Y w1 b B1 y K bs d1) => bget_any N Y w1 b y t 36 K bs d1 B1 h hn ht (by omega)
      rw [← hu] at hg hB
      have Hg := Lib.hid hg; have HB := Lib.hid hB
      clear hg h0 hu hB
      go_enter Try.func31, Try.ntmps31
      go_wp2_with fail
      refine HG.out.mono ?_
      rintro r w1 ⟨rfl, hE, hF⟩
      have HB1 := Lib.hid (HB.out w1 hE); have HF := Lib.hid hF
      clear hE hF HG HB
      go_wp2_with fail
      refine HB1.out.mono ?_
      intro r1 w2 hQ
      rcases u with _ | ⟨bit, B2, d2⟩
      · obtain ⟨rfl, hF2⟩ := hQ
        have hgg : g = .bad 41 := Hg.out
        have HF2 := Lib.hid (HF.out.trans hF2 (fun x hx => .inl hx)); have Hgg := Lib.hid hgg
        clear hF2 hgg HB1 HF Hg
        go_wp2_with fail
        go_ret2
        rw [Hgg.out]
        exact ⟨rfl, HF2.out⟩
      · obtain ⟨rfl, hE2, hF2⟩ := hQ
        have hgg : g = .ok (if bit then -v else v) B2 d2 := Hg.out
        have HF2 := Lib.hid (HF.out.trans hF2 (fun x hx => .inl hx)); have HE2 := Lib.hid hE2
        cases bit with
        | true =>
          have Hgg := Lib.hid hgg
          clear hE2 hF2 hgg HB1 HF Hg
          go_wp2_with fail
          go_ret2
          rw [Hgg.out]
          exact ⟨rfl, HE2.out, HF2.out⟩
        | false =>
          have Hgg := Lib.hid hgg
          clear hE2 hF2 hgg HB1 HF Hg
          go_wp2_with fail
          go_ret2
          rw [Hgg.out]
          exact ⟨rfl, HE2.out, HF2.out⟩

theorem bGetO_bad (t n : Int) (a c : Option Addr) (w : World) (h : a = none ∨ c = none ∨ ¬ (0 ≤ t ∧ t ≤ 15) ∨ ¬ (1 ≤ n ∧ n ≤ 16)) :
    Calls Try.prog 32 #[.pointer a, .pointer c, .int .i64 t, .int .i64 n] w fun r w' => r = .returned (.tuple #[.int .i64 0, .int .i64 1]) ∧ w' = w := by
  have HT := Lib.hid (btopic_any t w)
  have HC := Lib.hid (bchoice_any n w)
  cases a with
  | none =>
    clear h
    go_enter Try.func32, Try.ntmps32
    go_wp2_with fail
    go_ret2
    exact ⟨rfl, rfl⟩
  | some a =>
  cases c with
  | none =>
    clear h
    go_enter Try.func32, Try.ntmps32
    go_wp2_with fail
    go_ret2
    exact ⟨rfl, rfl⟩
  | some c =>
  have h : ¬ (0 ≤ t ∧ t ≤ 15) ∨ ¬ (1 ≤ n ∧ n ≤ 16) := by simpa using h
  by_cases h1 : 0 ≤ t ∧ t ≤ 15
  · rw [decide_eq_true h1] at HT
    have h3 : ¬ (1 ≤ n ∧ n ≤ 16) := by omega
    rw [decide_eq_false h3] at HC
    clear h1 h3 h
    go_enter Try.func32, Try.ntmps32
    go_wp2_with fail
    refine HT.out.mono ?_
    rintro r w1 ⟨rfl, rfl⟩
    go_wp2_with fail
    refine HC.out.mono ?_
    rintro r w1 ⟨rfl, rfl⟩
    go_wp2_with fail
    go_ret2
    exact ⟨rfl, rfl⟩
  · rw [decide_eq_false h1] at HT
    clear h1 h
    go_enter Try.func32, Try.ntmps32
    go_wp2_with fail
    refine HT.out.mono ?_
    rintro r w1 ⟨rfl, rfl⟩
    go_wp2_with fail
    go_ret2
    exact ⟨rfl, rfl⟩

set_option maxRecDepth 20000 in
theorem bGetO_any (N : NextSpec) (Y : DecSpec) (w : World) (b y t m : Nat) (K : List Nat) (bs : List UInt8) (d : Dec) (B : Chs) (h : Look Y w b B y K bs d) (hn : bs.length ≤ 100000) (ht : t < 16) (hm1 : 1 ≤ m) (hm2 : m ≤ 16) :
    Calls Try.prog 32 #[pt b, pt y, .int .i64 (t : Int), .int .i64 (m : Int)] w (NumPost Y b y K bs w (getOne bs t m B d)) := by
  have HT := btopic_any (t : Int) w
  rw [decide_eq_true (by omega : 0 ≤ (t : Int) ∧ (t : Int) ≤ 15)] at HT
  have HT := Lib.hid HT
  have HC := bchoice_any (m : Int) w
  rw [decide_eq_true (by omega : 1 ≤ (m : Int) ∧ (m : Int) ≤ 16)] at HC
  have HC := Lib.hid HC
  have hL := mlen_any (m - 1) w (by omega)
  rw [show ((m - 1 : Nat) : Int) = (m : Int) - 1 by omega] at hL
  have eU : IntKind.u64.wrap ((m : Int) - 1) = (m : Int) - 1 := IntWalk.u64_in _ (by omega)
  obtain ⟨g, hg⟩ : ∃ g, g = getOne bs t m B d := ⟨_, rfl⟩
  rw [← hg]
  unfold getOne at hg
  obtain ⟨k, hk⟩ : ∃ k, k = bitLen (m - 1) := ⟨_, rfl⟩
  have hk4 : k ≤ 4 := by rw [hk]; exact bitLen_le hm2
  rw [← hk] at hL hg
  obtain ⟨u, hu⟩ : ∃ u, u = getBits bs t k 0 0 B d := ⟨_, rfl⟩
  have hult := fun a B2 d2 (e : u = some (a, B2, d2)) => getBits_lt k 0 0 (hu ▸ e) (by decide)
  have hP := bglowest_any N Y w b y t k K bs d B h hn ht (by omega)
  rw [← hu] at hP hg
  have hp16 : 2 ^ k ≤ 16 := Nat.pow_le_pow_right (n := 2) (i := k) (j := 4) (by omega) (by omega)
  have eP : wrap64 ((2 : Int) ^ k) = ((2 ^ k : Nat) : Int) := by
    have h1 : ((2 ^ k : Nat) : Int) = (2 : Int) ^ k := by simp
    have h0 := Nat.two_pow_pos k
    rw [h1]
    exact IntWalk.wrap64_in _ (by omega)
  obtain ⟨P, hPP⟩ : ∃ P, P = 2 ^ k := ⟨_, rfl⟩
  rw [← hPP] at hP eP hp16
  have HL := Lib.hid hL; have HP := Lib.hid hP; have Hg := Lib.hid hg; have Hult := Lib.hid hult; have HPP := Lib.hid hPP
  clear hL hP hg hult hu hk h hPP
  go_enter Try.func32, Try.ntmps32
  go_wp2_with fail
  refine HT.out.mono ?_
  rintro r w1 ⟨rfl, rfl⟩
  go_wp2_with fail
  refine HC.out.mono ?_
  rintro r w1 ⟨rfl, rfl⟩
  go_wp2_with fail
  refine HL.out.mono ?_
  rintro r w1 ⟨rfl, rfl⟩
  clear HL HT HC
  go_wp2_with fail
  refine HP.out.mono ?_
  intro r w2 hQ
  rcases u with _ | ⟨a, B2, d2⟩
  · obtain ⟨rfl, hF⟩ := hQ
    have hgg : g = .bad 41 := Hg.out
    have Hgg := Lib.hid hgg
    have HF := Lib.hid hF
    clear hF hgg Hg Hult HP
    go_wp2_with fail
    go_ret2
    rw [Hgg.out]
    exact ⟨rfl, HF.out⟩
  · obtain ⟨hr, hE, hF⟩ := hQ
    have hr : r = .returned (.tuple #[.int .i64 ((P + a : Nat) : Int), .int .i64 0]) := hr
    subst hr
    have ha : a < 16 := by
      have h1 := Hult.out a B2 d2 rfl
      rw [Nat.zero_add, ← HPP.out] at h1
      omega
    have hgg : g = if m ≤ a then .bad 51 else .ok (a : Int) B2 d2 := Hg.out
    have HF := Lib.hid hF; have HE := Lib.hid hE
    clear hF hE Hg Hult HP
    have eS : (P : Int) + (a : Int) - (P : Int) = (a : Int) := by omega
    by_cases hb : m ≤ a
    · have e4 : decide (m ≤ a) = true := by simpa using hb
      rw [if_pos hb] at hgg
      have Hgg := Lib.hid hgg
      clear hgg hb
      go_wp2_with fail
      go_ret2
      rw [Hgg.out]
      exact ⟨rfl, HF.out⟩
    · have e4 : decide (m ≤ a) = false := by simpa using hb
      rw [if_neg hb] at hgg
      have Hgg := Lib.hid hgg
      clear hgg hb
      go_wp2_with fail
      go_ret2
      rw [Hgg.out]
      exact ⟨rfl, HE.out, HF.out⟩
end Go.Proofs.Ytfjlepnodmeaaaa
