/-
  Contracts of the document's book: GetSigned.
-/
import Derived.Test.YtfjlepnodmeaaaaRef5f
namespace Go.Proofs.Ytfjlepnodmeaaaa
open Go.RowKit

theorem rGetSigned_bad (t : Int) (a b : Value) (w : World) (h : ¬ (0 ≤ t ∧ t ≤ 15)) :
    Calls Try.prog 36 #[a, b, .int .i64 t] w fun r w' => r = .returned (.tuple #[.int .i64 0, .int .i64 1]) ∧ w' = w := by
  have HG := Lib.hid (rGet_bad t a b w h)
  go_enter Try.func36, Try.ntmps36
  go_wp2_with fail
  refine HG.out.mono ?_
  rintro r w1 ⟨rfl, rfl⟩
  go_wp2_with fail
  go_ret2
  exact ⟨rfl, rfl⟩

theorem getNum_range {bs : List UInt8} {t : Nat} {B B' : Chs} {d d' : Dec} {v : Int} (h : getNum bs t B d = .ok v B' d') : 0 ≤ v ∧ v ≤ 1048576 := by
  unfold getNum at h
  split at h
  · cases h
  · split at h
    · cases h
    · split at h
      · cases h
      · rename_i hle
        injection h with h1 h2 h3
        omega

set_option maxRecDepth 20000 in
set_option maxHeartbeats 4000000 in
theorem rGetSigned_any (w : World) (q p t cc : Nat) (A : Option Addr) (bs : List UInt8) (d : Dec) (B : Chs) (h : Eye w q B p A cc bs d) (ht : t < 16) (hn : bs.length ≤ 100000) :
    Calls Try.prog 36 #[pt q, pt p, .int .i64 (t : Int)] w (GotPost q p A cc bs w (getSgn bs t B d)) := by
  have hG := rGet_any w q p t cc A bs d B h ht hn
  clear h
  unfold getSgn
  cases hN : getNum bs t B d with
  | bad e =>
    rw [hN] at hG
    simp only
    have he : e = 41 ∨ e = 51 := by
      unfold getNum at hN
      split at hN
      · injection hN with hN; exact .inl hN.symm
      · split at hN
        · injection hN with hN; exact .inl hN.symm
        · split at hN
          · injection hN with hN; exact .inr hN.symm
          · cases hN
    have HG := Lib.hid hG
    clear hG hN
    rcases he with rfl | rfl
    all_goals
      go_enter Try.func36, Try.ntmps36
      go_wp2_with fail
      refine HG.out.mono ?_
      rintro r w1 ⟨rfl, hF⟩
      have HF := Lib.hid hF
      clear hF HG
      go_wp2_with fail
      go_ret2
      exact ⟨rfl, HF.out⟩
  | ok v B1 d1 =>
    have hv := getNum_range hN
    rw [hN] at hG
    have HG := Lib.hid hG
    clear hG hN
    simp only
    by_cases h0 : v = 0
    · subst h0
      unfold getSign
      rw [if_pos rfl]
      go_enter Try.func36, Try.ntmps36
      go_wp2_with fail
      refine HG.out.mono ?_
      rintro r w1 ⟨rfl, hE, hF⟩
      have HF := Lib.hid hF; have HE := Lib.hid hE
      clear hF hE HG
      go_wp2_with fail
      go_ret2
      exact ⟨rfl, HE.out, HF.out⟩
    · have e0 : (v == 0) = false := by simpa using h0
      obtain ⟨g, hg⟩ : ∃ g, g = getSign bs t v B1 d1 := ⟨_, rfl⟩
      rw [← hg]
      unfold getSign at hg
      rw [if_neg h0] at hg
      have Hg := Lib.hid hg
      clear hg h0
      go_enter Try.func36, Try.ntmps36
      go_wp2_with fail
      refine HG.out.mono ?_
      rintro r w1 ⟨rfl, hE, hF⟩
      have hb := rgetB_any w1 q p t cc A bs d1 B1 (some 36) hE ht (fun j hj => by injection hj with hj; omega) hn
      rw [show plI (some 36) = 36 from rfl] at hb
      have HB := Lib.hid hb; have HF := Lib.hid hF
      clear hb hE hF HG
      go_wp2_with fail
      refine HB.out.mono ?_
      rintro r1 w2 (⟨bit, B2, d2, hge, rfl, hE2, hF2⟩ | ⟨hge, rfl, hF2⟩)
      · have HF2 := Lib.hid (HF.out.trans hF2 (by simp)); have HE2 := Lib.hid hE2
        have hgg : g = .ok (if bit then -v else v) B2 d2 := by rw [Hg.out, hge]
        cases bit with
        | true =>
          have Hgg := Lib.hid hgg
          clear hge hE2 hF2 hgg HB
          go_wp2_with fail
          go_ret2
          rw [Hgg.out]
          exact ⟨rfl, HE2.out, HF2.out⟩
        | false =>
          have Hgg := Lib.hid hgg
          clear hge hE2 hF2 hgg HB
          go_wp2_with fail
          go_ret2
          rw [Hgg.out]
          exact ⟨rfl, HE2.out, HF2.out⟩
      · have HF2 := Lib.hid (HF.out.trans hF2 (by simp))
        have hgg : g = .bad 41 := by rw [Hg.out, hge]
        have Hgg := Lib.hid hgg
        clear hge hF2 hgg HB
        go_wp2_with fail
        go_ret2
        rw [Hgg.out]
        exact ⟨rfl, HF2.out⟩
end Go.Proofs.Ytfjlepnodmeaaaa
