/-
  The law BookLearns answers true whatever its input, out of the contracts; no condition.
-/
import Derived.Test.YtfjlepnodmeaaaaBookAlive
namespace Go.Proofs.Ytfjlepnodmeaaaa
open Go.RowKit

theorem times_le (t : Nat) (l : List Ev) (k : Nat) : ∀ j, (timesN t l k).2.n ≤ (timesN t l (k + j)).2.n
  | 0 => Nat.le_refl _
  | j + 1 => Nat.le_trans (times_le t l k j) (puts_le _ _)

/-- One more time. -/
theorem Quill.again {X : EncSpec} {Y : DecSpec} {Z : BookSpec X Y} {w0 w : World} {b p t v k : Nat} {D : List Nat} (ht : t ≤ 15) (hv : v < 15) (hk : k ≤ 200) (h : Quill Z w0 w b (timesN t (numEvs v) k).1 p D (timesN t (numEvs v) k).2) :
    Calls Try.prog 25 #[pt b, pt p, .int .i64 (t : Int), .int .i64 (v : Int)] w fun r w' => r = .returned (.int .i64 0) ∧ ∃ D', Quill Z w0 w' b (timesN t (numEvs v) (k + 1)).1 p D' (timesN t (numEvs v) (k + 1)).2 := by
  have hn := timesN_n t (numEvs v) k
  have hl := numEvs_length (v := v) (by omega)
  have hk2 : k * (numEvs v).length ≤ 200 * 41 := Nat.mul_le_mul hk hl
  refine (Z.put w b _ p D _ (t : Int) (v : Int) h.bk h.li.en h.sep h.fine h.li.ok (by omega) (by unfold InI; omega) (by unfold InI; omega)).mono fun r w' hp => ?_
  have hp := h.posted (a := (1, (t : Int), 0, (v : Int))) (Fr.refl [] _) rfl hp
  have hl : evsOf (1, (t : Int), 0, (v : Int)) = some (numEvs v) := by
    unfold evsOf actEvs
    rw [if_neg (by simp only; omega), if_pos rfl, if_pos (by simp only; omega)]
    rfl
  unfold QuillPost errOf bkAct enAct at hp
  rw [hl] at hp
  obtain ⟨hr, D', hq, -, -⟩ := hp
  exact ⟨hr, D', hq⟩

set_option maxRecDepth 20000 in
set_option maxHeartbeats 4000000 in
theorem learns5_law {X : EncSpec} {Y : DecSpec} (Z : BookSpec X Y) (v t : Int) (w : World) :
    Calls Try.prog 7 #[.int .i64 v, .int .i64 t] w fun e w' => e = .returned (.bool true) ∧ Fr [] w w' := by
  have HA := Lib.hid fun W => alive5_any Z W
  by_cases hr : (0 ≤ v ∧ v ≤ 14) ∧ 0 ≤ t ∧ t ≤ 15
  · obtain ⟨V, rfl⟩ : ∃ V : Nat, v = (V : Int) := ⟨v.toNat, by omega⟩
    obtain ⟨T, rfl⟩ : ∃ T : Nat, t = (T : Int) := ⟨t.toNat, by omega⟩
    have hV : V < 15 := by omega
    have hT : T ≤ 15 := by omega
    have e1 : decide ((14 : Int) < (V : Int)) = false := by simp; omega
    have e3 : decide ((V : Int) < 0) = false := by simp
    have e4 : decide ((T : Int) < 0) = false := by simp
    have e2 : decide ((15 : Int) < (T : Int)) = false := by simp; omega
    have hle := learns hV T
    have hle1 := times_le T (numEvs V) 100 100
    have hn1 := timesN_n T (numEvs V) 200
    have hnl := numEvs_length (v := V) (by omega)
    obtain ⟨n1, h1⟩ : ∃ n1, n1 = (timesN T (numEvs V) 100).2.n := ⟨_, rfl⟩
    obtain ⟨n2, h2⟩ : ∃ n2, n2 = (timesN T (numEvs V) 200).2.n := ⟨_, rfl⟩
    rw [← h1, ← h2] at hle
    change _ ≤ (timesN T (numEvs V) 200).2.n at hle1
    rw [← h1, ← h2] at hle1
    rw [← h2] at hn1
    have hn2 : n2 ≤ 10000 := by
      have : 200 * (numEvs V).length ≤ 200 * 41 := Nat.mul_le_mul_left _ hnl
      omega
    have H1 := Lib.hid h1; have H2 := Lib.hid h2
    have hle2 : n2 ≤ n1 + (n1 / 2 + 2) := by omega
    clear hr h1 h2 hn1 hnl hle
    go_enter Try.func7, Try.ntmps7
    go_wp2_with fail
    refine (Z.new w).mono ?_
    rintro e w1 ⟨b, rfl, hb, hF1, nb⟩
    have HB := Lib.hid hb; have HF1 := Lib.hid hF1; have NB := Lib.hid nb
    clear hb hF1 nb
    go_wp2_with fail
    refine (new_live (X := X) w1 HF1.out).mono ?_
    rintro e w2 ⟨p, D, rfl, hL, hF2, np⟩
    have hq : Quill Z w w2 b newBook p D encNew := ⟨Z.fr HB.out hF2 (by simp), hL, NB.out, fun hm => by have := np b hm; have := Z.lt HB.out; omega, newBook_fine⟩
    have HQ := Lib.hid hq
    clear hL hF2 np hq HB HF1 NB
    go_wp2_with fail
    go_loopw [7] (fun s7 wr => ∃ (i : Nat) (D : List Nat), i ≤ 100 ∧ s7 = .int .i64 (i : Int) ∧ Quill Z w wr b (timesN T (numEvs V) i).1 p D (timesN T (numEvs V) i).2) (fun s7 _ => 100 - (intOf s7).toNat)
    case atStart => exact ⟨0, D, by omega, rfl, HQ.out⟩
    case round =>
      obtain ⟨i, D, hi, rfl, hq⟩ := hrel
      by_cases hlt : i < 100
      · have eg : decide ((i : Int) < 100) = true := by simp; omega
        have HP := Lib.hid (hq.again hT hV (by omega))
        clear hq HQ
        go_wp2_with fail
        refine HP.out.mono ?_
        rintro r w3 ⟨rfl, D', hq'⟩
        have HQ' := Lib.hid hq'
        clear hq' HP
        go_wp2_with fail
        exact ⟨⟨i + 1, D', by omega, by simp, HQ'.out⟩, by simp [intOf]; omega⟩
      · have eg : decide ((i : Int) < 100) = false := by simp; omega
        have hi100 : i = 100 := by omega
        have hq2 : Quill Z w wr b (timesN T (numEvs V) 100).1 p D (timesN T (numEvs V) 100).2 := by rw [hi100] at hq; exact hq
        have HQ2 := Lib.hid hq2
        have hby := bytes_live wr p D _ hq2.li (by have := H1.out; omega)
        rw [← H1.out] at hby
        have HBy := Lib.hid hby
        clear hq hq2 hby hi100 hlt hi HQ
        go_wp2_with fail
        refine HBy.out.mono ?_
        rintro r w3 ⟨A, c, rfl, hS, hL, hF3⟩
        have HQ3 := Lib.hid (HQ2.out.fr0 hF3)
        clear hS hL hF3 HQ2 HBy
        go_wp2_with fail
        go_loopw [9] (fun s9 wr => ∃ (i : Nat) (D : List Nat), i ≤ 100 ∧ s9 = .int .i64 (i : Int) ∧ Quill Z w wr b (timesN T (numEvs V) (100 + i)).1 p D (timesN T (numEvs V) (100 + i)).2) (fun s9 _ => 100 - (intOf s9).toNat)
        case atStart => exact ⟨0, D, by omega, rfl, HQ3.out⟩
        case round =>
          obtain ⟨j, D, hj, rfl, hq⟩ := hrel
          by_cases hlt : j < 100
          · have eg2 : decide ((j : Int) < 100) = true := by simp; omega
            have HP := Lib.hid (hq.again hT hV (by omega))
            clear hq HQ3
            go_wp2_with fail
            refine HP.out.mono ?_
            rintro r w4 ⟨rfl, D', hq'⟩
            have HQ' := Lib.hid hq'
            clear hq' HP
            go_wp2_with fail
            exact ⟨⟨j + 1, D', by omega, by simp, HQ'.out⟩, by simp [intOf]; omega⟩
          · have eg2 : decide ((j : Int) < 100) = false := by simp; omega
            have hj100 : j = 100 := by omega
            have hq2 : Quill Z w wr b (timesN T (numEvs V) 200).1 p D (timesN T (numEvs V) 200).2 := by rw [hj100] at hq; exact hq
            have HQ2 := Lib.hid hq2
            clear hq hq2 hj100 hlt hj HQ3
            go_wp2_with fail
            refine (HA.out _).mono ?_
            rintro r w4 ⟨rfl, hF4⟩
            have hq4 := HQ2.out.fr0 hF4
            have hby := bytes_live w4 p D _ hq4.li (by have := H2.out; omega)
            rw [← H2.out] at hby
            have HBy := Lib.hid hby
            have HQ4 := Lib.hid hq4
            clear hF4 hq4 hby HQ2
            go_wp2_with fail
            refine HBy.out.mono ?_
            rintro r w5 ⟨A2, c2, rfl, hS, hL, hF5⟩
            have HF5 := Lib.hid (HQ4.out.li.fr.trans hF5 (by simp))
            clear hS hL hF5 HBy HQ4
            have ec : decide ((n2 : Int) - (n1 : Int) ≤ (n1 : Int) / 2 + 2) = true := by simp; omega
            go_wp2_with fail
            go_ret
            exact ⟨rfl, HF5.out⟩
  · have hex : v < 0 ∨ (0 ≤ v ∧ 14 < v) ∨ ((0 ≤ v ∧ v ≤ 14) ∧ t < 0) ∨ ((0 ≤ v ∧ v ≤ 14) ∧ 0 ≤ t ∧ 15 < t) := by omega
    rcases hex with h | ⟨h1, h2⟩ | ⟨⟨h1, h2⟩, h3⟩ | ⟨⟨h1, h2⟩, h3, h4⟩
    · have e1 : decide (v < 0) = true := by simpa using h
      clear h hr
      go_enter Try.func7, Try.ntmps7
      go_wp2_with fail
      refine (HA.out _).mono ?_
      rintro r w4 ⟨rfl, hF4⟩
      go_wp2_with fail
      go_ret
      exact ⟨rfl, hF4⟩
    · have e1 : decide (v < 0) = false := by simp; omega
      have e2 : decide (14 < v) = true := by simpa using h2
      clear h1 h2 hr
      go_enter Try.func7, Try.ntmps7
      go_wp2_with fail
      refine (HA.out _).mono ?_
      rintro r w4 ⟨rfl, hF4⟩
      go_wp2_with fail
      go_ret
      exact ⟨rfl, hF4⟩
    · have e1 : decide (v < 0) = false := by simp; omega
      have e2 : decide (14 < v) = false := by simp; omega
      have e3 : decide (t < 0) = true := by simpa using h3
      clear h1 h2 h3 hr
      go_enter Try.func7, Try.ntmps7
      go_wp2_with fail
      refine (HA.out _).mono ?_
      rintro r w4 ⟨rfl, hF4⟩
      go_wp2_with fail
      go_ret
      exact ⟨rfl, hF4⟩
    · have e1 : decide (v < 0) = false := by simp; omega
      have e2 : decide (14 < v) = false := by simp; omega
      have e3 : decide (t < 0) = false := by simp; omega
      have e4 : decide (15 < t) = true := by simpa using h4
      clear h1 h2 h3 h4 hr
      go_enter Try.func7, Try.ntmps7
      go_wp2_with fail
      refine (HA.out _).mono ?_
      rintro r w4 ⟨rfl, hF4⟩
      go_wp2_with fail
      go_ret
      exact ⟨rfl, hF4⟩
end Go.Proofs.Ytfjlepnodmeaaaa
