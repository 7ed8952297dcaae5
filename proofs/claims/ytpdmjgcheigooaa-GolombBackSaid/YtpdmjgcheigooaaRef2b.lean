/-
  Contracts of the document's Get and GetSigned of numbers; conditions: the lengths are bounded as named.
-/
import Derived.Test.YtpdmjgcheigooaaRef2a
namespace Go.Proofs.Ytpdmjgcheigooaa
open Go.RowKit

set_option maxHeartbeats 4000000 in
theorem rgget_core (q : Nat) (A : Option Addr) (c : Nat) (l : List Bool) (i : Nat) (w : World) (h : Rr w q (.slice A l.length c) l i) (hl : l.length ≤ 100000000000000) (hc : l.length ≤ c) (R : Nat × Int × Nat) (hR : R = gget l i) :
    Calls Try.prog 28 #[.pointer (some ⟨q, 0, none⟩)] w fun e w' =>
      e = .returned (.tuple #[.int .u64 (R.1 : Int), .int .i64 R.2.1]) ∧ Rr w' q (.slice A l.length c) l R.2.2 ∧ Fr [q] w w' := by
  have hi := h.2.2.1
  obtain ⟨d, hd⟩ : ∃ d, d = l.drop i := ⟨_, rfl⟩
  have hdl : d.length = l.length - i := by rw [hd]; simp
  have Hd := Lib.hid hd; clear hd
  have Hdl := Lib.hid hdl; clear hdl
  have HR := Lib.hid hR; clear hR
  have Hh := Lib.hid h; clear h
  go_enter Try.func28, Try.ntmps28
  go_wp2_with fail
  go_loopw [4] (fun s4 wr => ∃ n : Nat, n ≤ 32 ∧ s4 = .int .i64 (n : Int) ∧ n ≤ zeros d ∧ Rr wr q (.slice A l.length c) l i ∧ Fr [] w wr) (fun s4 _ => 32 - (intOf s4).toNat)
  case atStart => exact ⟨0, by omega, rfl, by omega, Hh.out, Fr.refl _ _⟩
  case round =>
    obtain ⟨n, hn, rfl, hz, hrr, hF⟩ := hrel
    have hzl := zeros_le d
    obtain ⟨hB, hO, -, hne⟩ := hrr
    have d0 := hB.cell 0
    have d1 := hB.cell 1
    have d2 := hB.frozen 1
    have d3 := hB.lt
    simp at d0 d1
    have HB := Lib.hid hB; clear hB
    have Hhr : RowKit.Hid (Rr wr q (.slice A l.length c) l i) := Lib.hid ⟨HB.out, hO, hi, hne⟩
    have e1 : IntKind.i64.wrap ((i : Int) + (n : Int)) = (i : Int) + (n : Int) := IntWalk.i64_in _ (by omega)
    by_cases hn2 : n < 32
    · have f1 : decide ((n : Int) < 32) = true := by simp; omega
      have f2 : ((n : Int) == 32) = false := by simp; omega
      have e2 : IntKind.i64.wrap (2 * (n : Int)) = 2 * (n : Int) := IntWalk.i64_in _ (by omega)
      have e3 : IntKind.i64.wrap ((i : Int) + 2 * (n : Int)) = (i : Int) + 2 * (n : Int) := IntWalk.i64_in _ (by omega)
      have e4 : IntKind.i64.wrap ((i : Int) + 2 * (n : Int) + 1) = (i : Int) + 2 * (n : Int) + 1 := IntWalk.i64_in _ (by omega)
      by_cases hlt : i + n < l.length
      · obtain ⟨g, rfl, c1, c2, -, -⟩ := hO.cell (j := i + n) (by simp; omega)
        obtain ⟨b, hb⟩ : ∃ b, b = d.getD n false := ⟨_, rfl⟩
        have hc' : wr.cell? ⟨g, i + n, none⟩ = some (.int .u8 (b.toNat : Int)) := by
          rw [c1, hb, ← B8_u8b, Hd.out, getD_drop]
          simp [bitsU, List.getD_eq_getElem?_getD, hlt]
        clear c1 c2
        have f3 : decide ((i : Int) + (n : Int) < (l.length : Int)) = true := by simp; omega
        have e5 : ((i : Int) + (n : Int)).toNat = i + n := by omega
        have e6 : (0 : Int) ≤ (i : Int) + (n : Int) := by omega
        have e7 : (i : Int) + (n : Int) < (l.length : Int) := by omega
        cases b
        · have hz1 : n + 1 ≤ zeros d := by
            refine le_zeros d (n + 1) (by have := Hdl.out; omega) fun k hk => ?_
            rcases Nat.lt_or_ge k n with h | h
            · exact zeros_at d k (by omega)
            · obtain rfl : k = n := by omega
              exact hb.symm
          clear hb hO
          have f4 : (((false).toNat : Int) == 0) = true := rfl
          go_upto_region 2 with fail
          go_quiet (fail)
          go_wp2_with fail
          exact ⟨⟨n + 1, by omega, by go_num, hz1, Hhr.out.fr ((Fr.refl [] _).drewN _) (by simp) (by simp), hF.drewN _⟩, by simp [intOf]; omega⟩
        · have hz1 : zeros d = n := zeros_eq d n (fun k hk => zeros_at d k (by omega)) hb.symm
          have HZ := Lib.hid hz1
          clear hb hz hzl hz1
          have f4 : (((true).toNat : Int) == 0) = false := rfl
          by_cases hlen : l.length < i + (2 * n + 1)
          · have f5 : decide ((l.length : Int) < (i : Int) + 2 * (n : Int) + 1) = true := by simp; omega
            have hRe : R = (0, 11, i) := by rw [HR.out]; unfold gget; rw [← Hd.out, HZ.out, if_neg (by omega), if_pos hlen]
            subst hRe
            clear hO
            go_upto_region 2 with fail
            go_quiet (fail)
            go_wp2_with fail
            go_upto_region 6 with fail
            go_quiet (fail)
            go_wp2_with fail
            go_ret2
            exact ⟨rfl, Hhr.out.fr (((Fr.refl [] _).drewN _)) (by simp) (by simp), (hF.drewN _).mono (by simp)⟩
          · have f5 : decide ((l.length : Int) < (i : Int) + 2 * (n : Int) + 1) = false := by simp; omega
            obtain ⟨m, hm⟩ : ∃ m, m = 2 * n + 1 := ⟨_, rfl⟩
            have hm1 : i + m ≤ l.length := by omega
            obtain ⟨N, hN⟩ : ∃ N, N = number ((l.drop i).take m) := ⟨_, rfl⟩
            have hRe : R = (N - 1, 0, i + m) := by rw [HR.out]; unfold gget; rw [← Hd.out, HZ.out, if_neg (by omega), if_neg hlen, ← hm, Hd.out, hN]
            subst hRe
            have hb := got_bounds d n HZ.out (by have := Hdl.out; omega)
            rw [Hd.out, ← hm, ← hN] at hb
            have hb2 : 2 ^ (n + 1) ≤ 2 ^ 32 := Nat.pow_le_pow_right (by omega) (by omega)
            have n1 : 1 ≤ N := hb.1
            have n2 : N < 4294967296 := by omega
            clear hb hb2
            have HS := (hO.src.drop (k := i) (by omega)).take (k := m) (by omega)
            have hml : ((bitsU l).map B8 |>.drop i |>.take m) = (bitsU ((l.drop i).take m)).map B8 := by simp [bitsU, List.map_take, List.map_drop]
            rw [hml, if_neg (show ¬ c = i by omega), Option.map_some, add0] at HS
            have hck' : (c = i) = False := by simp; omega
            have em : (i : Int) + 2 * (n : Int) + 1 = (i : Int) + (m : Int) := by omega
            rw [em] at e4 f5
            have em2 := Lib.hid em
            have eb1 : (0 : Int) ≤ (i : Int) := by omega
            have eb2 : (0 : Int) ≤ (m : Int) := by omega
            have eb3 : (i : Int) + (m : Int) ≤ (c : Int) := by omega
            have eb4 : (0 : Int) ≤ (i : Int) + (m : Int) := by omega
            have eb5 : ((i : Int) + (m : Int)).toNat = i + m := by omega
            have eb6 : i ≤ i + m := by omega
            have eb7 : i + m - i = m := by omega
            have eb8 : i + m ≤ c := by omega
            clear hml
            have hNA := number_any (.slice (some ⟨g, i, none⟩) m (c - i)) ((l.drop i).take m)
            rw [← hN] at hNA
            have HN := Lib.hid (fun W (hW : Src W (.slice (some ⟨g, i, none⟩) m (c - i)) ((bitsU ((l.drop i).take m)).map B8)) => hNA W hW (by simp; omega))
            clear hNA
            have HS' := Lib.hid HS; clear HS
            have HNN := Lib.hid hN; clear hN
            have Hm := Lib.hid hm; clear hm
            go_upto_region 2 with fail
            go_quiet (fail)
            go_wp2_with fail
            go_upto_region 6 with fail
            go_quiet (fail)
            go_wp2_with fail
            generalize hW4 : World.drewN (World.drewN wr _) _ = W4
            have hF4 : Fr [] wr W4 := by rw [← hW4]; exact ((Fr.refl _ _).drewN _).drewN _
            have d0 := (hF4.cell (p := ⟨q, 0, none⟩) d3 (by simp)).trans d0
            have d1 := (hF4.cell (p := ⟨q, 1, none⟩) d3 (by simp)).trans d1
            have d2 := (hF4.frozen (p := ⟨q, 1, none⟩) d3 (by simp)).trans d2
            have d3 := Nat.lt_of_lt_of_le d3 hF4.size
            clear hW4
            go_quiet (exact (HN.out _ ((HS'.out.fr0 hF4).fr0 ((Fr.refl _ _).drewN _))).mono fun _ _ x => ⟨x.1, _, x.2⟩)
            go_wp2_with fail
            go_ret2
            have h5 := fun k => Rr.moved (l := l) ((HB.out.fr hF4 (by simp)).drewN k) ((hO.fr hF4 (by simp)).drewN k) hne (i + m) hm1
            rw [show ((i + m : Nat) : Int) = (i : Int) + (m : Int) by omega] at h5
            refine ⟨?_, h5 _, Fr.setCell (p := ⟨q, 1, none⟩) (((hF.trans hF4 (by simp)).drewN _).mono (by simp)) (.inl (by simp)) _⟩
            show Ending.returned (.tuple #[.int .u64 ((N : Int) - 1), .int .i64 0]) = _
            rw [show (N : Int) - 1 = ((N - 1 : Nat) : Int) by omega]
      · have hlt2 : n = d.length := by have := Hdl.out; omega
        have hz1 : zeros d = n := by omega
        have f3 : decide ((i : Int) + (n : Int) < (l.length : Int)) = false := by simp; omega
        have f5 : decide ((l.length : Int) < (i : Int) + 2 * (n : Int) + 1) = true := by simp; omega
        have hRe : R = (0, 11, i) := by rw [HR.out]; unfold gget; rw [← Hd.out, hz1, if_neg (by omega), if_pos (by omega)]
        subst hRe
        have HL2 := Lib.hid hlt2
        have HZ := Lib.hid hz1
        clear hlt2 hz1 hz hzl hO
        go_upto_region 2 with fail
        go_quiet (fail)
        go_wp2_with fail
        go_upto_region 6 with fail
        go_quiet (fail)
        go_wp2_with fail
        go_ret2
        exact ⟨rfl, Hhr.out.fr (((Fr.refl [] _).drewN _)) (by simp) (by simp), (hF.drewN _).mono (by simp)⟩
    · obtain rfl : n = 32 := by omega
      have hRe : R = (0, 21, i) := by rw [HR.out]; unfold gget; rw [← Hd.out, if_pos hz]
      subst hRe
      clear hz hzl hO
      go_upto_region 2 with fail
      go_quiet (fail)
      go_wp2_with fail
      go_ret2
      exact ⟨rfl, Hhr.out.fr (((Fr.refl [] _).drewN _)) (by simp) (by simp), (hF.drewN _).mono (by simp)⟩

theorem rgget_total (q : Nat) (v : Value) (l : List Bool) (i : Nat) (w : World) (h : Rr w q v l i) (hl : l.length ≤ 100000000000000) :
    Calls Try.prog 28 #[.pointer (some ⟨q, 0, none⟩)] w fun e w' =>
      e = .returned (.tuple #[.int .u64 ((gget l i).1 : Int), .int .i64 (gget l i).2.1]) ∧ Rr w' q v l (gget l i).2.2 ∧ Fr [q] w w' := by
  obtain ⟨A, c, rfl, hc⟩ := h.slice
  exact rgget_core q A c l i w h hl hc _ rfl

theorem gget_err (l : List Bool) (i : Nat) (h : (gget l i).2.1 ≠ 0) : (gget l i).1 = 0 := by
  unfold gget at h ⊢
  split
  · rfl
  · rename_i h1
    rw [if_neg h1] at h
    split
    · rfl
    · rename_i h2
      rw [if_neg h2] at h
      exact absurd rfl h

theorem rggetS_total (q : Nat) (v : Value) (l : List Bool) (i : Nat) (w : World) (h : Rr w q v l i) (hl : l.length ≤ 100000000000000) :
    Calls Try.prog 26 #[.pointer (some ⟨q, 0, none⟩)] w fun e w' =>
      e = .returned (.tuple #[.int .i64 (ggetS l i).1, .int .i64 (ggetS l i).2.1]) ∧ Rr w' q v l (ggetS l i).2.2 ∧ Fr [q] w w' := by
  have HG := Lib.hid (rgget_total q v l i w h hl)
  have hn := gget_num l i
  have he := gget_err l i
  have hs : ggetS l i = (unfolded (gget l i).1, (gget l i).2.1, (gget l i).2.2) := by
    unfold ggetS
    split
    · rename_i h0; rw [h0]
    · rename_i h0; rw [he h0]; rfl
  rw [hs]
  generalize gget l i = g at HG hn ⊢
  obtain ⟨x, E, j⟩ := g
  simp only at HG hn ⊢
  clear h he hs
  have HU := fun w => Lib.hid (runfold_any x w (by omega))
  go_enter Try.func26, Try.ntmps26
  go_wp2_with fail
  refine HG.out.mono ?_
  rintro e w2 ⟨rfl, hh⟩
  have HH := Lib.hid hh; clear hh
  go_wp2_with fail
  refine (HU _).out.mono ?_
  rintro e w3 ⟨rfl, rfl⟩
  go_wp2_with fail
  go_ret2
  exact ⟨rfl, HH.out⟩
end Go.Proofs.Ytpdmjgcheigooaa
